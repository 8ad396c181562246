import PyProof.Rows.All
import Wide.All
import OpenK.AllK
import Wide.FinOn
import Lean
import PyProof.EqAt
import PyProof.EqKinds
import PyProof.TupleCall
import PySem.Challenge.RW_fewrooms_k92_whole_never_by_all_stands
noncomputable section
open PyProof.Rows renaming wpS_bind→B65,wpS_pure→B67,pendingOf→B68,IntsAre→B71,wpS_forRange→B78,wpS_modify→B82,pairsOf→B86,wpS_mono→B92,SortKind→B98,wpS_get→C05,listUpdate_at→C15,seqEpoch_at→C28,reverseSlice'_eq→C33
open PySem renaming wpAny_bind→B62,wpAny_pure→B63,sizeLine→B64,Program→B66,starEach→B69,bootBuiltins→B70,wpAny_holding→B72,codeAny_builtin→B73,wpAny_newObj_type→B74,mainGlobals→B75,wpAny_mono→B76,sizeLine_eq→B77,wpAny_call_entry→B79,compareOp→B80,wpAny_truthy_bool→B81,plainId_quiet→B83,wpAny_tryCatch→B84,FuncData→B85,wpAny_pyIter_list→B87,sysModules→B88,wpAny_setState_of→B89,binaryOp→B90,SetTable→B91,wpAny_seqItems→B93,codeAny_mono→B94,Arguments→B95,wpAny_typeNameOfWhole_keyiter→B96,codeAny→B97,wpAny_rule→B99,wpAny_passesOwn→C00,behindInMarks→C01,holding→C02,wpAny_setField→C03,wpAny_typeNameOf_keyiter→C04,tupleKind_room_in1→C06,wpAny_updateSeq→C07,wpAny_of_eq→C08,wpAny_letGo→C09,intKind→C10,firstArgMember→C11,assignEach→C12,NameKind→C13,wpAny_askSetting→C14,sliceBounds→C16,tupleKind→C17,GenState→C18,wpAny_pyIter_tuple→C19,bindArgs→C20,wpAny_Call_Name_kw→C21,Keyword→C22,storedH→C23,foldedSetIterable→C24,wpAny_pyIter_enum→C25,wpAny_pyNext_list_item→C26,keywordEach→C27,wpAny_standAt→C29,attributeBase→C30,wpAny_attempt→C31,wpAny_newList→C32,wpAny_pyNext_list_end→C34,builtinLookup_eq_fast→C35,builtinsNs→C36,wpAny_execs_nil→C37,letOwnedTupleGo→C38,wpAny_loadPart'→C39,call_meets→C40,codeAny_of_tree→C41,wpAny_ite_false→C42,codeAny_call_builtin→C43,wpAny_pyIter_keyiter→C44
open Array renaming length_toList→C2,getElem?_eq_getElem→C4,toList_append→E6,getElem?_toList→F0,getD_eq_getD_getElem?→F1,toList_reverse→V2,toList_push→V7,perm_iff_toList_perm→Y0,getElem?_setIfInBounds_ne→j9,toList_setIfInBounds→t5,size_map→z9,getElem?_eq_none→A33,getElem_toList→A54,toList→A97,toList_zip→B11,toList_map→B12,replicate→B24
open Bool renaming false_ne_true→B4,eq_false_iff→F7,false_eq_true→G6,eq_iff_iff→L7,and_eq_true→P2,or_eq_true→T6,and_false→k8,true_and→o5,false_and→y7,and_eq_true_iff→A58,not_true→A82,not_false→B31,false_or→B42,and_true→B52
open Classical renaming byContradiction→G4,choose→B13
open Eq renaming symm→B60
open False renaming elim→W8
open ForInStep renaming yield→P0,done→k7
open Int renaming toNat_natCast→E4,le_refl→O4,emod_lt_of_pos→U8,natCast_nonneg→X0,emod_nonneg→X6,fdiv_eq_ediv_of_nonneg→X9,fmod_eq_emod_of_nonneg→t0,le_of_lt→u8,negSucc→A23,zero_add→B02,natCast_pow→B27
open List renaming length_map→A0,getElem?_eq_some_iff→A3,getElem?_eq_getElem→A4,mem_singleton→A6,mem_append→A8,mem_of_getElem?→A9,length_append→B0,map_append→B1,mem_cons_of_mem→B3,mem_cons→B6,length_singleton→B8,getElem?_map→B9,size_toArray→C0,length_take→C5,map_cons→C7,take_add_one→C8,take_of_length_le→D0,mem_map→D2,length_cons→D3,mem_filter→D6,mem_cons_self→D8,mem_range→D9,getElem?_of_mem→E5,replicate→E7,range→F2,pairwise_iff_getElem→F8,getElem?_append_right→G1,mem_append_right→G2,drop_eq_getElem_cons→G3,length_filterMap_le→G7,getElem?_append_left→J2,all_eq_true→J3,pairwise_map→J4,getElem?_eq_none→J9,filterMap_cons→K0,take_length→L4,nodup_cons→L9,getElem_of_mem→M7,length_drop→M9,not_mem_nil→O0,filter_cons→O1,length_eq_zero_iff→O3,mem_of_mem_take→O5,length_nil→O9,append_assoc→P3,length_filter_le→P4,append_nil→P7,pairwise_cons→P8,pairwise_append→P9,mem_map_of_mem→Q3,length_replicate→Q5,lookup_cons_self→Q6,mem_filterMap→Q7,getElem?_take_of_lt→Q8,mem_of_mem_drop→R7,length→T3,map_congr_left→T9,pairwise_lt_range→U1,getD_eq_getElem?_getD→U2,filterMap_append→U9,take_sublist→V4,foldl_cons→V5,find?_cons→V6,drop_sublist→V8,any_cons→W3,replicate_succ→W4,reverse_append→W5,getElem_mem→W7,length_pos_of_mem→W9,take_append_drop→X4,pairwise_reverse→X5,mem_iff_getElem→Y1,replicate_succ'→Y2,getElem_toArray→Y3,mem_of_find?_eq_some→Y7,lookup_cons→Z0,filter_eq_self→Z3,map_map→Z8,pairwise_filterMap→b9,getElem?_set_self→c8,drop_eq_nil_of_le→d8,drop_of_length_le→d9,reverse_cons→i8,flatten_cons→i9,mem_reverse→m7,nodup_range→m9,mem_append_left→n4,sum_cons→p6,length_pos_iff→r8,nodup_iff_pairwise_ne→t6,perm_ext_iff_of_nodup→t7,zip_cons_cons→t8,map_nil→t9,filter_append→y4,drop_drop→y9,drop_zero→z8,getElem?_zip_eq_some→A01,getElem_drop→A08,getElem_take→A09,reverse_perm→A10,ext_getElem?→A13,nodup_append→A14,filter_congr→A15,pairwise_singleton→A22,cons_append→A24,perm_middle→A25,any_eq_true→A26,drop_length→A29,range_succ_eq_map→A32,of_mem_zip→A36,nil_append→A37,perm_append_comm→A38,find?_some→A42,length_zip→A43,pairwise_and_iff→A46,getElem?_set_ne→A49,reverse_reverse→A55,length_reverse→A64,toList_toArray→A69,map_eq_nil_iff→A70,getElem?_drop→A77,find?_eq_none→A78,filterMap_map→A79,map_singleton→A84,mem_replicate→A85,any_eq_false→A87,mapM_toArray→A94,flatMap_cons→A95,length_range→A96,length_set→B17,forIn_cons→B19,range_succ→B26,filter_nil→B28,drop_take→B30,foldl_nil→B32,mapM_cons→B34,foldl→B36,all_cons→B41,findIdx?→B44,take_nil→B45,take_add→B46,map→B49,map_drop→B50,map_take→B51
open List.Nodup renaming length_le_of_subset→O6
open List.Perm renaming append_left→l7
open Nat renaming le_refl→A7,ne_of_lt→C6,lt_of_lt_of_le→E3,zero_le→F3,le_trans→F5,not_lt_zero→J5,lt_succ_of_lt→L5,pow_le_pow_right→L6,eq_of_testBit_eq→R8,lt_irrefl→R9,testBit_two_pow→U0,le_of_lt→U5,pow_succ→U7,ne_of_gt→V9,mul_comm→W2,mul_assoc→W6,lt_of_le_of_lt→X1,lt_trans→X3,le_of_not_lt→Y9,le_succ→Z2,mod_lt→Z7,testBit_and→c5,mul_add→j8,lt_trichotomy→k5,testBit_or→k9,add_zero→l9,succ_ne_self→m5,add_comm→u7,add_sub_cancel→u9,lt_pow_two_of_testBit→A00,mul_left_comm→A12,add_assoc→A18,add_sub_cancel_left→A19,two_pow_pos→A39,zero_div→A40,pow_lt_pow_right→A57,add_mod→A67,mul_mod→A68,sub_zero→A99,sub_self→B00,zero_add→B01,le_add_right→B05,mod_eq_of_lt→B06,lt_succ_self→B09,add_mul→B21,one_mul→B22,le_antisymm→B23,min_eq_left→B25
open Ne renaming symm→J8
open Option renaming toList_some→C9,map_some→T4,getD_some→Z1,isSome_iff_exists→Z4,isSome_map→j4,map_eq_some_iff→A31,getD_none→B04,none→B59
open Option.some renaming inj→D5
open Or renaming inl→E8,inr→A05
open PyProof renaming noPylong_small→c9
open PyProof.Rows renaming callWith_type1→P6
open PyProof.Rows.IntsAre renaming int_at→X7
open PySem renaming mem_of_lookup→K9,call→B37
open PySem.Around renaming under_plainId→F4,frames_deeper→A50,under_plain→A81
open PySem.AutoSeq1 renaming sub_tuple_tuple→A04
open PySem.Builtin renaming bitAnd→O8,bitNot→V1,bitOr→A73
open PySem.Builtin.Builtins renaming bindParams→T8
open PySem.Builtin.Dict renaming updateFrom→A21,pairItems→A34
open PySem.Builtin.Dict_items renaming ownsTuple→o9
open PySem.Builtin.Frozenset renaming updateFrom→o6,newClass→B29,sizeOf→B38,slot0→B47
open PySem.Builtin.List renaming listTooLong→Z6,listLengthHint→p9
open PySem.Builtin.Range renaming rangeSize→S0,small→A65
open PySem.Builtin.SmallTypes renaming calledThroughType→Y5,newRecord→n8,nextOf→y8,ownedTupleFields→A66
open PySem.Builtin.Tuple renaming tupleCompareSizes→i0,tupleExact→A06
open PySem.Calls renaming call_function_entry→Y6,callWith_builtin→d7,evalArgs_plain→A52
open PySem.Code renaming quiet_builtin→A80
open PySem.Data renaming fields→A63,cell→B15
open PySem.F renaming plainAttrs_list→J1,slot_list_append→J6,type_list_append→J7,called_set→M8,plain_min_loop→O7,slot_dict_keyiterator_next→P5,plainAttrs_tuple→Q9,slot_tuple_index→R0,type_tuple_index→R4,slot_tuple_iterator_next→U3,plain_min_loop→U4,slot_tuple_lt→X2,args_tuple_add_2→Z5,slot_list_getattribute→Z9,args_tuple_lt_2→a9,entry_tuple_add→b7,entry_tuple_lt→d0,slot_tuple_add→d6,entry_min_loop→f9,args_dict_keyiterator_next_1→m4,entry_dict_keyiterator_next→n0,args_tuple_iterator_next_1→n6,entry_tuple_iterator_next→q5,plain_list_iadd→A17,entry_min_loop→A28,args_object_init_2→A53,called_tuple→A60,plain_tuple_new→A91,entry_type_call→A93,typeCall_set_1→B07,entry_set_init→B08,slot_dict_iter→B10
open PySem.Heap renaming get?_push_of_some→A5,get?_push_size→B5,lt_size→B7,get?_update_other→E2,get?_update_self→G8,size_push→N9,get?_push_ne→j7,size_update→m8
open PySem.Heap.IsSliceOf renaming new→B61
open PySem.Heap.SameBut renaming update→Q2
open PySem.IsRange renaming new→B58
open PySem.NameKind renaming free→L0,cell→B43
open PySem.Obj renaming mapSeq→Q1,data_mapFields→U6,isFreed_of_fields→l8,mapFields→o8,cls_mapFields→A07
open PySem.Paired renaming length→C1,snoc→T5
open PySem.PassesOwn renaming never→D7
open PySem.SeqAt renaming notIn_listAt→A76
open PySem.SeqAt.EqAt renaming int_int→a8,int_str→A71,str_int→A72,same→B18
open PySem.SeqAt.RcNeAt renaming lists_lengths→c6,lists→A11
open PySem.SetTable renaming below→E9,insertAt→F6,bits→G9,runEnd→P1,turns→V0,sizeAbove→b8,fits→n9,fill→A20,grown→A61,layClean→A92,has→B55
open PySem.SetTable.below renaming go→j6
open PySem.SetTable.layClean renaming free→F9
open PySem.SetTable.probe renaming go→G5
open PySem.SetTable.sizeAbove renaming go→A41
open PySem.Str renaming ofString→D4,empty→R6
open PySem.Value renaming ref→E1,none→Q0,int→R5,type→X8,bool→p7,isInt→A16,notImplemented→A51,isInt_shape→A86,str→B14,isStrOf→B40
open PySem.W renaming kia_one→L8,findIn→Q4,keepIn→T0,fnOf→T1,kitOne→Y4,kla_fn→Y8,codeIn→k6,kdu_collect→q9,nsIn→w5,methodObj→A02,specialIn→A03,cellsFrom_some→A30,instObj→A35,kat_nil→A44,kas_first_eq→A56,lookIn→A59,noTabs→A62,mroIn→A74,kitx_tuple→A75,mg_of→A83,hasDictIn→A88,kitx_list→A89,kitx_dict→A90,plainGet→B03,takesIn→B16,tabObj→B33,kHook→B39,tabIn→B48,isFn→B54
open PySem.W.Looks renaming here→w6,ld→A27
open PySem.W.OpenLaw renaming wellSaid→B35,row→B56
open PySem.W.OpenRow renaming toRowW→B53
open PySem.Walks renaming list→A47
open PySem.pickOrder renaming go→A98
open StateT renaming run_pure→B20
open Std.Legacy.Range renaming size→A45,forIn_eq_forIn_range'→A48
open Sum renaming inl→G0,inr→O2
open Sum.inl renaming inj→p8
open Sum.inr renaming inj→B57
open True renaming intro→V3
set_option Elab.async false
set_option linter.all false
set_option maxRecDepth 100000
set_option maxHeartbeats 0
namespace Fw
open PySem
noncomputable def top (i:Nat):Stmt:=PySem.Challenge.pw_fewrooms_k92_whole_never_by_all_stands.main.body.getD i (.Pass ⟨0,0,0,0⟩)
abbrev qEK:Stmt:=top 1
abbrev qFT:Stmt:=top 2
abbrev qEJ:Stmt:=top 3
abbrev qGQ:Stmt:=top 4
abbrev qFS:Stmt:=top 5
noncomputable abbrev qDT:Stmt:=top 7
noncomputable abbrev qDR:Stmt:=top 8
noncomputable abbrev qFQ:Stmt:=top 9
noncomputable abbrev qDB:Stmt:=top 11
noncomputable abbrev qFU:Stmt:=top 12
noncomputable abbrev qCT:Stmt:=top 13
noncomputable abbrev qGR:Stmt:=top 14
noncomputable abbrev qFR:Stmt:=top 15
noncomputable abbrev qAI:Stmt:=top 17
noncomputable abbrev qCO:Stmt:=top 18
noncomputable abbrev qGP:Stmt:=top 19
noncomputable abbrev qCU:Stmt:=top 21
noncomputable abbrev qIW:Stmt:=top 22
noncomputable abbrev qDA:Stmt:=top 23
abbrev qDS:Stmt:=top 25
abbrev qCI:Stmt:=top 26
abbrev qD9:Stmt:=top 27
noncomputable abbrev qJ0:Stmt:=top 29
noncomputable abbrev qMB:Stmt:=top 30
noncomputable abbrev qDC:Stmt:=top 31
noncomputable abbrev qEL:Stmt:=top 32
noncomputable abbrev qR5:Stmt:=top 33
noncomputable abbrev qJ1:Stmt:=top 34
noncomputable abbrev qMA:Stmt:=top 35
noncomputable abbrev qGT:Stmt:=top 36
noncomputable abbrev qGS:Stmt:=top 37
noncomputable abbrev qMD:Stmt:=top 38
noncomputable abbrev qFV:Stmt:=top 39
noncomputable abbrev qME:Stmt:=top 40
noncomputable abbrev qMF:Stmt:=top 41
noncomputable abbrev qIY:Stmt:=top 42
abbrev qIX:Stmt:=top 43
noncomputable abbrev qMC:Stmt:=top 44
abbrev qIZ:Stmt:=top 45
abbrev qCV:Stmt:=top 46
noncomputable abbrev qE8:Stmt:=top 47
noncomputable def dA (s:Stmt):B95:=match s with
 |.FunctionDef _ a _ _ _ _ _ _ _ _=>a
 |_=>{posonlyargs:=[],args:=[],vararg:=none,kwonlyargs:=[],kw_defaults:=[],kwarg:=none,defaults:=[]}
noncomputable def dB (s:Stmt):List Stmt:=match s with
 |.FunctionDef _ _ b _ _ _ _ _ _ _=>b
 |_=>[]
noncomputable def dS (s:Stmt):Scope:=match s with
 |.FunctionDef _ _ _ _ _ _ sc _ _ _=>sc
 |_=>{kind:=.function,names:=[],isGenerator:=false,isCoroutine:=false}
noncomputable abbrev so (s:String):Str:=PySem.Str.ofString s
noncomputable abbrev kh (P:Params)(s:Str):Int:=PySem.PyData.keyHash P s
noncomputable abbrev hde (P:Params)(s:String)(n:Nat)(v:Value):DictEntry:=⟨kh P (so s),.str (so s) n,v⟩
noncomputable abbrev hvs (s:String)(n:Nat):Value:=.str (so s) n
noncomputable abbrev hcut (n:Nat):Value:=hvs "/claim/cut.py" n
noncomputable abbrev hfd (x q:String)(s:Stmt)(a b c d:Value)(e:Option Addr)(f g:Value)(i:Addr):B85:=⟨so x,so q,dA s,.stmts (dB s),dS s,3,[],a,b,c,d,e,f,g,i⟩
noncomputable abbrev htp (d:Data) (s:Array (Option Value)):Obj:=⟨.type "tuple",none,d,s⟩
noncomputable abbrev hcd (d:Data) (s:Array (Option Value)):Obj:=⟨.type "code",none,d,s⟩
noncomputable abbrev hfn (d:Data) (s:Array (Option Value)):Obj:=⟨.type "function",none,d,s⟩
noncomputable abbrev ht0:Obj:=htp (.seq #[]) #[]
noncomputable def hvl:List String->Nat->List Value
 |[],_=>[]
 |x::r,n=>hvs x n::hvl r (n+1)
noncomputable abbrev hts (l:List String)(n:Nat):Obj:=htp (.seq (hvl l n).toArray) #[]
noncomputable abbrev hco (x:String)(t:Nat)(ln ac fl:Int)(b:Nat)(md e:Int)(n:Nat):Obj:=hcd (.fields #[hvs x t,hvs x (t+1),hcut (t+2),.int ln 0,.int ac 0,.int 0 0,.int 0 0,.int fl 0,.ref b,.bool .true,.int md 0,.ref (b+1),.none,.ref (b+2),.ref (b+3),.ref (b+4),.int e 0,.int ln 0,hcut n]) #[]
noncomputable abbrev hcp (x:String)(t:Nat)(ln ac:Int)(b:Nat)(md e:Int):Obj:=hcd (.fields #[hvs x t,hvs x (t+1),hcut (t+2),.int ln 0,.int ac 0,.int 0 0,.int 0 0,.int 3 0,.ref b,.bool .true,.int md 0,.ref (b+1),.none,.none,.none,.ref (b+2),.int e 0,.int ln 0,hcut (t+4)]) #[]
noncomputable abbrev hfo (x:String)(s:Stmt)(m:String)(t c:Nat):Obj:=hfn (.func (hfd x x s .none .none .none (hvs m t) .none (.ref c) .none 0)) #[]
noncomputable def hpK:Params->PySem.W.Frag:=λP=>
 (nat_lit 2,Obj.mk .none .none (.dict #[]) #[])::
 (nat_lit 3,Obj.mk (.type "dict") .none (.dict #[hde P "__name__" 165 (hvs "law_fewrooms_k92_whole_never_by_all_stands" 381),hde P "__doc__" 166 .none,hde P "__package__" 167 .none,hde P "__loader__" 168 (.builtin "__main__.__loader__#opaque"),hde P "__spec__" 169 .none,hde P "__annotations__" 170 (.ref 6),hde P "__builtins__" 171 (.ref 4),hde P "__file__" 173 (hcut 172),hde P "__cached__" 174 .none,hde P "is_number" 195 (.ref 21),hde P "is_below" 203 (.ref 28),hde P "is_rising" 213 (.ref 35),hde P "is_pair" 220 (.ref 42),hde P "is_stand" 229 (.ref 49),hde P "all_needed" 242 (.ref 56),hde P "renumbered" 248 (.ref 61),hde P "part_net" 254 (.ref 66),hde P "fault_of_do" 269 (.ref 73),hde P "fault_of" 279 (.ref 80),hde P "stand_behind" 285 (.ref 85),hde P "has_all" 291 (.ref 90),hde P "moves_of" 297 (.ref 95),hde P "stands_reached" 314 (.ref 102),hde P "best_end" 320 (.ref 107),hde P "plan_to" 329 (.ref 114),hde P "part_numbers" 337 (.ref 119),hde P "fewest" 343 (.ref 124),hde P "never_paper" 354 (.ref 131),hde P "are_closed" 368 (.ref 138),hde P "never_come_to" 374 (.ref 143),hde P "shows_never" 380 (.ref 148),hde P "_law_begin" 390 (.ref 155),hde P "_law_take" 403 (.ref 162),hde P "_law_some_needs" 414 (.ref 169),hde P "_law_tree_net" 426 (.ref 176),hde P "_law_net" 432 (.ref 181),hde P "_law_asked" 442 (.ref 188),hde P "_law_word" 448 (.ref 193),hde P "_law_behind" 454 (.ref 198),hde P "_law_played" 466 (.ref 205),hde P "_law_does" 472 (.ref 210),hde P "_law_is_move" 480 (.ref 217),hde P "_law_come" 486 (.ref 222),hde P "_law_bits" 492 (.ref 227),hde P "_law_least" 498 (.ref 232),hde P "_law_works" 504 (.ref 237),hde P "_law_part" 510 (.ref 242),hde P "_law_holds" 516 (.ref 247),hde P "_law_never_right" 522 (.ref 252),hde P "law" 538 (.ref 259)] 50) #[])::
 (nat_lit 15,ht0)::
 (nat_lit 17,hts ["thing"] 192)::
 (nat_lit 18,ht0)::
 (nat_lit 20,hco "is_number" 189 2 1 3 15 181 193 194)::
 (nat_lit 21,hfo "is_number" qEK "fewrooms.kinds" 187 20)::
 (nat_lit 22,ht0)::
 (nat_lit 24,hts ["thing","end"] 199)::
 (nat_lit 25,ht0)::
 (nat_lit 27,hco "is_below" 196 4 2 3 22 181 201 202)::
 (nat_lit 28,hfo "is_below" qFT "fewrooms.kinds" 187 27)::
 (nat_lit 29,ht0)::
 (nat_lit 31,hts ["thing","end","least","number"] 207)::
 (nat_lit 32,ht0)::
 (nat_lit 34,hco "is_rising" 204 6 2 3 29 181 211 212)::
 (nat_lit 35,hfo "is_rising" qEJ "fewrooms.kinds" 187 34)::
 (nat_lit 36,ht0)::
 (nat_lit 38,hts ["thing"] 217)::
 (nat_lit 39,ht0)::
 (nat_lit 41,hco "is_pair" 214 15 1 3 36 181 218 219)::
 (nat_lit 42,hfo "is_pair" qGQ "fewrooms.kinds" 187 41)::
 (nat_lit 43,ht0)::
 (nat_lit 45,hts ["net","rooms","thing"] 224)::
 (nat_lit 46,ht0)::
 (nat_lit 48,hco "is_stand" 221 17 3 3 43 181 227 228)::
 (nat_lit 49,hfo "is_stand" qFS "fewrooms.kinds" 187 48)::
 (nat_lit 50,ht0)::
 (nat_lit 52,hts ["net","asked","wanted","work","need"] 235)::
 (nat_lit 53,ht0)::
 (nat_lit 55,hco "all_needed" 232 20 2 3 50 181 240 241)::
 (nat_lit 56,hfo "all_needed" qDT "fewrooms.nets" 230 55)::
 (nat_lit 57,ht0)::
 (nat_lit 60,hcp "renumbered" 243 29 2 57 181 246)::
 (nat_lit 61,hfo "renumbered" qDR "fewrooms.nets" 230 60)::
 (nat_lit 62,ht0)::
 (nat_lit 65,hcp "part_net" 249 31 2 62 181 252)::
 (nat_lit 66,hfo "part_net" qFQ "fewrooms.nets" 230 65)::
 (nat_lit 67,ht0)::
 (nat_lit 69,hts ["net","rooms","stand","work","there","result","need"] 260)::
 (nat_lit 70,ht0)::
 (nat_lit 72,hco "fault_of_do" 257 37 4 3 67 181 267 268)::
 (nat_lit 73,hfo "fault_of_do" qDB "fewrooms.moves" 255 72)::
 (nat_lit 74,ht0)::
 (nat_lit 76,hts ["net","rooms","stand","move"] 273)::
 (nat_lit 77,ht0)::
 (nat_lit 79,hco "fault_of" 270 49 4 3 74 181 277 278)::
 (nat_lit 80,hfo "fault_of" qFU "fewrooms.moves" 255 79)::
 (nat_lit 81,ht0)::
 (nat_lit 84,hcp "stand_behind" 280 55 2 81 181 283)::
 (nat_lit 85,hfo "stand_behind" qCT "fewrooms.moves" 255 84)::
 (nat_lit 86,ht0)::
 (nat_lit 89,hcp "has_all" 286 59 2 86 181 289)::
 (nat_lit 90,hfo "has_all" qGR "fewrooms.moves" 255 89)::
 (nat_lit 91,ht0)::
 (nat_lit 94,hcp "moves_of" 292 61 3 91 181 295)::
 (nat_lit 95,hfo "moves_of" qFR "fewrooms.moves" 255 94)::
 (nat_lit 96,ht0)::
 (nat_lit 98,hts ["net","rooms","reached","due","later","stand","move","further","steps"] 303)::
 (nat_lit 99,ht0)::
 (nat_lit 101,hco "stands_reached" 300 66 2 3 96 181 312 313)::
 (nat_lit 102,hfo "stands_reached" qAI "fewrooms.stairs" 298 101)::
 (nat_lit 103,ht0)::
 (nat_lit 106,hcp "best_end" 315 80 2 103 181 318)::
 (nat_lit 107,hfo "best_end" qCO "fewrooms.stairs" 298 106)::
 (nat_lit 108,ht0)::
 (nat_lit 110,hts ["reached","stand","plan"] 324)::
 (nat_lit 111,ht0)::
 (nat_lit 113,hco "plan_to" 321 83 2 3 108 181 327 328)::
 (nat_lit 114,hfo "plan_to" qGP "fewrooms.stairs" 298 113)::
 (nat_lit 115,ht0)::
 (nat_lit 118,hcp "part_numbers" 332 91 2 115 181 335)::
 (nat_lit 119,hfo "part_numbers" qCU "fewrooms.trying" 330 118)::
 (nat_lit 120,ht0)::
 (nat_lit 123,hcp "fewest" 338 93 2 120 181 341)::
 (nat_lit 124,hfo "fewest" qIW "fewrooms.trying" 330 123)::
 (nat_lit 125,ht0)::
 (nat_lit 127,hts ["net","asked","rooms","works","reached"] 347)::
 (nat_lit 128,ht0)::
 (nat_lit 130,hco "never_paper" 344 104 3 3 125 181 352 353)::
 (nat_lit 131,hfo "never_paper" qDA "fewrooms.trying" 330 130)::
 (nat_lit 132,ht0)::
 (nat_lit 134,hts ["net","rooms","stands","known","stand","move"] 360)::
 (nat_lit 135,ht0)::
 (nat_lit 137,hco "are_closed" 357 111 3 3 132 181 366 367)::
 (nat_lit 138,hfo "are_closed" qDS "fewrooms.nevercheck" 355 137)::
 (nat_lit 139,ht0)::
 (nat_lit 142,hcp "never_come_to" 369 120 4 139 181 372)::
 (nat_lit 143,hfo "never_come_to" qCI "fewrooms.nevercheck" 355 142)::
 (nat_lit 144,ht0)::
 (nat_lit 147,hcp "shows_never" 375 126 4 144 181 378)::
 (nat_lit 148,hfo "shows_never" qD9 "fewrooms.nevercheck" 355 147)::
 (nat_lit 149,ht0)::
 (nat_lit 151,hts ["_law_script","_law_cells"] 386)::
 (nat_lit 152,ht0)::
 (nat_lit 154,hco "_law_begin" 383 133 1 3 149 181 388 389)::
 (nat_lit 155,hfo "_law_begin" qJ0 "law_fewrooms_k92_whole_never_by_all_stands" 381 154)::
 (nat_lit 156,ht0)::
 (nat_lit 158,hts ["_law_state","_law_many","_law_turn","_law_place","_law_cell","_law_digit","_law_mixed"] 394)::
 (nat_lit 159,ht0)::
 (nat_lit 161,hco "_law_take" 391 138 2 3 156 181 401 402)::
 (nat_lit 162,hfo "_law_take" qMB "law_fewrooms_k92_whole_never_by_all_stands" 381 161)::
 (nat_lit 163,ht0)::
 (nat_lit 165,hts ["_law_state","_law_k","_law_found","_law_turn","_law_far"] 407)::
 (nat_lit 166,ht0)::
 (nat_lit 168,hco "_law_some_needs" 404 149 2 3 163 181 412 413)::
 (nat_lit 169,hfo "_law_some_needs" qDC "law_fewrooms_k92_whole_never_by_all_stands" 381 168)::
 (nat_lit 170,ht0)::
 (nat_lit 172,hts ["_law_state","_law_many","_law_open_ones","_law_found","_law_k","_law_so_many"] 418)::
 (nat_lit 173,ht0)::
 (nat_lit 175,hco "_law_tree_net" 415 156 2 3 170 181 424 425)::
 (nat_lit 176,hfo "_law_tree_net" qEL "law_fewrooms_k92_whole_never_by_all_stands" 381 175)::
 (nat_lit 177,ht0)::
 (nat_lit 180,hcp "_law_net" 427 164 2 177 181 430)::
 (nat_lit 181,hfo "_law_net" qR5 "law_fewrooms_k92_whole_never_by_all_stands" 381 180)::
 (nat_lit 182,ht0)::
 (nat_lit 184,hts ["_law_state","_law_net_here","_law_found","_law_turn"] 436)::
 (nat_lit 185,ht0)::
 (nat_lit 187,hco "_law_asked" 433 179 2 3 182 181 440 441)::
 (nat_lit 188,hfo "_law_asked" qJ1 "law_fewrooms_k92_whole_never_by_all_stands" 381 187)::
 (nat_lit 189,ht0)::
 (nat_lit 192,hcp "_law_word" 443 184 4 189 181 446)::
 (nat_lit 193,hfo "_law_word" qMA "law_fewrooms_k92_whole_never_by_all_stands" 381 192)::
 (nat_lit 194,ht0)::
 (nat_lit 197,hcp "_law_behind" 449 192 2 194 181 452)::
 (nat_lit 198,hfo "_law_behind" qGT "law_fewrooms_k92_whole_never_by_all_stands" 381 197)::
 (nat_lit 199,ht0)::
 (nat_lit 201,hts ["_law_net_here","_law_rooms","_law_plan","_law_stands","_law_move","_law_word_here"] 458)::
 (nat_lit 202,ht0)::
 (nat_lit 204,hco "_law_played" 455 196 3 3 199 181 464 465)::
 (nat_lit 205,hfo "_law_played" qGS "law_fewrooms_k92_whole_never_by_all_stands" 381 204)::
 (nat_lit 206,ht0)::
 (nat_lit 209,hcp "_law_does" 467 204 4 206 181 470)::
 (nat_lit 210,hfo "_law_does" qMD "law_fewrooms_k92_whole_never_by_all_stands" 381 209)::
 (nat_lit 211,ht0)::
 (nat_lit 213,hts ["_law_net_here","_law_move"] 476)::
 (nat_lit 214,ht0)::
 (nat_lit 216,hco "_law_is_move" 473 209 2 3 211 181 478 479)::
 (nat_lit 217,hfo "_law_is_move" qFV "law_fewrooms_k92_whole_never_by_all_stands" 381 216)::
 (nat_lit 218,ht0)::
 (nat_lit 221,hcp "_law_come" 481 213 2 218 181 484)::
 (nat_lit 222,hfo "_law_come" qME "law_fewrooms_k92_whole_never_by_all_stands" 381 221)::
 (nat_lit 223,ht0)::
 (nat_lit 226,hcp "_law_bits" 487 238 1 223 181 490)::
 (nat_lit 227,hfo "_law_bits" qMF "law_fewrooms_k92_whole_never_by_all_stands" 381 226)::
 (nat_lit 228,ht0)::
 (nat_lit 231,hcp "_law_least" 493 240 2 228 181 496)::
 (nat_lit 232,hfo "_law_least" qIY "law_fewrooms_k92_whole_never_by_all_stands" 381 231)::
 (nat_lit 233,ht0)::
 (nat_lit 236,hcp "_law_works" 499 244 1 233 181 502)::
 (nat_lit 237,hfo "_law_works" qIX "law_fewrooms_k92_whole_never_by_all_stands" 381 236)::
 (nat_lit 238,ht0)::
 (nat_lit 241,hcp "_law_part" 505 246 2 238 181 508)::
 (nat_lit 242,hfo "_law_part" qMC "law_fewrooms_k92_whole_never_by_all_stands" 381 241)::
 (nat_lit 243,ht0)::
 (nat_lit 246,hcp "_law_holds" 511 248 5 243 181 514)::
 (nat_lit 247,hfo "_law_holds" qIZ "law_fewrooms_k92_whole_never_by_all_stands" 381 246)::
 (nat_lit 248,ht0)::
 (nat_lit 251,hcp "_law_never_right" 517 262 3 248 181 520)::
 (nat_lit 252,hfo "_law_never_right" qCV "law_fewrooms_k92_whole_never_by_all_stands" 381 251)::
 (nat_lit 253,ht0)::
 (nat_lit 255,hts ["_law_script","_law_state","_law_turn","_law_many","_law_net_here","_law_asked_here","_law_rooms","_law_plan","_law_fewer","_law_less"] 526)::
 (nat_lit 256,ht0)::
 (nat_lit 258,hco "law" 523 278 1 3 253 181 536 537)::
 (nat_lit 259,hfo "law" qE8 "law_fewrooms_k92_whole_never_by_all_stands" 381 258)::
 []
noncomputable def hpA:List Addr:=[2,3,15,17,18,20,21,22,24,25,27,28,29,31,32,34,35,36,38,39,41,42,43,45,46,48,49,50,52,53,55,56,57,60,61,62,65,66,67,69,70,72,73,74,76,77,79,80,81,84,85,86,89,90,91,94,95,96,98,99,101,102,103,106,107,108,110,111,113,114,115,118,119,120,123,124,125,127,128,130,131,132,134,135,137,138,139,142,143,144,147,148,149,151,152,154,155,156,158,159,161,162,163,165,166,168,169,170,172,173,175,176,177,180,181,182,184,185,187,188,189,192,193,194,197,198,199,201,202,204,205,206,209,210,211,213,214,216,217,218,221,222,223,226,227,228,231,232,233,236,237,238,241,242,243,246,247,248,251,252,253,255,256,258,259]
noncomputable def hpQ:B66:=PySem.W.view PySem.Challenge.pw_fewrooms_k92_whole_never_by_all_stands [1,2,3,4,5,7,8,9,11,12,13,14,15,17,18,19,21,22,23,25,26,27,29,30,31,32,33,34,35,36,37,38,39,40,41,42,43,44,45,46,47]
def hpN:Nat:=2648
theorem hpE (P:Params):hpA=(hpK P).map (·.1):=by kernel_rfl
noncomputable def hpX (s:Shared):Bool:=PySem.W.xlAt hpQ [] s&&PySem.W.recOk (PySem.W.RowW.records (B53 (B56 PySem.Challenge.rw_fewrooms_k92_whole_never_by_all_stands))) s
theorem hpLeft:PySem.W.LeftO PySem.Challenge.pw_fewrooms_k92_whole_never_by_all_stands hpQ [] hpX (B39 hpK hpA hpE).obs (B39 hpK hpA hpE).val hpN:=λw=>by kernel_rfl
theorem hpSaid:B35 PySem.Challenge.rw_fewrooms_k92_whole_never_by_all_stands=true:=by kernel_rfl
end Fw
namespace L2
open PySem PySem.Spec PyProof.Rows
abbrev Key:=Sum Int Str
noncomputable def qQ9:Key->Value->Bool
 |.inl k,v=>A16 k v
 |.inr x,v=>B40 x v
noncomputable def keyH (w:World):Key->Int
 |.inl k=>hashInt k
 |.inr x=>hashStr w x
theorem qBG:∀{k:Key} {v:Value},qQ9 k v=true->(∃i t,k=G0 i/\v=R5 i t)\/(∃x t,k=O2 x/\v=B14 x t)
 |.inl i,v,h=>by
  obtain⟨t,e⟩:=A86 (k:=i) (v:=v) h;exact .inl ⟨i,t,rfl,e⟩
 |.inr x,v,h=>by
  obtain⟨t,e⟩:=Value.isStrOf_shape (x:=x) (v:=v) h;exact .inr ⟨x,t,rfl,e⟩
theorem qVH (i:Int)(t:Tok):qQ9 (.inl i) (.int i t)=true:=by simp[qQ9,A16]
theorem qVG (x:Str)(t:Tok):qQ9 (.inr x) (.str x t)=true:=by simp[qQ9,B40]
theorem qd2 (a b:Int):decide ((G0 a:Key)=G0 b)=(a==b):=by
 by_cases e:a=b
 ·subst e;simp
 ·have h:¬(G0 a:Key)=G0 b:=λq=>e (p8 q);rw[decide_eq_false h];exact(beq_eq_false_iff_ne.mpr e).symm
theorem qcZ (a b:Str):decide ((O2 a:Key)=O2 b)=decide (a=b):=by
 by_cases e:a=b
 ·subst e;simp
 ·have h:¬(O2 a:Key)=O2 b:=λq=>e (B57 q);rw[decide_eq_false h,decide_eq_false e]
theorem qd1 (a:Int)(b:Str):decide ((G0 a:Key)=O2 b)=false:=decide_eq_false (λq=>nomatch q)
theorem qd0 (a:Str)(b:Int):decide ((O2 a:Key)=G0 b)=false:=decide_eq_false (λq=>nomatch q)
noncomputable def qBM (prog:B66)(w:World):PySem.KeyKind prog w Key where
 is:=qQ9
 hash:=keyH w
 inj:=λv a b f d=>by
  rcases qBG f with⟨i,t,rfl,rfl⟩|⟨x,t,rfl,rfl⟩
  ·rcases qBG d with⟨j,u,rfl,e⟩|⟨y,u,rfl,e⟩
   ·injection e with e1 _;rw[e1]
   ·exact nomatch e
  ·rcases qBG d with⟨j,u,rfl,e⟩|⟨y,u,rfl,e⟩
   ·exact nomatch e
   ·injection e with e1 _;rw[e1]
 byValue:=λk v h=>by
  rcases qBG h with⟨i,t,rfl,rfl⟩|⟨x,t,rfl,rfl⟩<;>rfl
 pyHash:=λc h=>by
  rcases qBG c with⟨i,t,rfl,rfl⟩|⟨x,t,rfl,rfl⟩
  ·exact wpAny_pyHash_int h
  ·exact wpAny_pyHash_str h
 eqBool:=λg c h=>by
  rcases qBG g with⟨i,t,rfl,rfl⟩|⟨x,t,rfl,rfl⟩
  ·rcases qBG c with⟨j,u,rfl,rfl⟩|⟨y,u,rfl,rfl⟩
   ·rw[qd2] at h;exact wpAny_eqBool_int h
   ·rw[qd1] at h;exact A71 i t y u _ _ _ _ h
  ·rcases qBG c with⟨j,u,rfl,rfl⟩|⟨y,u,rfl,rfl⟩
   ·rw[qd0] at h;exact A72 x t j u _ _ _ _ h
   ·rw[qcZ] at h;exact wpAny_eqBool_str h
 «strs»:=λk x t v h=>by
  rcases qBG h with⟨i,u,rfl,e⟩|⟨y,u,rfl,e⟩
  ·exact nomatch e
  ·injection e with e1 _
   subst e1;cases v<;>rfl
theorem qQ2 (prog:B66)(w:World)(i:Int)(t:Tok):(qBM prog w).is (.inl i) (.int i t)=true:=qVH i t
theorem qQ1 (prog:B66)(w:World)(x:Str)(t:Tok):(qBM prog w).is (.inr x) (.str x t)=true:=qVG x t
inductive V where
 |non|bl (b:Bool)|int (i:Int)|str (x:Str)|byt (b:Array UInt8)|flt (b:UInt64)|ref (a:Addr)|ty (n:String)
 deriving DecidableEq
def RelV:V->Value->Prop
 |.non,u=>u=Q0
 |.bl b,u=>u=p7 b
 |.int i,u=>∃t,u=R5 i t
 |.str x,u=>∃t,u=B14 x t
 |.byt b,u=>∃t,u=Value.bytes b t
 |.flt b,u=>∃t,u=Value.float b t
 |.ref a,u=>u=E1 a
 |.ty n,u=>u=X8 n
abbrev Vals:List V->List Value->Prop:=Paired RelV
theorem Vals.length {xs:List V}{a:List Value}(r:Vals xs a):xs.length=a.length:=C1 r
theorem Vals.get:∀{xs:List V} {us:List Value} {i:Nat} {x:V},Vals xs us->xs[i]?=some x->∃u,us[i]?=some u/\RelV x u
 |_,_,_,_,.nil,e=>by simp at e
 |_,_,0,_,.cons r _,e=>by simp at e;subst e;exact⟨_,rfl,r⟩
 |_,_,i+1,x,.cons _ t,e=>by
  obtain⟨u,h1,h2⟩:=Vals.get (i:=i) (x:=x) t (by simpa using e)
  exact⟨u,by simpa using h1,h2⟩
theorem Vals.set {x:V}{u:Value}(r:RelV x u):∀{xs:List V} {us:List Value} (i:Nat),Vals xs us->Vals (xs.set i x) (us.set i u)
 |_,_,_,.nil=>.nil
 |_,_,0,.cons _ t=>.cons r t
 |_,_,i+1,.cons q t=>.cons q (Vals.set r i t)
theorem Vals.append:∀{xs ys:List V} {us ws:List Value},Vals xs us->Vals ys ws->Vals (xs++ys) (us++ws)
 |_,_,_,_,.nil,s=>s
 |_,_,_,_,.cons r t,s=>.cons r (Vals.append t s)
theorem Vals.take:∀{xs:List V} {us:List Value} (n:Nat),Vals xs us->Vals (xs.take n) (us.take n)
 |_,_,0,_=>.nil
 |_,_,_+1,.nil=>.nil
 |_,_,n+1,.cons r t=>.cons r (Vals.take n t)
theorem Vals.drop:∀{xs:List V} {us:List Value} (n:Nat),Vals xs us->Vals (xs.drop n) (us.drop n)
 |_,_,0,r=>r
 |_,_,_+1,.nil=>.nil
 |_,_,n+1,.cons _ t=>Vals.drop n t
def RelO:Option V->Option Value->Prop
 |some v,some u=>RelV v u
 |none,none=>True
 |_,_=>False
def KV {κ:Type}:List (κ×V)->List (κ×Value)->Prop:=Paired λ(p:κ×V) (q:κ×Value)=>p.1=q.1/\RelV p.2 q.2
inductive CTb where
 |tab (q:Str)
 |cod (q:Str)
noncomputable def kV:Key->V
 |.inl i=>.int i
 |.inr x=>.str x
inductive HO where
 |lst (xs:List V)
 |tup (xs:List V)
 |dK (Af:List (Key×V))|dT (Af:List (List Key×V))
 |set (S:Int->Bool) (n:Nat)
 |ins (C dx:Addr) (fs:List (Str×V))
 |own (x:Addr)
 |xd (fs:List (Str×V))
 |met (f x:Addr)
 |rng (lo hi:Int)
 |frz (o:Obj) (u:HO)
 |tbl (t:CTb)
 |ext (φ:Heap->Prop)
abbrev Hp:=Addr->Option HO
noncomputable def Ag (H:Hp)(a:Addr)(o:HO):Hp:=λb=>if b=a then some o else H b
theorem qA1 {H:Hp}{a:Addr}{o:HO}:Ag H a o a=some o:=by unfold Ag;rw[if_pos rfl]
theorem qA9 {H:Hp}{a b:Addr}{o:HO}(h:b≠a):Ag H a o b=H b:=by unfold Ag;rw[if_neg h]
theorem qJB {H:Hp}{a:Addr}{o u:HO}:Ag (Ag H a o) a u=Ag H a u:=by
 funext b;unfold Ag;split<;>rfl
theorem qCP {H:Hp}{a b:Addr}{o u:HO}(h:H a=some o)(h':H b=some u)(d:o≠u):a≠b:=by
 intro e;subst e;rw[h] at h';exact d (D5 h')
theorem qA6 {H:Hp}{a b:Addr}{o:HO}(h:H a=some o)(h':H b=none):a≠b:=by
 intro e;subst e;rw[h] at h';cases h'
section
variable(P:B66)(w:World)
def ObjOk (H:Hp)(h:Heap)(a:Addr):HO->Prop
 |.lst xs=>xs.length<=B64/\∃(its:List Value) (n:Nat),Vals xs its/\h.get? a=some {cls:=.type "list",data:=.seq its.toArray n}
 |.tup xs=>xs.length<=B64/\∃its:List Value,Vals xs its/\IsTup h a its.toArray
 |.dK Af=>Af.length<=B64/\(a==B88)=false/\∃vs,KV Af vs/\h.DictOf (qBM P w) a vs
 |.dT Af=>Af.length<=B64/\(a==B88)=false/\∃xs:List (List Key×Addr×Value),
   Paired (λ(p:List Key×V) (q:List Key×Addr×Value)=>p.1=q.1/\H q.2.1=some (.tup (p.1.map kV))/\RelV p.2 q.2.2) Af xs/\
   ∃o es ep,h.get? a=some o/\o.ExactDict/\o.data=.dict es ep/\es.toList=xs.map (entryOfKey (C17 (qBM P w)))/\(xs.map (·.1)).Nodup
 |.set S n=>h.SetOf (C10 P w) a S n
 |.ins C dx fs=>H dx=some (.own a)/\fs.length<=1000/\dx≠a/\h.get? a=some (A35 C dx)/\
   ∃mA,h.Ns1 dx mA/\(∀f,RelO (fs.lookup f) (mA f))/\PySem.Within mA (fs.map (·.1))
 |.own _=>∃o,h.get? a=some o
 |.xd fs=>∃mA,h.Ns1 a mA/\∀f,RelO (fs.lookup f) (mA f)
 |.rng lo hi=>∃t u v,h.get? a=some {cls:=.type "range",data:=.fields #[.int lo t,.int hi u,.int 1 v]}
 |.frz o u=>h.get? a=some o/\ObjOk H h a u
 |.tbl (.tab q)=>∃more:Array Value,h.get? a=some {cls:=.none,data:=.fields more}/\TriplesOk more.toList/\∀pos cv,codeAmong pos more.toList=some cv->∃c,cv=.ref c/\H c=some (.tbl (.cod q))
 |.tbl (.cod q)=>h.CodeRec (.ref a) q
 |.met f x=>h.get? a=some (A02 (.ref f) (.ref x))
 |.ext φ=>φ h/\(∃o,h.get? a=some o)/\∀h1 h2:Heap,φ h1->(∀o,h1.get? a=some o->h2.get? a=some o)->φ h2
def HOk (H:Hp)(h:Heap):Prop:=∀a o,H a=some o->ObjOk P w H h a o
end
section
variable{P:B66}{w:World}{H H':Hp}{h h':Heap}{a:Addr}{o:HO}
theorem ObjOk.lt (x:ObjOk P w H h a o):a<h.objs.size:=by
 cases o with
 |lst xs=>obtain⟨_,_,_,_,e⟩:=x;exact B7 e
 |tup xs=>obtain⟨_,_,_,p⟩:=x;exact p.lt
 |dK Af=>obtain⟨_,_,_,_,o,_,_,e,_⟩:=x;exact B7 e
 |dT Af=>obtain⟨_,_,_,_,o,_,_,e,_⟩:=x;exact B7 e
 |set S n=>obtain⟨o,_,_,_,e,_⟩:=x;exact B7 e
 |ins C dx fs=>obtain⟨_,_,_,e,_⟩:=x;exact B7 e
 |own y=>obtain⟨_,e⟩:=x;exact B7 e
 |xd fs=>obtain⟨_,⟨_,_,_,e,_⟩,_⟩:=x;exact B7 e
 |rng lo hi=>obtain⟨_,_,_,e⟩:=x;exact B7 e
 |frz ob u=>obtain⟨e,_⟩:=x;exact B7 e
 |tbl t=>
  cases t with
  |tab q=>obtain⟨_,e,_⟩:=x;exact B7 e
  |cod q=>obtain⟨c,o,_,_,e,g,_⟩:=x;cases e;exact B7 g
 |met f y=>exact B7 (show h.get? a=some _ from x)
 |ext φ=>obtain⟨_,⟨_,e⟩,_⟩:=x;exact B7 e
theorem Paired.mapP {α β:Type}{F G:α->β->Prop}:∀{l₁:List α} {l₂:List β},Paired F l₁ l₂->(∀a b,F a b->G a b)->Paired G l₁ l₂
 |_,_,.nil,_=>.nil
 |_,_,.cons r t,f=>.cons (f _ _ r) (Paired.mapP t f)
theorem ObjOk.stay (x:ObjOk P w H h a o)(k:∀b u,(b=a\/H b=some (.own a))->h.get? b=some u->h'.get? b=some u)
  (ho:∀b,H b=some (.own a)->H' b=some (.own a)) (ht:∀b xs,H b=some (.tup xs)->H' b=some (.tup xs)) (hb:∀b t,H b=some (.tbl t)->H' b=some (.tbl t):=by exactλ_ _ q=>q):ObjOk P w H' h' a o:=by
 induction o with
 |lst xs=>obtain⟨z,s,n,r,e⟩:=x;exact⟨z,s,n,r,k _ _ (.inl rfl) e⟩
 |tup xs=>obtain⟨z,s,r,i,e,c⟩:=x;exact⟨z,s,r,i,k _ _ (.inl rfl) e,c⟩
 |dK Af=>obtain⟨z,y,vs,r,i,j,l,e,c⟩:=x;exact⟨z,y,vs,r,i,j,l,k _ _ (.inl rfl) e,c⟩
 |dT Af=>
  obtain⟨z,y,xs,r,i,j,l,e,c⟩:=x;exact⟨z,y,xs,Paired.mapP r λp q z=>⟨z.1,ht _ _ z.2.1,z.2.2⟩,i,j,l,k _ _ (.inl rfl) e,c⟩
 |set S n=>obtain⟨i,j,l,t,e,c⟩:=x;exact⟨i,j,l,t,k _ _ (.inl rfl) e,c⟩
 |ins C dx fs=>
  obtain⟨d,z,ne,e,mA,⟨od,j,l,e2,c⟩,r⟩:=x;exact⟨ho _ d,z,ne,k _ _ (.inl rfl) e,mA,⟨od,j,l,k _ _ (.inr d) e2,c⟩,r⟩
 |own y=>obtain⟨i,e⟩:=x;exact⟨i,k _ _ (.inl rfl) e⟩
 |xd fs=>obtain⟨mA,⟨od,j,l,e,c⟩,r⟩:=x;exact⟨mA,⟨od,j,l,k _ _ (.inl rfl) e,c⟩,r⟩
 |rng lo hi=>obtain⟨t,u,v,e⟩:=x;exact⟨t,u,v,k _ _ (.inl rfl) e⟩
 |frz i u ih=>obtain⟨e,q⟩:=x;exact⟨k _ _ (.inl rfl) e,ih q⟩
 |tbl t=>
  cases t with
  |tab q=>obtain⟨m,e,tr,c⟩:=x;exact⟨m,k a _ (.inl rfl) e,tr,λa0 cv z=>let⟨c',e1,e2⟩:=c a0 cv z;⟨c',e1,hb _ _ e2⟩⟩
  |cod q=>obtain⟨c,o,vs,t,e,g,r⟩:=x;cases e;exact⟨a,o,vs,t,rfl,k a _ (.inl rfl) g,r⟩
 |met f y=>
  have e:h.get? a=some (A02 (.ref f) (.ref y)):=x;show h'.get? a=some (A02 (.ref f) (.ref y));exact k a _ (.inl rfl) e
 |ext φ=>obtain⟨p,⟨o,e⟩,st⟩:=x;exact⟨st _ _ p λo q=>k _ _ (.inl rfl) q,⟨o,k _ _ (.inl rfl) e⟩,st⟩
theorem HOk.lt (x:HOk P w H h)(e:H a=some o):a<h.objs.size:=(x a o e).lt
theorem HOk.fresh (x:HOk P w H h)(e:h.objs.size<=a):H a=none:=by
 cases q:H a with
 |none=>rfl
 |some u=>exact absurd (E3 (x.lt q) e) (R9 _)
theorem HOk.kept (x:HOk P w H h)(k:∀b u,h.get? b=some u->h'.get? b=some u):HOk P w H h':=λa o e=>
 (x a o e).stay (λb u _ q=>k b u q) (λ_ q=>q) λ_ _ q=>q
theorem HOk.laid (x:HOk P w H h)(k:∀b u,h.get? b=some u->h'.get? b=some u)(i:h.objs.size<=a)(d:ObjOk P w (Ag H a o) h' a o):HOk P w (Ag H a o) h':=λb u e=>by
 have f:=x.fresh i;by_cases g:b=a
 ·subst g;rw[qA1] at e;cases e;exact d
 ·rw[qA9 g] at e;exact(x b u e).stay (λc v _ q=>k c v q) (λc q=>by rw[qA9 (qA6 q f)];exact q) (λc j q=>by rw[qA9 (qA6 q f)];exact q) λc t q=>by rw[qA9 (qA6 q f)];exact q
end
def Rd (H:Hp)(a:Addr)(u:HO):Prop:=H a=some u\/∃o,H a=some (.frz o u)
theorem Rd.ok {P:B66}{w:World}{H:Hp}{h:Heap}{a:Addr}{u:HO}(r:Rd H a u)(x:HOk P w H h):ObjOk P w H h a u:=by
 rcases r with r|⟨o,r⟩
 ·exact x a u r
 ·obtain⟨_,q⟩:=x a _ r;exact q
def Mut:Option HO->Prop
 |some (.lst _)=>True
 |some (.dK _)=>True
 |some (.dT _)=>True
 |some (.set _ _)=>True
 |some (.ins _ _ _)=>True
 |some (.ext _)=>True
 |_=>False
section
variable{P:B66}{w:World}{H:Hp}{h h':Heap}{x e:Addr}{o':HO}
theorem HOk.write (p:HOk P w H h)(f:Mut (H x))(m:e=x\/H e=some (.own x))(k:∀b u,b≠e->h.get? b=some u->h'.get? b=some u)(l:∃u,h'.get? e=some u)
  (j:ObjOk P w (Ag H x o') h' x o'):HOk P w (Ag H x o') h':=λb u q=>by
 have d:∀c y,H c=some (.own y)->c≠x:=λc y r z=>by subst z;rw[r] at f;exact f
 have g:∀c xs,H c=some (.tup xs)->c≠x:=λc xs r z=>by subst z;rw[r] at f;exact f
 by_cases i:b=x
 ·subst i;rw[qA1] at q;cases q;exact j
 ·rw[qA9 i] at q;by_cases a:b=e
  ·have n:H b=some (.own x):=by
    rcases m with z|z
    ·exact absurd (a.trans z) i
    ·rw[a];exact z
   rw[q] at n;cases n;obtain⟨v,o⟩:=l;exact⟨v,by rw[a];exact o⟩
  ·refine(p b u q).stay (λc v hc r=>k c v ?_ r) (λc r=>by rw[qA9 (d c b r)];exact r) (λc xs r=>by rw[qA9 (g c xs r)];exact r) λc t r=>by rw[qA9 (λz=>by subst z;rw[r] at f;exact f)];exact r
   rcases hc with rfl|hc
   ·exact a
   ·rintro rfl;rcases m with z|z
    ·exact d c b hc z
    ·rw[hc] at z;cases z;exact i rfl
end
structure Un (fs ex:List Addr)(H H':Hp)(h h':Heap):Prop where
 keep:∀b o,h.get? b=some o->H b=none->b∉fs->b∉ex->h'.get? b=some o
 slot:∀b o,h.get? b=some o->H b=none->b∈fs->b∉ex->∃sl,h'.get? b=some {o with slots:=sl}
 free:∀b o,h.get? b=some o->H b=none->b∉ex->H' b=none
 there:∀b o,h.get? b=some o->b∉ex->∃o',h'.get? b=some o'
 tups:∀b xs,H b=some (.tup xs)->H' b=some (.tup xs)
 frzs:∀b o u,H b=some (.frz o u)->H' b=some (.frz o u)
 tbls:∀b ps,H b=some (.tbl ps)->H' b=some (.tbl ps)
section
variable{fs fs' ex ex':List Addr}{H H1 H2:Hp}{h h1 h2 h':Heap}{a x e:Addr}{o:HO}
theorem Un.any (u:Un fs ex H H1 h h1){b:Addr}{a:Obj}(q:h.get? b=some a)(n:H b=none)(c:b∉ex):∃sl,h1.get? b=some {a with slots:=sl}:=by
 by_cases d:b∈fs
 ·exact u.slot b a q n d c
 ·exact⟨a.slots,u.keep b a q n d c⟩
theorem Un.kept (k:∀b u,h.get? b=some u->h'.get? b=some u):Un fs ex H H h h':=
 ⟨λb a q _ _ _=>k b a q,λb a q _ _ _=>⟨a.slots,k b a q⟩,λ_ _ _ n _=>n,λb a q _=>⟨a,k b a q⟩,λ_ _ q=>q,λ_ _ _ q=>q,λ_ _ q=>q⟩
theorem Un.refl:Un fs ex H H h h:=Un.kept λ_ _ q=>q
theorem Un.laid (k:∀b u,h.get? b=some u->h'.get? b=some u)(d:h.objs.size<=a)(c:H a=none):Un fs ex H (Ag H a o) h h' where
 keep:=λb u q _ _ _=>k b u q
 slot:=λb u q _ _ _=>⟨u.slots,k b u q⟩
 free:=λb u q n _=>by rw[qA9 (C6 (E3 (B7 q) d))];exact n
 there:=λb u q _=>⟨u,k b u q⟩
 tups:=λb e q=>by rw[qA9 (qA6 q c)];exact q
 frzs:=λb u e q=>by rw[qA9 (qA6 q c)];exact q
 tbls:=λb f q=>by rw[qA9 (qA6 q c)];exact q
theorem Un.write (c:Mut (H x))(j:e=x\/H e=some (.own x))(k:∀b u,b≠e->h.get? b=some u->h'.get? b=some u)(f:∃u,h'.get? e=some u):Un fs ex H (Ag H x o) h h':=by
 have g:∀b,H b=none->b≠x:=λb n z=>by subst z;rw[n] at c;exact c
 have i:∀b,H b=none->b≠e:=λb n z=>by
  subst z;rcases j with r|r
  ·exact g b n r
  ·rw[n] at r;cases r
 have d:∀b u,H b=some u->¬Mut (some u)->b≠x:=λb u q m z=>by subst z;rw[q] at c;exact m c
 refine⟨λb u q n _ _=>k b u (i b n) q,λb u q n _ _=>⟨u.slots,k b u (i b n) q⟩,λb u q n _=>by rw[qA9 (g b n)];exact n,λb u q _=>?_,
  λb l q=>by rw[qA9 (d b _ q λz=>z)];exact q,λb u l q=>by rw[qA9 (d b _ q λz=>z)];exact q,λb p q=>by rw[qA9 (d b _ q λz=>z)];exact q⟩
 by_cases a:b=e
 ·subst a;exact f
 ·exact⟨u,k b u a q⟩
end
noncomputable def trk (h:Heap)(H:Hp):List Addr:=(F2 h.objs.size).filter λa=>(H a).isSome
noncomputable def hidT (h:Heap)(H:Hp):Heap:=PySem.W.hideAll h (trk h H)
theorem qVP (h:Heap)(H:Hp):(hidT h H).objs.size=h.objs.size:=PySem.W.hideAll_size _ _
theorem qYH {h:Heap}{H:Hp}{b:Addr}{o:Obj}(e:h.get? b=some o)(n:H b=none):(hidT h H).get? b=some o:=
 PySem.W.hideAll_get _ e λa=>by
  have q:(H b).isSome=true:=(D6.mp a).2;rw[n] at q;simp at q
theorem qaK {h:Heap}{H:Hp}{b:Addr}{o:Obj}(e:(hidT h H).get? b=some o):h.get? b=some o/\H b=none:=by
 have c:h.get? b=some o:=PySem.W.of_hideAll (trk h H) e;refine⟨c,?_⟩;cases q:H b with
 |none=>rfl
 |some x=>
  have f:b∈trk h H:=D6.mpr ⟨D9.mpr (B7 c),by simp[q]⟩
  have z:(hidT h H).get? b=none:=PySem.W.hideAll_none (trk h H) f;rw[z] at e;cases e
noncomputable def qbM (g h:Heap)(L:Addr):List (Addr×Obj):=(F2 h.objs.size).filterMap λa=>if a=L\/(g.get? a).isSome=true then none else(h.get? a).map λo=>(a,o)
noncomputable def rest (g h:Heap)(L d:Addr):List (Addr×Obj):=(qbM g h L).filter λp=>decide (p.1≠d)
structure Mod (K:PySem.W.Frag)(mg:Str->Option Value)(base:Heap):Prop where
 kin:K.In base
 glob:base.Ns B75 mg
 blt:∃mb,base.Ns C36 mb/\∀x:Str,x ≠ "__name__"->mb x=B70 x
 nolimit:base.NoLimit
structure Cx where
 prog:B66
 w:World
 K:PySem.W.Frag
 mg:Str->Option Value
 base:Heap
 A:Around
 N:List Str
 s₀:Shared
 H₀:Hp
 env:Env
 outer:List Env
 stack:List Env
 ex:List Addr
 fn:Str->Bool
 calm:Bool
 pn:List (Addr×Obj)
 xe:Value->Shared->Prop
noncomputable def frs (l:List Env):List Addr:=l.filterMap (·.frame)
noncomputable abbrev Cx.fs (X:Cx):List Addr:=frs X.outer
def Vis (sc:Scope)(x:Str):Prop:=sc.names.lookup x=some .local\/sc.names.lookup x=some .cell\/sc.names.lookup x=some .free
def Loc (sc:Scope)(x:Str):Prop:=sc.names.lookup x=some .local\/sc.names.lookup x=some .cell
def Look (env:Env)(h:Heap)(m:Str->Option Value)(x:Str)(u:Value):Prop:=
 (env.kindOf x=some .local/\m x=some u)\/((env.kindOf x=some .cell\/env.kindOf x=some .free)/\∃c,env.cells.lookup x=some c/\h.IsCell c (some u))
structure Cx.Ok (X:Cx):Prop where
 mod:Mod X.K X.mg X.base
 kind:X.env.scope.kind=.function
 glob:X.env.globals=B75
 blt:X.env.builtins=C36
 above:X.s₀.heap.objs.size<=X.env.locals
 inj:∀x y c,X.env.cells.lookup x=some c->X.env.cells.lookup y=some c->x=y
 has:∀x,(X.env.kindOf x=some .cell\/X.env.kindOf x=some .free)->∃c,X.env.cells.lookup x=some c
 cab:∀x c,X.fn x=true->X.env.cells.lookup x=some c->X.s₀.heap.objs.size<=c
 hd:X.calm=true->X.A.handled=none
 frames:X.A.frames=some X.stack
 stk:X.stack=X.outer\/(X.stack=X.env::X.outer/\X.env.frame=some X.env.locals)
 exf:∀b∈X.ex,b≠X.env.locals/\∀x c,X.env.cells.lookup x=some c->c≠b
 bs:∀b o,X.base.get? b=some o->X.s₀.heap.get? b=some o/\X.H₀ b=none
 bsz:X.base.objs.size<=X.s₀.heap.objs.size
 noex:∀b o,X.base.get? b=some o->b∉X.ex
 exfs:∀b∈X.ex,b∉X.fs
 funs:X.s₀.heap.FunFrames X.base X.outer
 frf:∀b∈X.fs,X.H₀ b=none
structure Inv (X:Cx)(Ab:List (Addr×Obj))(σ:List (Option V))(H:Hp)(s:Shared):Prop where
 ok:X.Ok
 os:s.os=X.s₀.os
 bare:AllBare s.gens
 base:Un X.fs X.ex X.H₀ H X.s₀.heap s.heap
 loc:∃m,s.heap.Ns X.env.locals m/\∀(i:Nat) (x:Str) (v:V),X.N[i]?=some x->σ[i]?=some (some v)->Vis X.env.scope x->∃u,RelV v u/\Look X.env s.heap m x u
 cell:∀x c,X.env.cells.lookup x=some c->∃v,s.heap.IsCell c v
 free:H X.env.locals=none
 freeC:∀x c,X.env.cells.lookup x=some c->H c=none
 pin:∀p∈X.pn++Ab,s.heap.get? p.1=some p.2/\H p.1=none/\p.1≠X.env.locals/\p.1∉X.fs/\∀v,p.2.data≠.cell v
 hok:HOk X.prog X.w H s.heap
 len:σ.length=X.N.length
section
variable{X:Cx}{Ab:List (Addr×Obj)}{σ:List (Option V)}{H H':Hp}{s:Shared}{h':Heap}
theorem Cx.Ok.nofr (a:X.Ok){b:Addr}{o:Obj}(e:X.base.get? b=some o):b∉X.fs:=λc=>by
 have:=(a.funs.mem c).1;rw[e] at this;cases this
theorem Inv.bs (I:Inv X Ab σ H s):∀b o,X.base.get? b=some o->s.heap.get? b=some o/\H b=none:=λb o e=>
 ⟨I.base.keep b o (I.ok.bs b o e).1 (I.ok.bs b o e).2 (I.ok.nofr e) (I.ok.noex b o e),I.base.free b o (I.ok.bs b o e).1 (I.ok.bs b o e).2 (I.ok.noex b o e)⟩
theorem Inv.bk (I:Inv X Ab σ H s):∀b o,X.base.get? b=some o->s.heap.get? b=some o:=λb o e=>(I.bs b o e).1
theorem Inv.mod (I:Inv X Ab σ H s):Mod X.K X.mg X.base:=I.ok.mod
theorem Inv.kIn (I:Inv X Ab σ H s):X.K.In s.heap:=I.ok.mod.kin.keeps I.bk
theorem Inv.nolimit (I:Inv X Ab σ H s):s.heap.NoLimit:=I.ok.mod.nolimit.keeps I.bk
theorem Inv.lt (I:Inv X Ab σ H s):X.env.locals<s.heap.objs.size:=let⟨_,hn,_⟩:=I.loc;hn.lt
theorem Inv.sz (I:Inv X Ab σ H s):X.s₀.heap.objs.size<=s.heap.objs.size:=F5 I.ok.above (U5 I.lt)
theorem Inv.nofs (I:Inv X Ab σ H s){a:Addr}(h:s.heap.objs.size<=a):a∉X.fs:=λb=>by
 obtain⟨_,o,c,_⟩:=I.ok.funs.mem b;exact absurd (E3 (B7 c) (F5 I.sz h)) (R9 _)
theorem Inv.cne (I:Inv X Ab σ H s):∀x c,X.env.cells.lookup x=some c->c≠X.env.locals:=λx c e z=>by
 obtain⟨v,o,f,d⟩:=I.cell x c e;obtain⟨m,⟨h,g,i,a,b,_⟩,_⟩:=I.loc;rw[z,a] at f;cases f;rw[b] at d;cases d
theorem Inv.funs (I:Inv X Ab σ H s):s.heap.FunFrames X.base X.outer:=by
 have a:∀(l:List Env),(∀b∈frs l,b∈X.fs)->X.s₀.heap.FunFrames X.base l->s.heap.FunFrames X.base l:=by
  intro l
  induction l with
  |nil=>intro _ _;trivial
  |cons env r ih=>
   intro g j;obtain⟨n,⟨L,o,c,m,k,h⟩,i⟩:=j;have f:L∈X.fs:=g L (by unfold frs;rw[K0,c];exact D8)
   obtain⟨p,e⟩:=I.base.slot L o k (I.ok.frf L f) f λz=>I.ok.exfs L z f;exact⟨n,⟨L,_,c,m,e,h⟩,ih (λb d=>g b (by unfold frs;rw[K0,c];exact B3 _ d)) i⟩
 exact a X.outer (λ_ d=>d) I.ok.funs
theorem Inv.stack (I:Inv X Ab σ H s):s.heap.FunFrames X.base X.stack:=by
 rcases I.ok.stk with e|⟨e,hf⟩
 ·rw[e];exact I.funs
 ·rw[e];obtain⟨m,a,_⟩:=I.loc;refine .cons (by rw[I.ok.kind];decide) hf a ?_ I.funs
  exact Heap.get?_none_of_le (F5 I.ok.bsz I.ok.above)
theorem Inv.stkSub (I:Inv X Ab σ H s):∀b∈frs X.stack,b∈X.env.locals::X.fs:=λb a=>by
 rcases I.ok.stk with e|⟨e,hf⟩
 ·rw[e] at a;exact B3 _ a
 ·rw[e] at a;unfold frs at a;rw[K0,hf] at a;exact a
theorem Inv.stkFree (I:Inv X Ab σ H s):∀b∈frs X.stack,H b=none:=λb hb=>by
 rcases B6.mp (I.stkSub b hb) with e|hb
 ·rw[e];exact I.free
 ·obtain⟨_,o,a,_⟩:=I.ok.funs.mem hb;exact I.base.free b o a (I.ok.frf b hb) λz=>I.ok.exfs b z hb
theorem Inv.step {g':Array C18}{t':Nat}{d':Drawn}{ch:List Addr}(I:Inv X Ab σ H s)
  (f:∀b∈ch,(b∈X.ex\/X.s₀.heap.objs.size<=b)/\b≠X.env.locals/\(∀x c,X.env.cells.lookup x=some c->c≠b)/\∀p∈X.pn++Ab,p.1≠b)
  (keep:∀b o,b≠X.env.locals->b∉X.fs->b∉ch->s.heap.get? b=some o->H b=none->h'.get? b=some o)
  (slot:∀b o,b≠X.env.locals->b∈X.fs->b∉ch->s.heap.get? b=some o->H b=none->∃sl,h'.get? b=some {o with slots:=sl}) (free:∀b o,b∉ch->s.heap.get? b=some o->H b=none->H' b=none)
  (there:∀b o,b∉ch->s.heap.get? b=some o->∃o',h'.get? b=some o')
  (tups:∀b xs,H b=some (.tup xs)->H' b=some (.tup xs)) (frzs:∀b o u,H b=some (.frz o u)->H' b=some (.frz o u)) (tbls:∀b ps,H b=some (.tbl ps)->H' b=some (.tbl ps))
  (ns:∀m,s.heap.Ns X.env.locals m->h'.Ns X.env.locals m) (a2:HOk X.prog X.w H' h') (hg:AllBare g'):
  Inv X Ab σ H' {s with heap:=h',gens:=g',drawn:=d',toks:=t'}:=by
 have a0:∀b o,X.s₀.heap.get? b=some o->b≠X.env.locals:=λb o e=>C6 (E3 (B7 e) I.ok.above);have j:∀b o,X.s₀.heap.get? b=some o->b∉X.ex->b∉ch:=λb o e a t=>by
  rcases(f b t).1 with z|z
  ·exact a z
  ·exact absurd (E3 (B7 e) z) (R9 _)
 have h:∀x c,X.env.cells.lookup x=some c->∀v,s.heap.IsCell c v->h'.IsCell c v:=λx c e v ⟨o,ho,hd⟩=>by
  have g:c∉ch:=λz=>(f c z).2.2.1 x c e rfl;by_cases hc:c∈X.fs
  ·obtain⟨sl,q⟩:=slot c o (I.cne x c e) hc g ho (I.freeC x c e);exact⟨_,q,hd⟩
  ·exact⟨o,keep c o (I.cne x c e) hc g ho (I.freeC x c e),hd⟩
 refine⟨I.ok,I.os,hg,⟨λb o e n t a=>?_,λb o e n t a=>?_,λb o e n a=>?_,λb o e a=>?_,λb xs e=>tups b xs (I.base.tups b xs e),λb o xs e=>frzs b o xs (I.base.frzs b o xs e),λb ps e=>?_⟩,?_,λx c e=>?_,?_,λx c e=>?_,λp hp=>?_,a2,I.len⟩
 ·exact keep b o (a0 b o e) t (j b o e a) (I.base.keep b o e n t a) (I.base.free b o e n a)
 ·obtain⟨sl,y⟩:=I.base.slot b o e n t a;obtain⟨a1,e2⟩:=slot b _ (a0 b o e) t (j b o e a) y (I.base.free b o e n a);exact⟨a1,e2⟩
 ·obtain⟨o',y⟩:=I.base.there b o e a;exact free b o' (j b o e a) y (I.base.free b o e n a)
 ·obtain⟨o',y⟩:=I.base.there b o e a;exact there b o' (j b o e a) y
 ·exact tbls b ps (I.base.tbls b ps e)
 ·obtain⟨m,hn,hl⟩:=I.loc;refine⟨m,ns m hn,λi x v y e2 e3=>?_⟩;obtain⟨u,r,l⟩:=hl i x v y e2 e3;refine⟨u,r,?_⟩;rcases l with l|⟨k,c,e,z⟩
  ·exact .inl l
  ·exact .inr ⟨k,c,e,h x c e _ z⟩
 ·obtain⟨v,z⟩:=I.cell x c e;exact⟨v,h x c e v z⟩
 ·obtain⟨m,⟨o,_,_,ho,_⟩,_⟩:=I.loc;exact free _ o (λz=>(f _ z).2.1 rfl) ho I.free
 ·obtain⟨v,o,ho,hd⟩:=I.cell x c e;exact free c o (λz=>(f c z).2.2.1 x c e rfl) ho (I.freeC x c e)
 ·obtain⟨e,n,ne,nf,d⟩:=I.pin p hp;have g:p.1∉ch:=λz=>(f p.1 z).2.2.2 p hp rfl;exact⟨keep p.1 p.2 ne nf g e n,free p.1 p.2 g e n,ne,nf,d⟩
theorem Inv.un {t':Nat}(I:Inv X Ab σ H s)(u:Un X.fs [] H H' s.heap h')(c:HOk X.prog X.w H' h'):Inv X Ab σ H' {s with heap:=h',toks:=t'}:=by
 obtain⟨m,⟨o,p,t,h,r⟩,_⟩:=id I.loc;obtain⟨l,k⟩:=u.any h I.free (by simp)
 exact I.step (g':=s.gens) (d':=s.drawn) (ch:=[]) (fun _ z=>nomatch z) (fun b o _ d _ e n=>u.keep b o e n d (by simp)) (fun b o _ d _ e n=>u.slot b o e n d (by simp)) (fun b o _ e n=>u.free b o e n (by simp)) (fun b o _ e=>u.there b o e (by simp)) u.tups u.frzs u.tbls (fun v i=>by
  obtain⟨q,f,g,a,j⟩:=i;rw[h] at a;cases a;exact⟨_,f,g,k,j⟩) c I.bare
theorem Inv.call {g':Array C18}{t':Nat}{d':Drawn}{ch:List Addr}(I:Inv X Ab σ H s)(u:Un (frs X.stack) ch H H' s.heap h')(g:HOk X.prog X.w H' h')(q:AllBare g')
  (f:∀b∈ch,(b∈X.ex\/X.s₀.heap.objs.size<=b)/\b≠X.env.locals/\(∀x c,X.env.cells.lookup x=some c->c≠b)/\∀p∈X.pn++Ab,p.1≠b):
  Inv X Ab σ H' {s with heap:=h',gens:=g',drawn:=d',toks:=t'}:=by
 obtain ⟨m,⟨o,es,ep,k,r⟩,_⟩:=id I.loc;obtain ⟨y,h⟩:=u.any k I.free fun z=>(f _ z).2.1 rfl;exact I.step (ch:=ch) f (fun b o h v a e n=>u.keep b o e n (fun z=>(B6.mp (I.stkSub b z)).elim h v) a) (fun b o _ _ a e n=>u.any e n a) (fun b o a e n=>u.free b o e n a) (fun b o a e=>u.there b o e a) u.tups u.frzs u.tbls (fun m' l=>by
  obtain⟨o',i,j,d,t⟩:=l;rw[k] at d;cases d;exact⟨_,i,j,h,t⟩) g q
theorem Inv.turned {t':Nat}{a:Addr}(I:Inv X Ab σ H s)(k:∀b o,b≠a->s.heap.get? b=some o->h'.get? b=some o)(w:H a=none)(g:a≠X.env.locals)
  (l:a∈X.ex\/X.s₀.heap.objs.size<=a) (h2:∀x c,X.env.cells.lookup x=some c->c≠a) (j:∀p∈X.pn++Ab,p.1≠a):Inv X Ab σ H {s with heap:=h',toks:=t'}:=by
 have f:∀b u,H b=some u->b≠a:=λb u e z=>by rw[z,w] at e;cases e
 refine I.step (g':=s.gens) (d':=s.drawn) (ch:=[a]) (λb y=>?_) (λb o _ _ d e _=>k b o (λz=>d (by simp[z])) e) (λb o _ _ d e _=>⟨o.slots,k b o (λz=>d (by simp[z])) e⟩) (λ_ _ _ _ n=>n)
  (λb o d e=>⟨o,k b o (λz=>d (by simp[z])) e⟩) (λ_ _ e=>e) (λ_ _ _ e=>e) (λ_ _ e=>e) (λm h=>?_) (λb u e=>?_) I.bare
 ·have e:b=a:=by simpa using y
  subst e;exact⟨l,g,h2,j⟩
 ·obtain⟨o,t,ep,i,r⟩:=h;exact⟨o,t,ep,k _ o (J8 g) i,r⟩
 ·refine(I.hok b u e).stay (λc v d q=>k c v ?_ q) (λ_ q=>q) λ_ _ q=>q;rcases d with z|z
  ·rw[z];exact f b u e
  ·exact f c _ z
theorem Inv.tok (I:Inv X Ab σ H s)(t:Nat):Inv X Ab σ H {s with toks:=t}:=I.un (h':=s.heap) (t':=t) Un.refl I.hok
theorem Inv.kept {t':Nat}(I:Inv X Ab σ H s)(k:∀b u,s.heap.get? b=some u->h'.get? b=some u):Inv X Ab σ H {s with heap:=h',toks:=t'}:=I.un (Un.kept k) (I.hok.kept k)
theorem Inv.laid {a:Addr}{o:HO}{t':Nat}(I:Inv X Ab σ H s)(k:∀b u,s.heap.get? b=some u->h'.get? b=some u)(c:s.heap.objs.size<=a)(d:ObjOk X.prog X.w (Ag H a o) h' a o):
  Inv X Ab σ (Ag H a o) {s with heap:=h',toks:=t'}:=I.un (Un.laid k c (I.hok.fresh c)) (I.hok.laid k c d)
theorem Inv.write {x e:Addr}{o:HO}{t':Nat}(I:Inv X Ab σ H s)(d:Mut (H x))(f:e=x\/H e=some (.own x))(k:∀b u,b≠e->s.heap.get? b=some u->h'.get? b=some u)(a:∃u,h'.get? e=some u)
  (c:ObjOk X.prog X.w (Ag H x o) h' x o):Inv X Ab σ (Ag H x o) {s with heap:=h',toks:=t'}:=I.un (Un.write d f k a) (I.hok.write d f k a c)
theorem Inv.pins_of {a:List (Addr×Obj)}(I:Inv X Ab σ H s)(h:∀p∈a,s.heap.get? p.1=some p.2/\H p.1=none/\p.1≠X.env.locals/\p.1∉X.fs/\∀v,p.2.data≠.cell v):Inv X a σ H s:=
 ⟨I.ok,I.os,I.bare,I.base,I.loc,I.cell,I.free,I.freeC,λp b=>(A8.mp b).elim (λz=>I.pin p (n4 _ z)) (h p),I.hok,I.len⟩
theorem qRM {N:List Str}(c:N.Nodup){i j:Nat}{x:Str}(a:N[i]?=some x)(b:N[j]?=some x):i=j:=by
 obtain⟨f,d⟩:=A3.mp a;obtain⟨g,e⟩:=A3.mp b;exact(List.getElem_inj c).mp (d.trans e.symm)
theorem qNP {M:Model}{A:Around}{E:Value->Shared->Prop}{i:Nat}{x:Str}{v:V}{u:Value}{Q:Unit->Shared->Prop}(I:Inv X Ab σ H s)(hN:X.N.Nodup)(hi:X.N[i]?=some x)(t:Loc X.env.scope x)(r:RelV v u)
  (h:∀s',Inv X Ab (σ.set i (some v)) H s'->(∃a,Heap.SameBut a s.heap s'.heap/\(a=X.env.locals\/X.env.cells.lookup x=some a))->Q () s') (hf:X.fn x=true\/X.env.scope.names.lookup x=some .local:=by first|exact .inl rfl|exact .inr rfl|assumption):wpAny M A (storeName X.env x u) Q E s:=by
 obtain⟨m,hn,hl⟩:=id I.loc;have a4:(X.env.scope.kind == .class||(X.env.scope.kind == .module&&X.env.locals != X.env.globals))=false:=by rw[I.ok.kind];rfl
 have a2:i<σ.length:=by rw[I.len];exact(A3.mp hi).1
 have cne:=I.cne;have g:∀{a:Addr} {h':Heap},(∃o,s.heap.get? a=some o/\H a=none)->Heap.SameBut a s.heap h'->HOk X.prog X.w H h':=λ{a h'} ha f b ob e=>by
  obtain⟨_,_,a0⟩:=ha;refine(I.hok b ob e).stay (λc w' hc q=>(f.2 c ?_).trans q) (λ_ q=>q) λ_ _ q=>q;rintro rfl;rcases hc with rfl|hc
  ·rw[a0] at e;cases e
  ·rw[a0] at hc;cases hc
 rcases t with hk|hk
 ·refine wpAny_storeName_local hk hn (λh' a8 f=>?_) a4;obtain⟨oL,_,_,a9,_⟩:=id hn;refine h _ ⟨I.ok,I.os,I.bare,⟨λb o e n hb t=>?_,λb o e n hb t=>?_,I.base.free,λb o e t=>?_,I.base.tups,I.base.frzs,I.base.tbls⟩,⟨_,a8,λj y v' l e2 e3=>?_⟩,λy c e=>?_,I.free,I.freeC,λp hp=>?_,g ⟨oL,a9,I.free⟩ f,by simpa using I.len⟩ ⟨_,f,.inl rfl⟩
  ·exact(f.2 b (C6 (E3 (B7 e) I.ok.above))).trans (I.base.keep b o e n hb t)
  ·obtain⟨sl,l⟩:=I.base.slot b o e n hb t;exact⟨sl,(f.2 b (C6 (E3 (B7 e) I.ok.above))).trans l⟩
  ·obtain⟨o',l⟩:=I.base.there b o e t;exact⟨o',(f.2 b (C6 (E3 (B7 e) I.ok.above))).trans l⟩
  ·by_cases hj:j=i
   ·subst hj;rw[hi] at l;cases l;rw[c8 a2] at e2;cases e2;exact⟨u,r,.inl ⟨hk,by simp⟩⟩
   ·rw[A49 (J8 hj)] at e2;obtain⟨u',r',q⟩:=hl j y v' l e2 e3;refine⟨u',r',?_⟩;rcases q with⟨k,e⟩|⟨k,c,e,z⟩
    ·refine .inl ⟨k,?_⟩;have:y≠x:=λe=>hj (qRM hN l (e▸hi));simp[this,e]
    ·exact .inr ⟨k,c,e,z.sameBut f (cne y c e)⟩
  ·obtain⟨w',z⟩:=I.cell y c e;exact⟨w',z.sameBut f (cne y c e)⟩
  ·obtain⟨e,n,ne,nf,d⟩:=I.pin p hp;exact⟨(f.2 p.1 ne).trans e,n,ne,nf,d⟩
 ·have a1:X.fn x=true:=by
   rcases hf with z|z
   ·exact z
   ·rw[z] at hk;cases hk
  obtain⟨c,hc⟩:=I.ok.has x (.inl hk);obtain⟨w',z⟩:=I.cell x c hc;refine wpAny_storeName_cell I.ok.kind hk hc z (λh' a7 f=>?_);obtain⟨oc,a3,a5⟩:=id z;refine h {s with heap:=h'} ⟨I.ok,I.os,I.bare,⟨λb o e n hb t=>?_,λb o e n hb t=>?_,I.base.free,λb o e t=>?_,I.base.tups,I.base.frzs,I.base.tbls⟩,⟨m,hn.sameBut f (J8 (cne x c hc)),λj y v' l e2 e3=>?_⟩,λy c' e=>?_,I.free,I.freeC,λp hp=>?_,g ⟨oc,a3,I.freeC x c hc⟩ f,by simpa using I.len⟩ ⟨c,f,.inr hc⟩
  ·exact(f.2 b (C6 (E3 (B7 e) (I.ok.cab x c a1 hc)))).trans (I.base.keep b o e n hb t)
  ·obtain⟨sl,l⟩:=I.base.slot b o e n hb t;exact⟨sl,(f.2 b (C6 (E3 (B7 e) (I.ok.cab x c a1 hc)))).trans l⟩
  ·obtain⟨o',l⟩:=I.base.there b o e t;exact⟨o',(f.2 b (C6 (E3 (B7 e) (I.ok.cab x c a1 hc)))).trans l⟩
  ·by_cases hj:j=i
   ·subst hj;rw[hi] at l;cases l;rw[c8 a2] at e2;cases e2;exact⟨u,r,.inr ⟨.inl hk,c,hc,a7⟩⟩
   ·rw[A49 (J8 hj)] at e2;obtain⟨u',r',q⟩:=hl j y v' l e2 e3;refine⟨u',r',?_⟩;rcases q with q|⟨k,c',e,z'⟩
    ·exact .inl q
    ·refine .inr ⟨k,c',e,z'.sameBut f ?_⟩;rintro rfl;exact hj (qRM hN l (I.ok.inj _ _ _ e hc▸hi))
  ·by_cases a6:c'=c
   ·subst a6;exact⟨_,a7⟩
   ·obtain⟨w2,z2⟩:=I.cell y c' e;exact⟨w2,z2.sameBut f a6⟩
  ·obtain⟨e,n,ne,nf,d⟩:=I.pin p hp;refine⟨(f.2 p.1 ?_).trans e,n,ne,nf,d⟩;intro q;rw[q,a3] at e;have q':oc=p.2:=D5 e;exact d w' (by rw[<- q'];exact a5)
theorem qM2 {M:Model}{A:Around}{E:Value->Shared->Prop}{i:Nat}{x:Str}{v:V}{u:Value}{Q:Unit->Shared->Prop}(I:Inv X Ab σ H s)(a:X.N.Nodup)(hi:X.N[i]?=some x)(b:Loc X.env.scope x)(r:RelV v u)
  (h:∀s',Inv X Ab (σ.set i (some v)) H s'->Q () s') (d:X.fn x=true\/X.env.scope.names.lookup x=some .local:=by first|exact .inl rfl|exact .inr rfl|assumption):wpAny M A (storeName X.env x u) Q E s:=
 qNP I a hi b r (λs' c _=>h s' c) d
theorem Inv.call' {a:Shared}{ch:List Addr}(I:Inv X Ab σ H s)(g:a.os=s.os)(u:Un (frs X.stack) ch H H' s.heap a.heap)(d:HOk X.prog X.w H' a.heap)(h:AllBare a.gens)
  (f:∀b∈ch,(b∈X.ex\/X.s₀.heap.objs.size<=b)/\b≠X.env.locals/\(∀x c,X.env.cells.lookup x=some c->c≠b)/\∀p∈X.pn++Ab,p.1≠b):Inv X Ab σ H' a:=by
 obtain⟨j,g',d',t',i⟩:=a;have e:i=s.os:=g;subst e;exact I.call (g':=g') (t':=t') (d':=d') u d h f
end
abbrev XK:=Value->Option Addr->Hp->Prop
abbrev St:=List (Option V)
abbrev VK:=V->Hp->Prop
abbrev TE:=St->Hp->VK->Prop
abbrev TT:=St->Hp->(Bool->Hp->Prop)->Prop
abbrev TA:=St->Hp->(List V->Hp->Prop)->Prop
structure Ends where
 nx:St->Hp->Prop
 rt:VK
 bk:St->Hp->Prop:=λ_ _=>False
 ct:St->Hp->Prop:=λ_ _=>False
abbrev TS:=Ends->St->Hp->Prop
def EP (X:Cx)(Ab:List (Addr×Obj))(σ:St)(Q:VK)(u:Value)(s':Shared):Prop:=∃v H',Inv X Ab σ H' s'/\RelV v u/\Q v H'
def TP (X:Cx)(Ab:List (Addr×Obj))(σ:St)(Q:Bool->Hp->Prop)(b:Bool)(s':Shared):Prop:=∃H',Inv X Ab σ H' s'/\Q b H'
def AP (X:Cx)(Ab:List (Addr×Obj))(σ:St)(Q:List V->Hp->Prop)(us:List Value)(s':Shared):Prop:=∃vs H',Inv X Ab σ H' s'/\Vals vs us/\Q vs H'
def SP (X:Cx)(Ab:List (Addr×Obj))(D:Ends)(f:Flow)(s':Shared):Prop:=
 match f with
 |.next=>∃σ' H',Inv X Ab σ' H' s'/\D.nx σ' H'
 |.brk=>∃σ' H',Inv X Ab σ' H' s'/\D.bk σ' H'
 |.cont=>∃σ' H',Inv X Ab σ' H' s'/\D.ct σ' H'
 |.ret u=>∃v σ' H',Inv X Ab σ' H' s'/\RelV v u/\D.rt v H'
def PE (X:Cx)(e:Expr)(t:TE):Prop:=
 ∀(Ab:List (Addr×Obj)) (s:Shared) (σ:St) (H:Hp) (Q:VK),Inv X Ab σ H s->t σ H Q->wpAny (model X.prog X.w) X.A (eval e X.env) (EP X Ab σ Q) X.xe s
def PT (X:Cx)(e:Expr)(t:TT):Prop:=
 ∀(Ab:List (Addr×Obj)) (s:Shared) (σ:St) (H:Hp) (Q:Bool->Hp->Prop),Inv X Ab σ H s->t σ H Q->wpAny (model X.prog X.w) X.A (isTrue e X.env (eval e X.env)) (TP X Ab σ Q) X.xe s
def PW (X:Cx)(e:Expr)(t:TT):Prop:=
 ∀(whole:Sem Value) (Ab:List (Addr×Obj)) (s:Shared) (σ:St) (H:Hp) (Q:Bool->Hp->Prop),Inv X Ab σ H s->t σ H Q->wpAny (model X.prog X.w) X.A (isTrue e X.env whole) (TP X Ab σ Q) X.xe s
theorem PW.pt {X:Cx}{e:Expr}{t:TT}(h:PW X e t):PT X e t:=h _
def PA (X:Cx)(es:List Expr)(t:TA):Prop:=
 ∀(pos:Pos) (Ab:List (Addr×Obj)) (s:Shared) (σ:St) (H:Hp) (Q:List V->Hp->Prop),Inv X Ab σ H s->t σ H Q->wpAny (model X.prog X.w) X.A (spliced (backTo pos (B69 es X.env))) (AP X Ab σ Q) X.xe s
def PS (X:Cx)(st:Stmt)(t:TS):Prop:=
 ∀(Ab:List (Addr×Obj)) (s:Shared) (σ:St) (H:Hp) (D:Ends),Inv X Ab σ H s->t D σ H->wpAny (model X.prog X.w) X.A (exec st X.env) (SP X Ab D) X.xe s
def PSs (X:Cx)(st:List Stmt)(t:TS):Prop:=
 ∀(Ab:List (Addr×Obj)) (s:Shared) (σ:St) (H:Hp) (D:Ends),Inv X Ab σ H s->t D σ H->wpAny (model X.prog X.w) X.A (execs st X.env) (SP X Ab D) X.xe s
theorem thn {α:Type}{t:Sem α}{Q Q':α->Shared->Prop}{M:Model}{A:Around}{E:Value->Shared->Prop}{s:Shared}(h:wpAny M A t Q E s)(b:∀a s,Q a s->Q' a s):wpAny M A t Q' E s:=B76 h b λ_ _ x=>x
section
variable{X:Cx}
theorem bin {a b:Expr}{c d:TE}(i:PE X a c)(g:PE X b d){Ab:List (Addr×Obj)}{s:Shared}{σ:St}{H:Hp}{R:V->V->Hp->Prop}(I:Inv X Ab σ H s)(h:c σ H λx H1=>d σ H1 λy H2=>R x y H2)
  {α:Type} {Q:α->Shared->Prop} {f:Value->Value->Sem α}
  (e:∀v u s2 x y H2,Inv X Ab σ H2 s2->RelV x v->RelV y u->R x y H2->wpAny (model X.prog X.w) X.A (f v u) Q X.xe s2):
  wpAny (model X.prog X.w) X.A (eval a X.env) (λv s₁=>wpAny (model X.prog X.w) X.A (eval b X.env) (λu s₂=>wpAny (model X.prog X.w) X.A (f v u) Q X.xe s₂) X.xe s₁) X.xe s:=by
 refine thn (i Ab s σ H _ I h) λv s1 ⟨x,H1,I1,r1,q1⟩=>?_;refine thn (g Ab s1 σ H1 _ I1 q1) λu s2 ⟨y,H2,I2,r2,q2⟩=>?_;exact e v u s2 x y H2 I2 r1 r2 q2
def tVar (i:Nat):TE:=λσ H Q=>∃v,σ[i]?=some (some v)/\Q v H
def tC (v:V):TE:=λ_ H Q=>Q v H
theorem qcM {i:Nat} {x:Str} {pos:Pos} (n:X.N[i]?=some x) (k:Vis X.env.scope x) (d:(x==("__debug__" : Str))=false:=by decide) (hcd:(x==("__classdict__" : Str))=false:=by decide):PE X (.Name x pos) (tVar i):=by
 intro p s σ H Q I h;obtain⟨v,e,h⟩:=h;obtain⟨m,o,g⟩:=I.loc;obtain⟨u,r,l⟩:=g i x v n e k;have b:EP X p σ Q u s:=⟨v,H,I,r,h⟩;rcases l with⟨hk,j⟩|⟨hk,c,f,a⟩
 ·exact wpAny_Name (wpAny_loadName_local I.ok.kind hk o j b) d
 ·rcases hk with hk|hk
  ·exact wpAny_Name (wpAny_loadName_cell I.ok.kind hk f a b) d
  ·exact wpAny_Name (wpAny_loadName_free I.ok.kind hk f a b hcd) d
theorem qA7 {i j pos}:PE X (.Constant (.int i) j pos) (tC (.int i)):=λ_ _ _ H _ I h=>wpAny_Constant_int ⟨.int i,H,I.tok _,⟨_,rfl⟩,h⟩
theorem qCF {b j pos}:PE X (.Constant (.bool b) j pos) (tC (.bl b)):=λ_ _ _ H _ I h=>Constant_bool ⟨.bl b,H,I,rfl,h⟩
theorem qF8 {j pos}:PE X (.Constant .none j pos) (tC .non):=λ_ _ _ H _ I h=>Constant_none ⟨.non,H,I,rfl,h⟩
theorem qBO {x j pos}:PE X (.Constant (.str x) j pos) (tC (.str x)):=λ_ _ _ H _ I h=>Calls.Constant_str ⟨.str x,H,I.tok _,⟨_,rfl⟩,h⟩
def Gl (X:Cx)(x:Str):Prop:=X.env.kindOf x=some .globalImplicit
theorem qaS {E:Value->Shared->Prop}{Ab:List (Addr×Obj)}{s:Shared}{σ:St}{H:Hp}{x:Str}{u:Value}{pos:Pos}{Q:Value->Shared->Prop}(I:Inv X Ab σ H s)(c:Gl X x)(b:X.mg x=some u)(h:Q u s)
  (a:(x==("__debug__" : Str))=false:=by decide):wpAny (model X.prog X.w) X.A (eval (.Name x pos) X.env) Q E s:=
 Calls.Name_function_global I.ok.kind c (Calls.loadGlobal_global (by rw[I.ok.glob];exact I.mod.glob.keeps I.bk) b h) a
theorem qIB {E:Value->Shared->Prop}{Ab:List (Addr×Obj)}{s:Shared}{σ:St}{H:Hp}{x:Str}{u:Value}{pos:Pos}{Q:Value->Shared->Prop}(I:Inv X Ab σ H s)(e:Gl X x)(b:X.mg x=none)(c:B70 x=some u)(h:Q u s)
  (f:x ≠ "__name__":=by decide) (a:(x==("__debug__" : Str))=false:=by decide):wpAny (model X.prog X.w) X.A (eval (.Name x pos) X.env) Q E s:=by
 obtain⟨i,d,g⟩:=I.mod.blt;exact Calls.Name_function_global I.ok.kind e (Calls.loadGlobal_builtin (by rw[I.ok.glob];exact I.mod.glob.keeps I.bk) b (by rw[I.ok.blt];exact d.keeps I.bk) ((g x f).trans c) h) a
theorem qD6 {x:Str} {v:V} {u:Value} {pos:Pos} (d:Gl X x) (b:X.mg x=none) (c:B70 x=some u) (r:RelV v u) (e:x ≠ "__name__":=by decide) (a:(x==("__debug__" : Str))=false:=by decide):PE X (.Name x pos) (tC v):=
 λ_ _ _ H _ I h=>qIB I d b c ⟨v,H,I,r,h⟩ e a
variable{a b:Expr}{ta tb:TE}{pos:Pos}
def PC (X:Cx)(op:CmpOp)(a b:Expr)(t:TE):Prop:=
 ∀(Ab:List (Addr×Obj)) (s:Shared) (σ:St) (H:Hp) (Q:VK),Inv X Ab σ H s->t σ H Q->
  wpAny (model X.prog X.w) X.A (eval a X.env) (λv s₁=>wpAny (model X.prog X.w) X.A (eval b X.env) (λu s₂=>wpAny (model X.prog X.w) X.A (B80 op v u) (EP X Ab σ Q) X.xe s₂) X.xe s₁) X.xe s
theorem qRN (b:Expr){op:CmpOp}(h:op≠.In)(a:op≠.NotIn):C01 op b=false:=by
 have c:(op==CmpOp.In)=false:=by cases op<;>first|rfl|exact absurd rfl h
 have d:(op==CmpOp.NotIn)=false:=by cases op<;>first|rfl|exact absurd rfl a
 cases b<;>simp[C01,c,d]
def tIsN (ta:TE):TE:=λσ H Q=>ta σ H λx H1=>Q (.bl (decide (x=.non))) H1
def qdW (ta:TE):TE:=λσ H Q=>ta σ H λx H1=>Q (.bl (!decide (x=.non))) H1
theorem RelV.none_iff {x:V}{v:Value}(r:RelV x v):(v==Q0)=decide (x=.non):=by
 cases x with
 |non=>cases r;rfl
 |bl _=>cases r;rfl
 |int _=>obtain⟨t,rfl⟩:=r;rfl
 |str _=>obtain⟨t,rfl⟩:=r;rfl
 |byt _=>obtain⟨t,rfl⟩:=r;rfl
 |flt _=>obtain⟨t,rfl⟩:=r;rfl
 |ref _=>cases r;rfl
 |ty _=>cases r;rfl
theorem qO7 {j pos'}(c:PE X a ta):PC X .Is a (.Constant .none j pos') (tIsN ta):=by
 intro b s σ H Q I h;refine thn (c b s σ H _ I h) λv s1 ⟨x,H1,I1,r1,q1⟩=>?_;exact Constant_none (is_none_gen ⟨.bl _,H1,I1,by rw[r1.none_iff];rfl,q1⟩)
theorem qHO {j pos'}(c:PE X a ta):PC X .IsNot a (.Constant .none j pos') (qdW ta):=by
 intro b s σ H Q I h;refine thn (c b s σ H _ I h) λv s1 ⟨x,H1,I1,r1,q1⟩=>?_;exact Constant_none (isnot_none_gen ⟨.bl _,H1,I1,by rw[r1.none_iff];rfl,q1⟩)
def tB (t:TE):TT:=λσ H Q=>t σ H λx H1=>∃c,x=.bl c/\Q c H1
theorem qcP {op:CmpOp}{t:TE}(h:PC X op a b t)(d:C01 op b=false:=by first|exact qRN _ (by decide) (by decide)|rfl):PE X (.Compare a [op] [b] pos) t:=λe s σ H Q I c=>wpAny_Compare1 (h e s σ H Q I c) d
theorem qC6 {op:CmpOp}{t:TE}(h:PC X op a b t)(e:C01 op b=false:=by first|exact qRN _ (by decide) (by decide)|rfl):PT X (.Compare a [op] [b] pos) (tB t):=by
 intro g s σ H Q I f;refine wpAny_isTrue_Compare1 (thn (h g s σ H _ I f) λv k e=>thn e λu j i=>thn i λc s3 ⟨x,H1,I1,r1,q1⟩=>?_) e;obtain⟨d,rfl,q⟩:=q1;cases r1;exact B81 ⟨H1,I1,q⟩
theorem qCC {e:Expr}{t:TE}(h:PE X e t)(c:∀whole,isTrue e X.env whole=(do let v <- whole;standAt e.pos;C02 [v] (truthy v)):=by intro _;rfl):PT X e (tB t):=by
 intro b s σ H Q I a;refine isTrue_plain (thn (h b s σ H _ I a) λv s1 ⟨x,H1,I1,r1,q1⟩=>?_) (c _);obtain⟨d,rfl,q⟩:=q1;cases r1;exact B81 ⟨H1,I1,q⟩
variable{tA tB':TT}{rest:List Expr}
def tAnd (t u:TT):TT:=λσ H Q=>t σ H λc H1=>if c=true then u σ H1 Q else Q false H1
def tOr (t u:TT):TT:=λσ H Q=>t σ H λc H1=>if c=true then Q true H1 else u σ H1 Q
def tNot (t:TT):TT:=λσ H Q=>t σ H λc H1=>Q (!c) H1
theorem qUE (d:PT X a tA):PW X (.BoolOp .And [a] pos) tA:=by
 intro f b s σ H Q I h;refine isTrue_and (thn (d b s σ H Q I h) λc g e=>?_);cases c with
 |true=>exact isTrue_and_nil e
 |false=>exact e
theorem qEA (d:PT X a tA):PW X (.BoolOp .Or [a] pos) tA:=by
 intro f b s σ H Q I h;refine isTrue_or (thn (d b s σ H Q I h) λc g e=>?_);cases c with
 |false=>exact isTrue_or_nil e
 |true=>exact e
theorem qZ7 (g:PT X a tA)(f:PW X (.BoolOp .And (b::rest) pos) tB'):PW X (.BoolOp .And (a::b::rest) pos) (tAnd tA tB'):=by
 intro e d s σ H Q I h;refine isTrue_and (thn (g d s σ H _ I h) λc s1 ⟨H1,I1,q1⟩=>?_);cases c with
 |true=>exact f e d s1 σ H1 Q I1 q1
 |false=>exact⟨H1,I1,q1⟩
theorem qG6 (g:PT X a tA)(f:PW X (.BoolOp .Or (b::rest) pos) tB'):PW X (.BoolOp .Or (a::b::rest) pos) (tOr tA tB'):=by
 intro e d s σ H Q I h;refine isTrue_or (thn (g d s σ H _ I h) λc s1 ⟨H1,I1,q1⟩=>?_);cases c with
 |true=>exact⟨H1,I1,q1⟩
 |false=>exact f e d s1 σ H1 Q I1 q1
theorem qCM (e:PT X a tA):PT X (.UnaryOp .Not a pos) (tNot tA):=by
 intro b s σ H Q I h;exact isTrue_not (e b s σ H (λc d=>Q (!c) d) I h)
def qe2 (ta tb:TE):TE:=λσ H Q=>ta σ H λx H1=>∃c,x=.bl c/\if c=true then tb σ H1 Q else Q (.bl false) H1
def qdV (ta:TE):TE:=λσ H Q=>ta σ H λx H1=>∃c,x=.bl c/\Q (.bl (!c)) H1
theorem qJQ {op}{t:TE}(h:PE X a t):PE X (.BoolOp op [a] pos) t:=λc s σ H Q I b=>BoolOp_one (h c s σ H Q I b)
theorem qI9 (f:PE X a ta)(e:PE X (.BoolOp .And (b::rest) pos) tb):PE X (.BoolOp .And (a::b::rest) pos) (qe2 ta tb):=by
 intro d s σ H Q I h;refine BoolOp_and (thn (f d s σ H _ I h) λv s1 ⟨x,H1,I1,r1,q1⟩=>?_);obtain⟨c,rfl,q1⟩:=q1;cases r1;refine B81 ?_;cases c with
 |true=>exact e d s1 σ H1 Q I1 q1
 |false=>exact⟨.bl false,H1,I1,rfl,q1⟩
theorem qUO (d:PE X a ta):PE X (.UnaryOp .Not a pos) (qdV ta):=by
 intro b s σ H Q I h;refine UnaryOp_ (thn (d b s σ H _ I h) λv s1 ⟨x,H1,I1,r1,q1⟩=>?_);obtain⟨c,rfl,q1⟩:=q1;cases r1;exact not_of (B81 ⟨.bl (!c),H1,I1,rfl,q1⟩)
def tIf (t:TT)(ta tb:TE):TE:=λσ H Q=>t σ H λc H1=>if c=true then ta σ H1 Q else tb σ H1 Q
theorem qEO {c:Expr}(i:PT X c tA)(f:PE X a ta)(g:PE X b tb):PE X (.IfExp c a b pos) (tIf tA ta tb):=by
 intro e s σ H Q I h;refine wpAny_IfExp (thn (i e s σ H _ I h) λd s1 ⟨H1,I1,q1⟩=>?_);cases d with
 |true=>exact f e s1 σ H1 Q I1 q1
 |false=>exact g e s1 σ H1 Q I1 q1
end
def SqL (K:PySem.W.Frag)(H:Hp)(a:Addr)(xs:List V):Prop:=
 Rd H a (.lst xs)\/
  ∃(o:Obj) (its:Array Value) (n:Nat),K.lookup a=some o/\o.cls=.type "list"/\o.dict=none/\o.data=.seq its n/\its.size<=B64/\Vals xs its.toList
def SqT (K:PySem.W.Frag)(H:Hp)(a:Addr)(xs:List V):Prop:=
 Rd H a (.tup xs)\/
  ∃(o:Obj) (its:Array Value) (n:Nat),K.lookup a=some o/\o.cls=.type "tuple"/\o.data=.seq its n/\its.size<=B64/\Vals xs its.toList
noncomputable def absV:Value->Option V
 |.none=>some .non
 |.bool b=>some (.bl b)
 |.int i _=>some (.int i)
 |.str x _=>some (.str x)
 |.bytes b _=>some (.byt b)
 |.float b _=>some (.flt b)
 |.ref a=>some (.ref a)
 |.type n=>some (.ty n)
 |_=>none
theorem RelV.abs {x:V}{u:Value}(r:RelV x u):absV u=some x:=by
 cases x with
 |non=>cases r;rfl
 |bl _=>cases r;rfl
 |int _=>obtain⟨t,rfl⟩:=r;rfl
 |str _=>obtain⟨t,rfl⟩:=r;rfl
 |byt _=>obtain⟨t,rfl⟩:=r;rfl
 |flt _=>obtain⟨t,rfl⟩:=r;rfl
 |ref _=>cases r;rfl
 |ty _=>cases r;rfl
theorem RelV.inj {x y:V}{u:Value}(r:RelV x u)(q:RelV y u):x=y:=D5 (r.abs.symm.trans q.abs)
theorem Vals.inj:∀{xs ys:List V} {us:List Value},Vals xs us->Vals ys us->xs=ys
 |_,_,_,.nil,.nil=>rfl
 |_,_,_,.cons r t,.cons r' t'=>by rw[r.inj r',Vals.inj t t']
section
variable{X:Cx}{Ab:List (Addr×Obj)}{σ:St}{H:Hp}{s:Shared}{a:Addr}{xs ys:List V}
theorem SqL.of {K:PySem.W.Frag}(h:H a=some (.lst xs)):SqL K H a xs:=.inl (.inl h)
theorem SqT.of {K:PySem.W.Frag}(h:H a=some (.tup xs)):SqT K H a xs:=.inl (.inl h)
theorem Inv.list (I:Inv X Ab σ H s)(h:SqL X.K H a xs):∃its:List Value,Vals xs its/\PlainL s.heap a its.toArray/\xs.length<=B64:=by
 rcases h with h|⟨o,its,n,hk,hc,hd,hs,hz,r⟩
 ·obtain⟨z,its,n,r,e⟩:=h.ok I.hok;exact⟨its,r,⟨_,n,e,rfl,rfl,rfl⟩,z⟩
 ·refine⟨its.toList,r,⟨o,n,I.kIn a o hk,hc,hd,by simpa using hs⟩,?_⟩
  have e:=r.length;simp only[C2] at e
  lia
theorem Inv.tuple (I:Inv X Ab σ H s)(h:SqT X.K H a xs):∃its:List Value,Vals xs its/\IsTup s.heap a its.toArray/\xs.length<=B64:=by
 rcases h with h|⟨o,its,n,hk,hc,hs,hz,r⟩
 ·obtain⟨z,its,r,p⟩:=h.ok I.hok;exact⟨its,r,p,z⟩
 ·refine⟨its.toList,r,⟨o,I.kIn a o hk,hc,n,by simpa using hs⟩,?_⟩
  have e:=r.length;simp only[C2] at e
  lia
theorem Inv.list_inj (I:Inv X Ab σ H s)(h:SqL X.K H a xs)(h':SqL X.K H a ys):xs=ys:=by
 obtain⟨c,r,⟨o,n,e,_,_,d⟩,_⟩:=I.list h;obtain⟨b,i,⟨k,j,g,_,_,f⟩,_⟩:=I.list h';rw[e] at g;cases g;rw[d] at f
 injection f with d1 _
 have:c=b:=by simpa using congrArg A97 d1
 subst this;exact r.inj i
theorem Inv.tuple_inj (I:Inv X Ab σ H s)(h:SqT X.K H a xs)(h':SqT X.K H a ys):xs=ys:=by
 obtain⟨c,r,⟨o,e,_,n,d⟩,_⟩:=I.tuple h;obtain⟨b,i,⟨k,g,_,j,f⟩,_⟩:=I.tuple h';rw[e] at g;cases g;rw[d] at f
 injection f with d1 _
 have:c=b:=by simpa using congrArg A97 d1
 subst this;exact r.inj i
end
noncomputable abbrev Cx.wish (X:Cx)(E:Value->Shared->Prop):Cx:={X with xe:=E}
noncomputable abbrev Cx.nox (X:Cx):Cx:=X.wish λ_ _=>False
theorem Cx.Ok.wish {X:Cx}(a:X.Ok)(E:Value->Shared->Prop):(X.wish E).Ok:=
 ⟨a.mod,a.kind,a.glob,a.blt,a.above,a.inj,a.has,a.cab,a.hd,a.frames,a.stk,a.exf,a.bs,a.bsz,a.noex,a.exfs,a.funs,a.frf⟩
theorem Cx.Ok.unwish {X:Cx}{E:Value->Shared->Prop}(a:(X.wish E).Ok):X.Ok:=
 ⟨a.mod,a.kind,a.glob,a.blt,a.above,a.inj,a.has,a.cab,a.hd,a.frames,a.stk,a.exf,a.bs,a.bsz,a.noex,a.exfs,a.funs,a.frf⟩
section
variable{X:Cx}{Ab:List (Addr×Obj)}{σ:St}{H:Hp}{s:Shared}{E:Value->Shared->Prop}
theorem Inv.wish (I:Inv X Ab σ H s)(E:Value->Shared->Prop):Inv (X.wish E) Ab σ H s:=⟨I.ok.wish E,I.os,I.bare,I.base,I.loc,I.cell,I.free,I.freeC,I.pin,I.hok,I.len⟩
theorem Inv.unwish (I:Inv (X.wish E) Ab σ H s):Inv X Ab σ H s:=⟨I.ok.unwish,I.os,I.bare,I.base,I.loc,I.cell,I.free,I.freeC,I.pin,I.hok,I.len⟩
theorem SP.unwish {D:Ends}{f:Flow}{b:Shared}(h:SP (X.wish E) Ab D f b):SP X Ab D f b:=by
 cases f with
 |next=>obtain⟨σ',a,I,q⟩:=h;exact⟨σ',a,I.unwish,q⟩
 |brk=>obtain⟨σ',a,I,q⟩:=h;exact⟨σ',a,I.unwish,q⟩
 |cont=>obtain⟨σ',a,I,q⟩:=h;exact⟨σ',a,I.unwish,q⟩
 |ret u=>obtain⟨v,σ',a,I,r,q⟩:=h;exact⟨v,σ',a,I.unwish,r,q⟩
theorem PSs.nox {st:List Stmt}{t:TS}(h:PSs X.nox st t):PSs X st t:=λb s σ H D I a=>
 B76 (h b s σ H D (I.wish _) a) (λ_ _ q=>q.unwish) λ_ _ z=>W8 z
end
section
variable{X:Cx}{st:Stmt}{rest:List Stmt}{t u:TS}{e:Expr}{te:TE}{pos:Pos}
def qdX:TS:=λD σ H=>D.nx σ H
def tSeq (t u:TS):TS:=λD σ H=>t {D with nx:=u D} σ H
theorem qAL:PSs X [] qdX:=λ_ _ σ H _ I h=>C37 ⟨σ,H,I,h⟩
theorem qA4 (b:PS X st t)(g:PSs X rest u):PSs X (st::rest) (tSeq t u):=by
 intro a s σ H D I h;refine wpAny_execs_cons (thn (b a s σ H {D with nx:=u D} I h) λf d q=>?_);cases f with
 |next=>
  obtain⟨σ',e,c,q⟩:=q;exact g a d σ' e D c q
 |ret v=>exact q
 |brk=>exact q
 |cont=>exact q
theorem qA5 (b:PS X st t):PSs X [st] t:=by
 intro a s σ H D I h;refine wpAny_execs_cons (thn (b a s σ H D I h) λf c q=>?_);cases f with
 |next=>exact C37 q
 |ret v=>exact q
 |brk=>exact q
 |cont=>exact q
theorem Inv.quiet {Ab:List (Addr×Obj)}{σ:St}{H:Hp}{s:Shared}(I:Inv X Ab σ H s):interactive X.env=false:=by simp[interactive,I.ok.kind]
def qdZ (te:TE):TS:=λD σ H=>te σ H λ_ H1=>D.nx σ H1
theorem qEM (b:PE X e te)(hs:swapsWith e none pos.line X.env=pure false:=by rfl):PS X (.Expr e pos) (qdZ te):=by
 intro a s σ H D I h;exact wpAny_Expr_any (thn (b a s σ H _ I h) λv s1 ⟨x,H1,I1,r1,q1⟩=>⟨σ,H1,I1,q1⟩) I.quiet hs
def tRet (te:TE):TS:=λD σ H=>te σ H D.rt
theorem qAE (b:PE X e te):PS X (.Return (some e) pos) (tRet te):=by
 intro a s σ H D I h;exact wpAny_Return_some (thn (b a s σ H _ I h) λv s1 ⟨x,H1,I1,r1,q1⟩=>⟨x,σ,H1,I1,r1,q1⟩)
def tIfS (c:TT)(t u:TS):TS:=λD σ H=>c σ H λb H1=>if b=true then t D σ H1 else u D σ H1
theorem qBF {c:Expr}{a b:List Stmt}{f:TT}(g:PT X c f)(j:PSs X a t)(i:PSs X b u):PS X (.If c a b pos) (tIfS f t u):=by
 intro e s σ H D I h;refine wpAny_If (thn (g e s σ H _ I h) λd s1 ⟨H1,I1,q1⟩=>?_);cases d with
 |true=>exact j e s1 σ H1 D I1 q1
 |false=>exact i e s1 σ H1 D I1 q1
end
abbrev TG:=V->St->Hp->(St->Hp->Prop)->Prop
abbrev TGs:=List V->St->Hp->(St->Hp->Prop)->Prop
def PG (X:Cx)(target:Expr)(t:TG):Prop:=
 ∀(Ab:List (Addr×Obj)) (s:Shared) (σ:St) (H:Hp) (v:V) (u:Value) (Q:St->Hp->Prop),Inv X Ab σ H s->RelV v u->t v σ H Q->
  wpAny (model X.prog X.w) X.A (assign target X.env u) (λ_ s'=>∃σ' H',Inv X Ab σ' H' s'/\Q σ' H') X.xe s
def PGs (X:Cx)(ts:List Expr)(t:TGs):Prop:=
 ∀(Ab:List (Addr×Obj)) (s:Shared) (σ:St) (H:Hp) (vs:List V) (us:List Value) (Q:St->Hp->Prop),Inv X Ab σ H s->Vals vs us->t vs σ H Q->
  wpAny (model X.prog X.w) X.A (assignInOrder ((C12 ts X.env).map (·.2)) us) (λ_ s'=>∃σ' H',Inv X Ab σ' H' s'/\Q σ' H') X.xe s
abbrev TSet:=V->V->V->Hp->(Hp->Prop)->Prop
def PSet (X:Cx)(t:TSet):Prop:=
 ∀(Ab:List (Addr×Obj)) (s:Shared) (σ:St) (H:Hp) (o i v:V) (ov iv u:Value) (Q:Hp->Prop),Inv X Ab σ H s->RelV o ov->RelV i iv->RelV v u->t o i v H Q->
  wpAny (model X.prog X.w) X.A (setItem ov iv u) (λ_ s'=>∃H',Inv X Ab σ H' s'/\Q H') X.xe s
abbrev TIp:=V->V->Hp->VK->Prop
def PIp (X:Cx)(op:Operator)(t:TIp):Prop:=
 ∀(Ab:List (Addr×Obj)) (s:Shared) (σ:St) (H:Hp) (x y:V) (v u:Value) (Q:VK),Inv X Ab σ H s->RelV x v->RelV y u->t x y H Q->
  wpAny (model X.prog X.w) X.A (inplaceOp op v u) (EP X Ab σ Q) X.xe s
section
variable{X:Cx}{pos:Pos}
def qVU (i:Nat):TG:=λv σ H Q=>Q (σ.set i (some v)) H
theorem qAR {i:Nat}{x:Str}(c:X.N.Nodup)(hi:X.N[i]?=some x)(a:Loc X.env.scope x)(b:X.fn x=true\/X.env.scope.names.lookup x=some .local:=by first|exact .inl rfl|exact .inr rfl|assumption):PG X (.Name x pos) (qVU i):=by
 intro f s σ H v u Q I r h;exact wpAny_assign_Name (qM2 I c hi a r (λe d=>⟨_,H,d,h⟩) b)
def gNil:TGs:=λvs σ H Q=>vs=[]/\Q σ H
def qeR (t:TG)(u:TGs):TGs:=λvs σ H Q=>∃v r,vs=v::r/\t v σ H λσ' H'=>u r σ' H' Q
theorem qGC:PGs X [] gNil:=by
 intro b s σ H c a Q I r h;obtain⟨e,h⟩:=h;subst e;cases r;exact assignInOrder_nil ⟨σ,H,I,h⟩
theorem qBV {e:Expr}{es:List Expr}{t:TG}{u:TGs}(b:PG X e t)(d:PGs X es u)
  (hs:(C12 (e::es) X.env).map (·.2)=assign e X.env::(C12 es X.env).map (·.2):=by rfl):PGs X (e::es) (qeR t u):=by
 intro a s σ H g f Q I r h;obtain⟨v,i,c,h⟩:=h;subst c;cases r with
 |cons r rr=>
  rw[hs];refine assignInOrder_cons (thn (b a s σ H _ _ _ I r h) λ_ s1 ⟨σ1,H1,I1,q1⟩=>?_);exact d a s1 σ1 H1 _ _ Q I1 rr q1
def gTup (K:PySem.W.Frag)(n:Nat)(t:TGs):TG:=λv σ H Q=>∃a xs,v=.ref a/\SqT K H a xs/\xs.length=n/\t xs σ H Q
theorem qL9 {es:List Expr}{k:Nat}{t:TGs}{n:Nat}(y:X.calm=true)(h:PGs X es t)
  (z:(C12 es X.env).length=n:=by rfl) (d:(C12 es X.env).findIdx? (·.1)=none:=by rfl):PG X (.Tuple es k pos) (gTup X.K n t):=by
 intro g s σ H v u Q I r c;obtain⟨a,w,x,hq,m,c⟩:=c;subst x;cases r;obtain⟨l,f,p,hz⟩:=I.tuple hq;refine assign_Tuple_tuple (I.ok.hd y) p (by simp[z,<- m,f.length]) d λi j=>?_
 have q:Inv X g σ H {s with heap:=i}:=I.kept (t':=s.toks) λb o e=>j b o (C6 (B7 e)) e;exact h g _ σ H w _ Q q (by simpa using f) c
def gSub (to ti:TE)(t:TSet):TG:=λv σ H Q=>to σ H λo H1=>ti σ H1 λi H2=>t o i v H2 λH3=>Q σ H3
theorem qcL {o i:Expr}{c b:TE}{t:TSet}(d:PE X o c)(hi:PE X i b)(hs:PSet X t)
  (e:∀ v,assign (.Subscript o i pos) X.env v=(do
   let ov <- C02 [v] (eval o X.env)
   let iv <- C02 [v,ov] (eval i X.env)
   standAt pos
   C02 [v,ov,iv] (setItem ov iv v)
   release [v,ov,iv] []):=by intro _;rfl):PG X (.Subscript o i pos) (gSub c b t):=by
 intro a s σ H v u Q I r h;rw[e];refine B62 (B72 (thn (d a s σ H _ I h) λov s1 ⟨x,H1,I1,r1,q1⟩=>?_));refine B62 (B72 (thn (hi a s1 σ H1 _ I1 q1) λiv s2 ⟨y,H2,I2,r2,q2⟩=>?_));refine B62 (C29 (B62 (B72 (thn (hs a s2 σ H2 x y v ov iv u _ I2 r1 r2 r q2) λ_ s3 ⟨H3,I3,q3⟩=>?_))));exact wpAny_release ⟨σ,H3,I3,q3⟩
def tAsg (te:TE)(g:TG):TS:=λD σ H=>te σ H λx H1=>g x σ H1 D.nx
theorem qRD {a e:Expr}{b:TE}{g:TG}(d:PE X e b)(j:PG X a g)(hs:swapsWithSole [a] e pos.line X.env=pure false:=by rfl)(f:swappedStores [a] e X.env=pure none:=by rfl)
  (i:(C12 [a] X.env).map (·.2)=[assign a X.env]:=by rfl):PS X (.Assign [a] e pos) (tAsg b g):=by
 intro c s σ H D I h;refine wpAny_Assign_stores (thn (d c s σ H _ I h) λv s1 ⟨x,H1,I1,r1,q1⟩=>?_) hs f;rw[i];exact thn (j c s1 σ H1 x v _ I1 r1 q1) λ_ k q=>q
theorem qAJ {i:Nat}{x:Str}{e:Expr}{b:TE}{a:Pos}(g:X.N.Nodup)(hi:X.N[i]?=some x)(c:Loc X.env.scope x)(d:PE X e b)(hs:swapsWith e (some (.Name x a)) pos.line X.env=pure false:=by rfl)(f:X.fn x=true\/X.env.scope.names.lookup x=some .local:=by first|exact .inl rfl|exact .inr rfl|assumption):
  PS X (.Assign [.Name x a] e pos) (tAsg b (qVU i)):=by
 intro j s σ H D I h;refine wpAny_Assign_Name (thn (d j s σ H _ I h) λv s1 ⟨y,H1,I1,r1,q1⟩=>?_) hs;exact qM2 I1 g hi c r1 (λl k=>⟨_,H1,k,q1⟩) f
def tAug (i:Nat)(te:TE)(ti:TIp):TS:=λD σ H=>∃x,σ[i]?=some (some x)/\te σ H λy H1=>ti x y H1 λz H2=>D.nx (σ.set i (some z)) H2
theorem qcF {i:Nat}{x:Str}{e:Expr}{o:TE}{op:Operator}{n:TIp}{b:Pos}(hN:X.N.Nodup)(hi:X.N[i]?=some x)(d:Loc X.env.scope x)(he:PE X e o)(ho:PIp X op n)(hf:X.fn x=true\/X.env.scope.names.lookup x=some .local:=by first|exact .inl rfl|exact .inr rfl|assumption):
  PS X (.AugAssign (.Name x b) op e pos) (tAug i o n):=by
 intro g s σ H D I h;obtain⟨v,e1,h⟩:=h;obtain⟨m,hn,t⟩:=I.loc;have f:Vis X.env.scope x:=by rcases d with k|k;exact .inl k;exact .inr (.inl k)
 obtain⟨u,r,l⟩:=t i x v hi e1 f;refine wpAny_AugAssign_Name ?_;have j:wpAny (model X.prog X.w) X.A (eval e X.env) (λw q=>wpAny (model X.prog X.w) X.A (inplaceOp op u w) (λr p=>wpAny (model X.prog X.w) X.A (storeName X.env x r) (λ_=>SP X g D .next) X.xe p) X.xe q) X.xe s:=by
  refine thn (he g s σ H _ I h) λw s1 ⟨y,H1,I1,r1,q1⟩=>?_;refine thn (ho g s1 σ H1 v y u w _ I1 r r1 q1) λz s2 ⟨zv,H2,I2,r2,q2⟩=>?_;exact qM2 I2 hN hi d r2 (λs3 I3=>⟨_,H2,I3,q2⟩) hf
 rcases l with⟨hk,hm⟩|⟨hk,c,hc,a⟩
 ·exact wpAny_loadName_local I.ok.kind hk hn hm j
 ·rcases hk with hk|hk
  ·exact wpAny_loadName_cell I.ok.kind hk hc a j
  ·rcases d with k|k
   ·have:X.env.scope.names.lookup x=some .free:=hk;rw[k] at this;cases this
   ·have:X.env.scope.names.lookup x=some .free:=hk;rw[k] at this;cases this
def ipI (f:Int->Int->Int):TIp:=λx y H Q=>∃i j,x=.int i/\y=.int j/\Q (.int (f i j)) H
theorem qd3:PIp X .Add (ipI λi j=>i+j):=by
 intro f s σ H x y v u Q I c a h;obtain⟨i,j,b,d,q⟩:=h;subst b;subst d;obtain⟨t,rfl⟩:=c;obtain⟨e,rfl⟩:=a;exact iadd_int ⟨.int _,H,I.tok _,⟨_,rfl⟩,q⟩
def qbW (c:TT)(tb:TS):TS:=λD σ H=>∃W:Nat->St->Hp->Prop,(∃m,W m σ H)/\∀m σ H,W m σ H->
 c σ H λb H1=>if b=true then∃N:St->Hp->Prop,(∀σ' H',N σ' H'->∃m',m'<m/\W m' σ' H')/\tb {D with nx:=N,ct:=N,bk:=D.nx} σ H1 else D.nx σ H1
theorem qGU {c:Expr}{body:List Stmt}{p:TT}{o:TS}(q:PassesOwn (model X.prog X.w) X.A X.env X.xe)(u:PT X c p)(x:PSs X body o):PS X (.While c body [] pos) (qbW p o):=by
 intro i s σ H D I h;obtain⟨W,⟨z,y⟩,a⟩:=h;refine wpAny_While (codeAny_whileLoop (λn t=>∃σ' H',Inv X i σ' H' t/\W n σ' H') ?_ z ⟨σ,H,I,y⟩);rintro n s1 ⟨σ1,H1,I1,w1⟩;refine C00 q (thn (u i s1 σ1 H1 _ I1 (a n σ1 H1 w1)) λb s2 ⟨H2,I2,q2⟩=>?_);cases b with
 |true=>
  obtain⟨N,r,q2⟩:=q2;rw[if_pos rfl];refine C00 q (thn (x i s2 σ1 H2 _ I2 q2) λf s3 e=>?_);cases f with
  |next=>
   obtain⟨σ3,d,l,k⟩:=e;obtain⟨j,g,m⟩:=r σ3 d k;exact⟨j,g,σ3,d,l,m⟩
  |cont=>
   obtain⟨σ3,d,l,k⟩:=e;obtain⟨j,g,m⟩:=r σ3 d k;exact⟨j,g,σ3,d,l,m⟩
  |brk=>exact e
  |ret v=>exact e
 |false=>
  rw[if_neg B4];exact C37 ⟨σ1,H2,I2,q2⟩
end
structure It where
 go:Nat->Hp->Prop
 yld:Nat->Hp->V->Hp->Prop
 stop:Nat->Hp->Prop
def FpOk (X:Cx)(Ab:List (Addr×Obj))(H:Hp)(b:Addr):Prop:=
 H b=none/\b≠X.env.locals/\b∉X.fs/\(b∈X.ex\/X.s₀.heap.objs.size<=b)/\(∀x c,X.env.cells.lookup x=some c->c≠b)/\∀p∈X.pn++Ab,p.1≠b
theorem Inv.fpOk {X:Cx}{Ab:List (Addr×Obj)}{σ:St}{H H':Hp}{s:Shared}{b:Addr}(I:Inv X Ab σ H s)(a:s.heap.objs.size<=b)(f:H' b=none):FpOk X Ab H' b:=by
 refine⟨f,V9 (E3 I.lt a),I.nofs a,.inr (F5 I.sz a),λx c e z=>?_,λp d z=>?_⟩
 ·obtain⟨v,q⟩:=I.cell x c e;exact absurd (E3 q.lt (by rw[z];exact a)) (R9 _)
 ·exact absurd (E3 (B7 (I.pin p d).1) (by rw[z];exact a)) (R9 _)
structure Turn (P:B66)(w:World)(K:PySem.W.Frag)(tg:Expr)(J:It)(fp:List Addr)(it:Addr)(tn:Nat->Heap->Prop):Prop where
 mem:it∈fp
 obj:∀i h,tn i h->∀b∈fp,∃o,h.get? b=some o/\∀v,o.data≠.cell v
 keep:∀i h h',tn i h->(∀b∈fp,∀o,h.get? b=some o->h'.get? b=some o)->tn i h'
 item:∀(X:Cx),X.prog=P->X.w=w->X.K=K->X.calm=true->∀(i:Nat) (Ab:List (Addr×Obj)) (s:Shared) (σ:St) (H:Hp) (E:Value->Shared->Prop),Inv X Ab σ H s->(∀b∈fp,FpOk X Ab H b)->tn i s.heap->J.go i H->
  wpAny (model P w) X.A (pyNext (.ref it)) (fun r s1=>∃ u,r=some u/\
   wpAny (model P w) X.A (C38 tg (.ref it) u) (λ_ s2=>∃x H',Inv X Ab σ H' s2/\RelV x u/\J.yld i H x H'/\tn (i+1) s2.heap/\∀b∈fp,H' b=none) E s1) E s
 done:∀(X:Cx),X.prog=P->X.w=w->X.K=K->X.calm=true->∀(i:Nat) (Ab:List (Addr×Obj)) (s:Shared) (σ:St) (H:Hp) (E:Value->Shared->Prop),Inv X Ab σ H s->(∀b∈fp,FpOk X Ab H b)->tn i s.heap->J.stop i H->
  wpAny (model P w) X.A (pyNext (.ref it)) (λr s1=>r=none/\Inv X Ab σ H s1) E s
 self:∀(A:Around) (i:Nat) (s:Shared) (Q:Value->Shared->Prop) (E:Value->Shared->Prop),tn i s.heap->Q (.ref it) s->wpAny (model P w) A (pyIter (.ref it)) Q E s
abbrev TI:=St->Hp->(It->Hp->Prop)->Prop
def PIE (X:Cx)(Ab:List (Addr×Obj))(σ:St)(tg:Expr)(R:It->Hp->Prop)(itv:Value)(s2:Shared):Prop:=
 ∃(it:Addr) (fp:List Addr) (tn:Nat->Heap->Prop) (J:It) (H':Hp),itv=.ref it/\Inv X Ab σ H' s2/\Turn X.prog X.w X.K tg J fp it tn/\tn 0 s2.heap/\(∀b∈fp,FpOk X Ab H' b)/\R J H'
def PI (X:Cx)(tg iter:Expr)(wi:TI):Prop:=
 ∀(Ab:List (Addr×Obj)) (s:Shared) (σ:St) (H:Hp) (R:It->Hp->Prop),Inv X Ab σ H s->wi σ H R->
  wpAny (model X.prog X.w) X.A (eval iter X.env) (λv s1=>wpAny (model X.prog X.w) X.A (pyIter v) (PIE X Ab σ tg R) X.xe s1) X.xe s
theorem qTA {M:Model}{A:Around}{E:Value->Shared->Prop}{s:Shared}{c:Expr}{b:Addr}{u:Value}{o:Obj}{n:String}{vs:Array Value}{Q:Unit->Shared->Prop}(e:s.heap.get? b=some o)(f:o.cls=.type n)(d:o.data=.fields vs)
  (g:["enumerate","zip","dict_itemiterator","dict_reverseitemiterator","odict_iterator","itertools.zip_longest","itertools.pairwise"].contains n=false) (a:Q () s):wpAny M A (C38 c (.ref b) u) Q E s:=by
 unfold C38;cases c<;>first
  |exact B63 a
  | (cases u <;> first
    |exact B63 a
    | (refine B62 (wpAny_load e ?_)
       rw[f,d];show wpAny M A (if(["enumerate","zip","dict_itemiterator","dict_reverseitemiterator","odict_iterator","itertools.zip_longest","itertools.pairwise"].contains n&&vs[0]? == some (rawInt _))=true then _ else _) Q E s
       rw[if_neg (by intro h;rw[g,y7] at h;cases h)]
       exact B63 a))
def Itl (K:PySem.W.Frag)(a:Addr):It:=
 ⟨λi H=>∃xs x,SqL K H a xs/\xs[i]?=some x,λi H x H'=>H'=H/\∀xs,SqL K H a xs->xs[i]?=some x,λi H=>∃xs,SqL K H a xs/\xs.length<=i⟩
def Itt (K:PySem.W.Frag)(a:Addr):It:=
 ⟨λi H=>∃xs x,SqT K H a xs/\xs[i]?=some x,λi H x H'=>H'=H/\∀xs,SqT K H a xs->xs[i]?=some x,λi H=>∃xs,SqT K H a xs/\xs.length<=i⟩
def Itr (lo:Int)(n:Nat):It:=⟨λi _=>i<n,λi H x H'=>H'=H/\x=.int (lo+i),λi _=>n<=i⟩
theorem qNM {P:B66}{w:World}{K:PySem.W.Frag}{tg:Expr}(a g:Addr):Turn P w K tg (Itl K a) [g] g (λi h=>h.IsListIter g a i) where
 mem:=by simp
 obj:=λi h f b j=>by
  have e:b=g:=by simpa using j
  subst e;obtain⟨o,e,c,d⟩:=f;exact⟨o,e,λv z=>by rw[d] at z;cases z⟩
 keep:=λi h m f k=>f.at λo e=>k g (by simp) o e
 item:=by
  intro X hP hw hK hc i Ab s σ H E I n f t;subst hP hw hK;obtain⟨xs,x,q,hx⟩:=t;obtain⟨r,rv,p,hz⟩:=I.list q;obtain⟨u,hu,ru⟩:=rv.get hx;obtain⟨f0,f1,f2,f3,y,f5⟩:=n g (by simp)
  refine C26 f p.isList (x:=u) (by simpa using hu) λm l sb=>?_
  have I1:Inv X Ab σ H {s with heap:=m}:=I.turned (t':=s.toks) (λb o j e=>(sb.2 b j).trans e) f0 f1 f3 y f5;obtain⟨o,e,c,d⟩:=id l;exact⟨u,rfl,qTA (s:={s with heap:=m}) e c d (by decide) ⟨x,H,I1,ru,⟨rfl,λys hy=>by rw[I.list_inj hy q];exact hx⟩,l,λb j=>(n b j).1⟩⟩
 done:=by
  intro X hP hw hK hc i Ab s σ H E I n f t;subst hP hw hK;obtain⟨xs,q,hx⟩:=t;obtain⟨r,rv,p,hz⟩:=I.list q;obtain⟨f0,f1,f2,f3,y,f5⟩:=n g (by simp)
  have hl:=rv.length;exact C34 (I.ok.hd hc) f p.isList (by simp;lia) λm eb=>⟨rfl,I.turned (t':=s.toks) (λb o j e=>eb b o j e) f0 f1 f3 y f5⟩
 self:=λ_ _ _ _ _ f h=>wpAny_pyIter_listiter f h
theorem qL2 {P:B66}{w:World}{K:PySem.W.Frag}{tg:Expr}(a j:Addr):Turn P w K tg (Itt K a) [j] j (λi h=>h.IsTupleIter j a i) where
 mem:=by simp
 obj:=λi h f b l=>by
  have e:b=j:=by simpa using l
  subst e;obtain⟨o,e,c,d⟩:=f;exact⟨o,e,λv z=>by rw[d] at z;cases z⟩
 keep:=λi h n f k=>f.at λo e=>k j (by simp) o e
 item:=by
  intro X hP hw hK hc i Ab s σ H E I q f t;subst hP hw hK;obtain⟨xs,x,r,hx⟩:=t;obtain⟨g,rv,p,hz⟩:=I.tuple r;obtain⟨u,hu,ru⟩:=rv.get hx;obtain⟨f0,f1,f2,f3,y,f5⟩:=q j (by simp)
  refine wpAny_pyNext_tuple_item f (show s.heap.IsTuple a g.toArray from p) (x:=u) (by simpa using hu) λn m sb=>?_
  have I1:Inv X Ab σ H {s with heap:=n}:=I.turned (t':=s.toks) (λb o l e=>(sb.2 b l).trans e) f0 f1 f3 y f5;obtain⟨o,e,c,d⟩:=id m;exact⟨u,rfl,qTA (s:={s with heap:=n}) e c d (by decide) ⟨x,H,I1,ru,⟨rfl,λys hy=>by rw[I.tuple_inj hy r];exact hx⟩,m,λb l=>(q b l).1⟩⟩
 done:=by
  intro X hP hw hK hc i Ab s σ H E I q f t;subst hP hw hK;obtain⟨xs,r,hx⟩:=t;obtain⟨g,rv,p,hz⟩:=I.tuple r;obtain⟨f0,f1,f2,f3,y,f5⟩:=q j (by simp)
  have hl:=rv.length;exact wpAny_pyNext_tuple_end (I.ok.hd hc) f (show s.heap.IsTuple a g.toArray from p) (by simp;lia) λn eb=>⟨rfl,I.turned (t':=s.toks) (λb o l e=>eb b o l e) f0 f1 f3 y f5⟩
 self:=λ_ _ _ _ _ f h=>wpAny_pyIter_tupleiter f h
theorem qSI {P:B66}{w:World}{K:PySem.W.Frag}{tg:Expr}(c:Addr)(lo:Int)(n:Nat):Turn P w K tg (Itr lo n) [c] c (λi h=>IsRangeIter h c (lo+(i:Nat)*1) ((n:Int)-(i:Nat)) 1) where
 mem:=by simp
 obj:=λi h a b d=>by
  have e:b=c:=by simpa using d
  subst e;exact⟨_,a,λv z=>by
   have z':A63 _=B15 v:=z;cases z'⟩
 keep:=λi h g a k=>k c (by simp) _ a
 item:=by
  intro X x p hK q i Ab s σ H E I j a l;subst x p hK;obtain⟨u,y,f2,r,m,f5⟩:=j c (by simp)
  have W:=Walks.range (prog:=X.prog) (w:=X.w) (I.ok.hd q) c lo 1 n;refine W.item i s _ _ l a λv g tk hv f kk=>?_;obtain⟨t,rfl⟩:=hv;have I1:Inv X Ab σ H {s with heap:=g,toks:=tk}:=I.turned (λb o d e=>kk b o (by simpa using d) e) u y r m f5
  refine⟨_,rfl,qTA (s:={s with heap:=g,toks:=tk}) (n:="range_iterator") f rfl rfl (by decide) ⟨.int (lo+i),H,I1,⟨t,?_⟩,⟨rfl,rfl⟩,f,λb d=>(j b d).1⟩⟩
  rw[Int.mul_one]
 done:=by
  intro X x p hK q i Ab s σ H E I j a l;subst x p hK;obtain⟨u,y,f2,r,m,f5⟩:=j c (by simp)
  exact wpAny_pyNext_range_end (I.ok.hd q) a (by have:n<=i:=l;lia) λg eb=>⟨rfl,I.turned (t':=s.toks) (λb o d e=>eb b o d e) u y r m f5⟩
 self:=λ_ _ _ _ _ a h=>wpAny_pyIter_rangeiter a h
section
variable{X:Cx}{tg:Expr}
def qeP (K:PySem.W.Frag)(tl:TE):TI:=λσ H R=>tl σ H λx H1=>∃a,x=.ref a/\(∃xs,SqL K H1 a xs)/\R (Itl K a) H1
def iTup (K:PySem.W.Frag)(tl:TE):TI:=λσ H R=>tl σ H λx H1=>∃a,x=.ref a/\(∃xs,SqT K H1 a xs)/\R (Itt K a) H1
theorem qC2 {l:Expr}{c:TE}(f:PE X l c):PI X tg l (qeP X.K c):=by
 intro j s σ H R I h;refine thn (f j s σ H _ I h) λv s1 ⟨x,H1,I1,r1,q1⟩=>?_;obtain⟨a,e,⟨m,i⟩,q⟩:=q1;subst e;cases r1;obtain⟨d,n,p,k⟩:=I1.list i;refine B87 p.isList ?_;refine⟨s1.heap.objs.size,[s1.heap.objs.size],_,_,H1,rfl,I1.kept (t':=s1.toks) λb o e=>A5 _ e,qNM a _,⟨_,B5 _ rfl,rfl,rfl⟩,λb g=>?_,q⟩;have e:b=s1.heap.objs.size:=by simpa using g
 subst e;exact I1.fpOk (A7 _) (I1.hok.fresh (A7 _))
theorem qC7 {l:Expr}{d:TE}(f:PE X l d):PI X tg l (iTup X.K d):=by
 intro j s σ H R I h;refine thn (f j s σ H _ I h) λv s1 ⟨x,H1,I1,r1,q1⟩=>?_;obtain⟨a,e,⟨m,i⟩,q⟩:=q1;subst e;cases r1;obtain⟨c,n,p,k⟩:=I1.tuple i;refine C19 (show s1.heap.IsTuple a c.toArray from p) ?_;refine⟨s1.heap.objs.size,[s1.heap.objs.size],_,_,H1,rfl,I1.kept (t':=s1.toks) λb o e=>A5 _ e,qL2 a _,⟨_,B5 _ rfl,rfl,rfl⟩,λb g=>?_,q⟩;have e:b=s1.heap.objs.size:=by simpa using g
 subst e;exact I1.fpOk (A7 _) (I1.hok.fresh (A7 _))
theorem range_it {Ab:List (Addr×Obj)}{σ:St}{H:Hp}{s:Shared}{R:It->Hp->Prop}{E:Value->Shared->Prop}{lo hi:Int}{t u v:Tok}{tk:Nat}(I:Inv X Ab σ H s)(f : -(2^62)<=lo)(i:lo<2^62)(d : -(2^62)<=hi)(c:hi<2^62)
  (q:R (Itr lo (hi-lo).toNat) H):wpAny (model X.prog X.w) X.A (pyIter (.ref s.heap.objs.size)) (PIE X Ab σ tg R) E {s with heap:=s.heap.push {cls:=.type "range",data:=.fields #[.int lo t,.int hi u,.int 1 v]},toks:=tk}:=by
 refine wpAny_pyIter_range (B58 ..) (small_one f i d c) ?_;have a:Inv X Ab σ H {s with heap:=s.heap.push {cls:=.type "range",data:=.fields #[.int lo t,.int hi u,.int 1 v]},toks:=tk}:=I.kept λb o e=>A5 _ e;refine⟨(s.heap.push {cls:=.type "range",data:=.fields #[.int lo t,.int hi u,.int 1 v]}).objs.size,[(s.heap.push {cls:=.type "range",data:=.fields #[.int lo t,.int hi u,.int 1 v]}).objs.size],_,_,H,rfl,
  a.kept (t':=tk) λb o e=>A5 _ e,qSI _ lo (hi-lo).toNat,?_,λb h=>?_,q⟩
 ·have g:lo+((0:Nat):Int)*1=lo:=by simp
  have j:(((hi-lo).toNat:Nat):Int)-((0:Nat):Int)=S0 lo hi 1:=by rw[rangeSize_one];split<;>lia
  show IsRangeIter _ _ (lo+((0:Nat):Int)*1) ((((hi-lo).toNat:Nat):Int)-((0:Nat):Int)) 1;rw[g,j];exact B5 _ rfl
 ·have e:b=(s.heap.push {cls:=.type "range",data:=.fields #[.int lo t,.int hi u,.int 1 v]}).objs.size:=by simpa using h
  subst e;exact a.fpOk (A7 _) (a.hok.fresh (A7 _))
def qeO (ta:TA):TI:=λσ H R=>ta σ H λvs H1=>∃j:Int,vs=[.int j]/\-(2^62)<=j/\j<2^62/\R (Itr 0 j.toNat) H1
theorem qB7 {a:Expr} {b:TA} {p pos:Pos} (d:Gl X "range") (c:X.mg "range" = none) (i:PA X [a] b) (hs:B69 [a] X.env=[(false,eval a X.env)]:=by rfl):PI X tg (.Call (.Name "range" p) [a] [] pos) (qeO b):=by
 intro f s σ H R I h;refine Call_ (qIB I d c boot_range (P6 (thn (i pos f s σ H _ I h) λus s1 ⟨vs,H1,I1,r1,q1⟩=>?_) hs rfl));obtain⟨j,e,q1,g,q⟩:=q1;subst e;cases r1 with
 |cons r rr=>
  cases rr;obtain⟨t,rfl⟩:=r;exact call_range_1 (range_it I1 (by lia) (by lia) q1 g (by simpa using q))
def tFor (wi:TI)(g:TG)(tb:TS):TS:=λD σ H=>wi σ H λJ H1=>∃W:Nat->Nat->St->Hp->Prop,(∃m,W 0 m σ H1)/\∀i m σ H,W i m σ H->
 (J.stop i H/\D.nx σ H)\/(J.go i H/\∃N:St->Hp->Prop,(∀σ' H',N σ' H'->∃m',m'<m/\W (i+1) m' σ' H')/\∀x H',J.yld i H x H'->g x σ H' λσ2 H2=>tb {D with nx:=N,ct:=N,bk:=D.nx} σ2 H2)
noncomputable def qO4 (fp:List Addr)(h:Heap):List (Addr×Obj):=fp.filterMap λb=>(h.get? b).map λo=>(b,o)
theorem qFX {a:List Addr}{h:Heap}{b:Addr}{o:Obj}(c:b∈a)(e:h.get? b=some o):(b,o)∈qO4 a h:=Q7.mpr ⟨b,c,by rw[e];rfl⟩
theorem qUX {a:List Addr}{h:Heap}{p:Addr×Obj}(c:p∈qO4 a h):p.1∈a/\h.get? p.1=some p.2:=by
 obtain⟨b,d,e⟩:=Q7.mp c;cases q:h.get? b with
 |none=>rw[q] at e;cases e
 |some o=>
  rw[q] at e;have f:(b,o)=p:=D5 e;subst f;exact⟨d,q⟩
theorem Inv.pinned {Ab:List (Addr×Obj)}{σ:St}{H:Hp}{s:Shared}{a:List Addr}(I:Inv X Ab σ H s)(h:∀b∈a,FpOk X Ab H b)(g:∀b∈a,∃o,s.heap.get? b=some o/\∀v,o.data≠.cell v):Inv X (Ab++qO4 a s.heap) σ H s:=
 I.pins_of λp i=>(A8.mp i).elim (λz=>I.pin p (G2 _ z)) λz=>by
  obtain⟨c,e⟩:=qUX z;obtain⟨k,j,l,_⟩:=h p.1 c;obtain⟨o,f,d⟩:=g p.1 c;rw[e] at f;cases f;exact⟨e,k,j,l,d⟩
theorem Inv.unpinned {Ab b:List (Addr×Obj)}{σ:St}{H:Hp}{s:Shared}(I:Inv X (Ab++b) σ H s):Inv X Ab σ H s:=I.pins_of λp a=>I.pin p (G2 _ (n4 _ a))
theorem qBT {l:Expr}{body:List Stmt}{wi:TI}{g:TG}{tb:TS}{pos:Pos}(hp:PassesOwn (model X.prog X.w) X.A X.env X.xe)(hc:X.calm=true)(hi:PI X tg l wi)(hg:PG X tg g)(c:PSs X body tb)
  (hs:∀x,C24 l X.env x=pure x:=by intro _;rfl):PS X (.For tg l body [] pos) (tFor wi g tb):=by
 intro q s σ H D I h;refine wpAny_For (thn (hi q s σ H _ I h) λv s1 h1=>thn h1 λa3 s2 h2=>?_) hs;obtain⟨it,fp,tn,J,H2,e,I2,T,a1,f2,W,⟨m0,w0⟩,z⟩:=h2;subst e
 -- what stays true of the iterator's objects through the loop
 have j:∀{H':Hp},(∀b∈fp,H' b=none)->∀b∈fp,FpOk X q H' b:=λhn b c=>⟨hn b c,(f2 b c).2⟩;refine codeAny_forLoop_any (λn s'=>∃i σ' H',Inv X q σ' H' s'/\tn i s'.heap/\(∀b∈fp,H' b=none)/\W i n σ' H') ?_ m0 ⟨0,σ,H2,I2,a1,λb c=>(f2 b c).1,w0⟩;rintro n s3 ⟨i,σ3,H3,I3,st3,fr3,w3⟩;rcases z i n σ3 H3 w3 with⟨y,qn⟩|⟨go,N,hN,a0⟩
 ·refine C00 hp (thn (T.done X rfl rfl rfl hc i q s3 σ3 H3 X.xe I3 (j fr3) st3 y) λr s4 ⟨hr,I4⟩=>?_);subst hr;exact C37 ⟨σ3,H3,I4,qn⟩
 ·refine C00 hp (thn (T.item X rfl rfl rfl hc i q s3 σ3 H3 X.xe I3 (j fr3) st3 go) λr s4 ⟨u,hr,h4⟩=>?_);subst hr;refine C00 hp (thn h4 λ_ s5 ⟨x,H5,I5,r5,y5,st5,fr5⟩=>?_);have a2:=I5.pinned (j fr5) (T.obj _ _ st5);refine C00 hp (thn (hg _ s5 σ3 H5 x u _ a2 r5 (a0 x H5 y5)) λ_ s6 ⟨σ6,H6,I6,q6⟩=>?_);refine C00 hp (thn (c _ s6 σ6 H6 _ I6 q6) λf s7 p=>?_);have a:∀{σ7:St} {H7:Hp},Inv X (q++qO4 fp s5.heap) σ7 H7 s7->N σ7 H7->∃m,m<n/\∃i σ' H',Inv X q σ' H' s7/\tn i s7.heap/\(∀b∈fp,H' b=none)/\W i m σ' H':=λ{σ7 H7} k t=>by
   obtain⟨m',hm,w7⟩:=hN σ7 H7 t;refine⟨m',hm,i+1,σ7,H7,k.unpinned,T.keep _ _ _ st5 λb c o e=>(k.pin (b,o) (G2 _ (G2 _ (qFX c e)))).1,λb c=>?_,w7⟩;obtain⟨o,e,d⟩:=T.obj _ _ st5 b c;exact(k.pin (b,o) (G2 _ (G2 _ (qFX c e)))).2.1
  cases f with
  |next=>obtain⟨σ7,H7,k,t⟩:=p;exact a k t
  |cont=>obtain⟨σ7,H7,k,t⟩:=p;exact a k t
  |brk=>obtain⟨σ7,H7,k,p⟩:=p;exact⟨σ7,H7,k.unpinned,p⟩
  |ret v=>obtain⟨x7,σ7,H7,k,r7,p⟩:=p;exact⟨x7,σ7,H7,k.unpinned,r7,p⟩
end
abbrev ForG (I:It)(g:TG)(tb:TS)(D:Ends)(σ:St)(H:Hp):Prop:=∃W:Nat->Nat->St->Hp->Prop,(∃m,W 0 m σ H)/\∀i m σ H,W i m σ H->(I.stop i H/\D.nx σ H)\/(I.go i H/\∃N:St->Hp->Prop,(∀σ' H',N σ' H'->∃m',m'<m/\W (i+1) m' σ' H')/\∀x H',I.yld i H x H'->g x σ H' λσ2 H2=>tb {D with nx:=N,ct:=N,bk:=D.nx} σ2 H2)
theorem qH9 {K:PySem.W.Frag}{a:Addr}{xs:List V}{g:TG}{c:TS}{D:Ends}{σ:St}{H:Hp}(Pv:Nat->St->Hp->Prop)(f:Pv 0 σ H)(j:∀i σ H,i<=xs.length->Pv i σ H->SqL K H a xs)
  (hs:∀i x σ H,xs[i]?=some x->Pv i σ H->g x σ H λσ2 H2=>c {D with nx:=Pv (i+1),ct:=Pv (i+1),bk:=D.nx} σ2 H2) (d:∀σ H,Pv xs.length σ H->D.nx σ H):
  ForG (Itl K a) g c D σ H:=by
 refine⟨λi m σ H=>m=xs.length-i/\i<=xs.length/\Pv i σ H,⟨xs.length,by simp,F3 _,f⟩,?_⟩
 rintro i m σ H ⟨rfl,hi,p⟩;have q:=j i σ H hi p;by_cases b:i<xs.length
 ·refine .inr ⟨⟨xs,xs[i],q,by simp[b]⟩,Pv (i+1),λσ' k h=>⟨xs.length-(i+1),by lia,rfl,b,h⟩,λx k y=>?_⟩
  obtain⟨e,y⟩:=y;subst e;exact hs i x σ _ (y xs q) p
 ·have e:i=xs.length:=by lia
  subst e;exact .inl ⟨⟨xs,q,A7 _⟩,d σ H p⟩
theorem qHX {K:PySem.W.Frag}{a:Addr}{xs:List V}{g:TG}{c:TS}{D:Ends}{σ:St}{H:Hp}(Pv:Nat->St->Hp->Prop)(f:Pv 0 σ H)(j:∀i σ H,i<=xs.length->Pv i σ H->SqT K H a xs)
  (hs:∀i x σ H,xs[i]?=some x->Pv i σ H->g x σ H λσ2 H2=>c {D with nx:=Pv (i+1),ct:=Pv (i+1),bk:=D.nx} σ2 H2) (d:∀σ H,Pv xs.length σ H->D.nx σ H):
  ForG (Itt K a) g c D σ H:=by
 refine⟨λi m σ H=>m=xs.length-i/\i<=xs.length/\Pv i σ H,⟨xs.length,by simp,F3 _,f⟩,?_⟩
 rintro i m σ H ⟨rfl,hi,p⟩;have q:=j i σ H hi p;by_cases b:i<xs.length
 ·refine .inr ⟨⟨xs,xs[i],q,by simp[b]⟩,Pv (i+1),λσ' k h=>⟨xs.length-(i+1),by lia,rfl,b,h⟩,λx k y=>?_⟩
  obtain⟨e,y⟩:=y;subst e;exact hs i x σ _ (y xs q) p
 ·have e:i=xs.length:=by lia
  subst e;exact .inl ⟨⟨xs,q,A7 _⟩,d σ H p⟩
theorem qEC {lo:Int}{n:Nat}{g:TG}{b:TS}{D:Ends}{σ:St}{H:Hp}(Pv:Nat->St->Hp->Prop)(d:Pv 0 σ H)
  (hs:∀i σ H,i<n->Pv i σ H->g (.int (lo+i)) σ H λσ2 H2=>b {D with nx:=Pv (i+1),ct:=Pv (i+1),bk:=D.nx} σ2 H2) (c:∀σ H,Pv n σ H->D.nx σ H):
  ForG (Itr lo n) g b D σ H:=by
 refine⟨λi m σ H=>m=n-i/\i<=n/\Pv i σ H,⟨n,by simp,F3 _,d⟩,?_⟩
 rintro i m σ H ⟨rfl,hi,p⟩;by_cases a:i<n
 ·refine .inr ⟨a,Pv (i+1),λσ' h f=>⟨n-(i+1),by lia,rfl,a,f⟩,λx h y=>?_⟩
  obtain⟨e,y⟩:=y;subst e y;exact hs i σ _ a p
 ·have e:i=n:=by lia
  subst e;exact .inl ⟨A7 _,c σ H p⟩
abbrev R2:=V->V->Hp->VK->Prop
def OpR (X:Cx)(f:Value->Value->Sem Value)(r:R2):Prop:=
 ∀(Ab:List (Addr×Obj)) (s:Shared) (σ:St) (H:Hp) (x y:V) (v u:Value) (Q:VK),Inv X Ab σ H s->RelV x v->RelV y u->r x y H Q->
  wpAny (model X.prog X.w) X.A (f v u) (EP X Ab σ Q) X.xe s
def UnR (X:Cx)(f:Value->Sem Value)(r:V->Hp->VK->Prop):Prop:=
 ∀(Ab:List (Addr×Obj)) (s:Shared) (σ:St) (H:Hp) (x:V) (v:Value) (Q:VK),Inv X Ab σ H s->RelV x v->r x H Q->
  wpAny (model X.prog X.w) X.A (f v) (EP X Ab σ Q) X.xe s
def qCG (X:Cx)(f:Value)(r:List V->Hp->VK->Prop):Prop:=
 ∀(Ab:List (Addr×Obj)) (s:Shared) (σ:St) (H:Hp) (xs:List V) (us:List Value) (Q:VK),Inv X Ab σ H s->Vals xs us->r xs H Q->
  wpAny (model X.prog X.w) X.A (call f us) (EP X Ab σ Q) X.xe s
def TruR (X:Cx)(r:V->Hp->(Bool->Hp->Prop)->Prop):Prop:=
 ∀(Ab:List (Addr×Obj)) (s:Shared) (σ:St) (H:Hp) (x:V) (v:Value) (Q:Bool->Hp->Prop),Inv X Ab σ H s->RelV x v->r x H Q->
  wpAny (model X.prog X.w) X.A (truthy v) (TP X Ab σ Q) X.xe s
def tOp (r:R2)(ta tb:TE):TE:=λσ H Q=>ta σ H λx H1=>tb σ H1 λy H2=>r x y H2 Q
def tUn (r:V->Hp->VK->Prop)(ta:TE):TE:=λσ H Q=>ta σ H λx H1=>r x H1 Q
def rI (C:Int->Int->Prop)(g:Int->Int->V):R2:=λx y H Q=>∃i j,x=.int i/\y=.int j/\C i j/\Q (g i j) H
def rI0 (g:Int->Int->V):R2:=λx y H Q=>∃i j,x=.int i/\y=.int j/\Q (g i j) H
def rU (g:Int->V):V->Hp->VK->Prop:=λx H Q=>∃i,x=.int i/\Q (g i) H
section
variable{X:Cx}{a b c:Expr}{ta tb tc:TE}{pos:Pos}
theorem binT (d:PE X a ta)(c:PE X b tb){Ab:List (Addr×Obj)}{s:Shared}{σ:St}{H:Hp}{R:V->V->Hp->Prop}(I:Inv X Ab σ H s)
  (h:ta σ H λx H1=>tb σ H1 λy H2=>R x y H2) {Q:Value->Shared->Prop} {f:Value->Value->Sem Value}
  (e:∀v u s2 x y H2,Inv X Ab σ H2 s2->RelV x v->RelV y u->R x y H2->wpAny (model X.prog X.w) X.A (f v u) Q X.xe s2):
  wpAny (model X.prog X.w) X.A (eval a X.env) (λv s₁=>wpAny (model X.prog X.w) X.A (eval b X.env) (λu s₂=>wpAny (model X.prog X.w) X.A (f v u) Q X.xe s₂) X.xe s₁) X.xe s:=by
 refine thn (d Ab s σ H _ I h) λv s1 ⟨x,H1,I1,r1,q1⟩=>?_;refine thn (c Ab s1 σ H1 _ I1 q1) λu s2 ⟨y,H2,I2,r2,q2⟩=>?_;exact e v u s2 x y H2 I2 r1 r2 q2
theorem qAU {op:Operator}{r:R2}(d:OpR X (B90 op) r)(k:PE X a ta)(g:PE X b tb):PE X (.BinOp a op b pos) (tOp r ta tb):=by
 intro j s σ H Q I h;exact wpAny_BinOp (binT k g I h λv u e x y f l i c q=>d j e σ f x y v u Q l i c q)
theorem qSV {op:UnaryOp}{r:V->Hp->VK->Prop}(d:UnR X (unaryOp op) r)(c:PE X a ta):PE X (.UnaryOp op a pos) (tUn r ta):=by
 intro b s σ H Q I h;exact UnaryOp_ (thn (c b s σ H _ I h) λv s1 ⟨x,H1,I1,r1,q1⟩=>d b s1 σ H1 x v Q I1 r1 q1)
theorem opI {f:Value->Value->Sem Value}{C:Int->Int->Prop}{g:Int->Int->Int}
  (a:∀(i j:Int) (t u:Tok) (s:Shared) (Q:Value->Shared->Prop) (E:Value->Shared->Prop),C i j->Q (.int (g i j) s.toks) {s with toks:=s.toks+1}->wpAny (model X.prog X.w) X.A (f (.int i t) (.int j u)) Q E s):
  OpR X f (rI C λi j=>.int (g i j)):=by
 intro k s σ H x y v u Q I e c h;obtain⟨i,j,rfl,rfl,d,q⟩:=h;obtain⟨t,rfl⟩:=e;obtain⟨b,rfl⟩:=c;exact a i j t b s _ _ d ⟨.int (g i j),H,I.tok _,⟨_,rfl⟩,q⟩
theorem opI0 {f:Value->Value->Sem Value}{g:Int->Int->Int}
  (a:∀(i j:Int) (t u:Tok) (s:Shared) (Q:Value->Shared->Prop) (E:Value->Shared->Prop),Q (.int (g i j) s.toks) {s with toks:=s.toks+1}->wpAny (model X.prog X.w) X.A (f (.int i t) (.int j u)) Q E s):
  OpR X f (rI0 λi j=>.int (g i j)):=by
 intro e s σ H x y v u Q I d c h;obtain⟨i,j,rfl,rfl,q⟩:=h;obtain⟨t,rfl⟩:=d;obtain⟨b,rfl⟩:=c;exact a i j t b s _ _ ⟨.int (g i j),H,I.tok _,⟨_,rfl⟩,q⟩
theorem opB0 {f:Value->Value->Sem Value}{g:Int->Int->Bool}
  (a:∀(i j:Int) (t u:Tok) (s:Shared) (Q:Value->Shared->Prop) (E:Value->Shared->Prop),Q (.bool (g i j)) s->wpAny (model X.prog X.w) X.A (f (.int i t) (.int j u)) Q E s):
  OpR X f (rI0 λi j=>.bl (g i j)):=by
 intro e s σ H x y v u Q I d c h;obtain⟨i,j,rfl,rfl,q⟩:=h;obtain⟨t,rfl⟩:=d;obtain⟨b,rfl⟩:=c;exact a i j t b s _ _ ⟨.bl (g i j),H,I,rfl,q⟩
def CDiv (i j:Int):Prop:=0<j/\j<1073741824
def CPow (i j:Int):Prop:=0<=j/\j<=1000000/\i.natAbs<2^64
def CMul (i j:Int):Prop:=(-(2^64)<i/\i<2^64)\/(-(2^64)<j/\j<2^64)
theorem CMul.ok {i j:Int}(h:CMul i j):IntMulOk i j:=by
 rcases h with⟨b,a⟩|⟨b,a⟩
 ·exact .of_left (intBits_le_64 b a)
 ·exact .of_right (intBits_le_64 b a)
theorem qSH (k:Nat):(0:Int)<=2^k:=by
 rw[two_pow_cast];exact X0 _
theorem qF2:OpR X (B90 .Add) (rI0 λi j=>.int (i+j)):=opI0 λ_ _ _ _ _ _ _ q=>add_int q
theorem qEB:OpR X (B90 .Sub) (rI0 λi j=>.int (i-j)):=opI0 λ_ _ _ _ _ _ _ q=>sub_int q
theorem qJU:OpR X (B90 .Mult) (rI CMul λi j=>.int (i*j)):=opI λ_ _ _ _ _ _ _ a q=>mul_int q a.ok
theorem qPV:OpR X (B90 .FloorDiv) (rI CDiv λi j=>.int (i/j)):=opI λi j _ _ _ _ _ a q=>by
 have c:(0:Int)<j:=a.1;have b:j<1073741824:=a.2;exact floordiv_int (by lia) (by rw[X9 i (by lia)];exact q) (.inl (c9 (by lia)))
theorem qJV:OpR X (B90 .Mod) (rI (λ_ j=>0<j) λi j=>.int (i%j)):=opI λi j _ _ _ _ _ a q=>by
 have b:(0:Int)<j:=a;exact mod_int' (by lia) (by rw[t0 i (by lia)];exact q)
theorem qcR:OpR X (B90 .Pow) (rI CPow λi j=>.int (i^j.toNat)):=opI λ_ _ _ _ _ _ _ a q=>pow_int_small a.1 a.2.1 a.2.2 q
theorem qRL:OpR X (B90 .LShift) (rI CPow λi j=>.int (i*2^j.toNat)):=opI λ_ _ _ _ _ _ _ a q=>lshift_int_small a.1 a.2.1 a.2.2 q
theorem qUU:OpR X (B90 .RShift) (rI (λ_ j=>0<=j) λi j=>.int (i/2^j.toNat)):=opI λi j _ _ _ _ _ a q=>
 rshift_int a (by rw[X9 i (qSH _)];exact q)
theorem qOE:OpR X (B90 .BitAnd) (rI0 λi j=>.int (O8 i j)):=opI0 λ_ _ _ _ _ _ _ q=>and_int q
theorem qeD:OpR X (B90 .BitOr) (rI0 λi j=>.int (A73 i j)):=opI0 λ_ _ _ _ _ _ _ q=>or_int q
theorem unI {f:Value->Sem Value}{g:Int->Int}
  (a:∀(i:Int) (t:Tok) (s:Shared) (Q:Value->Shared->Prop) (E:Value->Shared->Prop),Q (.int (g i) s.toks) {s with toks:=s.toks+1}->wpAny (model X.prog X.w) X.A (f (.int i t)) Q E s):
  UnR X f (rU λi=>.int (g i)):=by
 intro c s σ H x v Q I b h;obtain⟨i,rfl,q⟩:=h;obtain⟨t,rfl⟩:=b;exact a i t s _ _ ⟨.int (g i),H,I.tok _,⟨_,rfl⟩,q⟩
theorem qL1:UnR X (unaryOp .USub) (rU λi=>.int (-i)):=unI λ_ _ _ _ _ q=>neg_int q
end
noncomputable def scal:V->V->Bool
 |.non,.non=>true|.non,.int _=>true|.int _,.non=>true|.non,.bl _=>true|.bl _,.non=>true|.non,.str _=>true|.str _,.non=>true
 |.int _,.int _=>true|.bl _,.bl _=>true|.str _,.str _=>true|.byt _,.byt _=>true
 |.int _,.str _=>true|.str _,.int _=>true|.bl _,.str _=>true|.str _,.bl _=>true
 |_,_=>false
def rEq:R2:=λx y H Q=>scal x y=true/\Q (.bl (decide (x=y))) H
def rNe:R2:=λx y H Q=>scal x y=true/\Q (.bl (!decide (x=y))) H
theorem qWF {i j:Int}:decide (V.int i=V.int j)=(i==j):=by
 rw[L7];simp
theorem qZO {i j:Bool}:decide (V.bl i=V.bl j)=(i==j):=by
 rw[L7];simp
theorem qWE {i j:Str}:decide (V.str i=V.str j)=(i==j):=by
 rw[L7];simp
theorem qWG {i j:Array UInt8}:decide (V.byt i=V.byt j)=(i.toList==j.toList):=by
 rw[L7];cases i;cases j;simp
section
variable{X:Cx}{a b c:Expr}{ta tb tc:TE}{pos:Pos}
theorem qBA {Ab:List (Addr×Obj)}{σ:St}{H:Hp}{s:Shared}{Q:VK}{k a:Bool}(I:Inv X Ab σ H s)(q:Q (.bl k) H)(e:k=a):EP X Ab σ Q (.bool a) s:=by
 subst e;exact⟨.bl k,H,I,rfl,q⟩
theorem qHQ:OpR X (B80 .Eq) rEq:=by
 intro e s σ H x y v u Q I d a h;obtain⟨c,q⟩:=h;cases x with
 |non=>
  cases d;cases y with
  |non=>cases a;exact PySem.EqNone.eq_none_none (qBA I q (by simp))
  |bl j=>cases a;exact PySem.EqNone.eq_none_bool (qBA I q (by simp))
  |int j=>obtain⟨b,rfl⟩:=a;exact PySem.EqNone.eq_none_int (qBA I q (by simp))
  |str j=>obtain⟨b,rfl⟩:=a;exact PySem.EqNone.eq_none_str (qBA I q (by simp))
  |_=>exact absurd (show false=true from c) B4
 |bl i=>
  cases d;cases y with
  |non=>cases a;exact PySem.EqNone.eq_bool_none (qBA I q (by simp))
  |bl j=>cases a;exact eq_bool (qBA I q qZO)
  |str j=>obtain⟨b,rfl⟩:=a;exact PySem.EqMixed.eq_bool_str (qBA I q (by simp))
  |_=>exact absurd (show false=true from c) B4
 |int i=>
  obtain⟨t,rfl⟩:=d;cases y with
  |non=>cases a;exact PySem.EqNone.eq_int_none (qBA I q (by simp))
  |int j=>obtain⟨b,rfl⟩:=a;exact eq_int (qBA I q qWF)
  |str j=>obtain⟨b,rfl⟩:=a;exact PySem.EqMixed.eq_int_str (qBA I q (by simp))
  |_=>exact absurd (show false=true from c) B4
 |str i=>
  obtain⟨t,rfl⟩:=d;cases y with
  |non=>cases a;exact PySem.EqNone.eq_str_none (qBA I q (by simp))
  |bl j=>cases a;exact PySem.EqMixed.eq_str_bool (qBA I q (by simp))
  |int j=>obtain⟨b,rfl⟩:=a;exact PySem.EqMixed.eq_str_int (qBA I q (by simp))
  |str j=>obtain⟨b,rfl⟩:=a;exact eq_str (qBA I q qWE)
  |_=>exact absurd (show false=true from c) B4
 |byt i=>
  obtain⟨t,rfl⟩:=d;cases y with
  |byt j=>obtain⟨b,rfl⟩:=a;exact PySem.W.eq_bytes (qBA I q qWG)
  |_=>exact absurd (show false=true from c) B4
 |_=>cases y<;>exact absurd (show false=true from c) B4
theorem qXX:OpR X (B80 .NotEq) rNe:=by
 intro e s σ H x y v u Q I d a h;obtain⟨c,q⟩:=h;cases x with
 |non=>
  cases d;cases y with
  |non=>cases a;exact PySem.EqNone.ne_none_none (qBA I q (by simp))
  |bl j=>cases a;exact PySem.EqNone.ne_none_bool (qBA I q (by simp))
  |int j=>obtain⟨b,rfl⟩:=a;exact PySem.EqNone.ne_none_int (qBA I q (by simp))
  |str j=>obtain⟨b,rfl⟩:=a;exact PySem.EqNone.ne_none_str (qBA I q (by simp))
  |_=>exact absurd (show false=true from c) B4
 |bl i=>
  cases d;cases y with
  |non=>cases a;exact PySem.EqNone.ne_bool_none (qBA I q (by simp))
  |bl j=>cases a;exact ne_bool (qBA I q (congrArg not qZO))
  |str j=>obtain⟨b,rfl⟩:=a;exact PySem.EqMixed.ne_bool_str (qBA I q (by simp))
  |_=>exact absurd (show false=true from c) B4
 |int i=>
  obtain⟨t,rfl⟩:=d;cases y with
  |non=>cases a;exact PySem.EqNone.ne_int_none (qBA I q (by simp))
  |int j=>obtain⟨b,rfl⟩:=a;exact ne_int (qBA I q (congrArg not qWF))
  |str j=>obtain⟨b,rfl⟩:=a;exact PySem.EqMixed.ne_int_str (qBA I q (by simp))
  |_=>exact absurd (show false=true from c) B4
 |str i=>
  obtain⟨t,rfl⟩:=d;cases y with
  |non=>cases a;exact PySem.EqNone.ne_str_none (qBA I q (by simp))
  |bl j=>cases a;exact PySem.EqMixed.ne_str_bool (qBA I q (by simp))
  |int j=>obtain⟨b,rfl⟩:=a;exact PySem.EqMixed.ne_str_int (qBA I q (by simp))
  |str j=>obtain⟨b,rfl⟩:=a;exact ne_str (qBA I q (congrArg not qWE))
  |_=>exact absurd (show false=true from c) B4
 |byt i=>
  obtain⟨t,rfl⟩:=d;cases y with
  |byt j=>obtain⟨b,rfl⟩:=a;exact PySem.W.ne_bytes (qBA I q (congrArg not qWG))
  |_=>exact absurd (show false=true from c) B4
 |_=>cases y<;>exact absurd (show false=true from c) B4
theorem qMO:OpR X (B80 .Lt) (rI0 λi j=>.bl (decide (i<j))):=opB0 λ_ _ _ _ _ _ _ q=>lt_int q
theorem qXY:OpR X (B80 .LtE) (rI0 λi j=>.bl (decide (i<=j))):=opB0 λ_ _ _ _ _ _ _ q=>le_int q
theorem qXZ:OpR X (B80 .Gt) (rI0 λi j=>.bl (decide (j<i))):=opB0 λ_ _ _ _ _ _ _ q=>gt_int q
theorem qY0:OpR X (B80 .GtE) (rI0 λi j=>.bl (decide (j<=i))):=opB0 λ_ _ _ _ _ _ _ q=>ge_int q
theorem qAY (b:Expr){op:CmpOp}(h:op≠.In:=by decide)(a:op≠.NotIn:=by decide):C01 op b=false:=by
 have c:(op==CmpOp.In)=false:=by cases op<;>first|rfl|exact absurd rfl h
 have d:(op==CmpOp.NotIn)=false:=by cases op<;>first|rfl|exact absurd rfl a
 cases b<;>simp[C01,c,d]
theorem qE3 {op:CmpOp}{r:R2}(e:OpR X (B80 op) r)(l:PE X a ta)(i:PE X b tb)(c:C01 op b=false):PE X (.Compare a [op] [b] pos) (tOp r ta tb):=by
 intro k s σ H Q I h;exact wpAny_Compare1 (binT l i I h λv u f x y g m j d q=>e k f σ g x y v u Q m j d q) c
def qdT (t:TE):TT:=λσ H Q=>t σ H λx H'=>∃k,x=.bl k/\Q k H'
theorem qAN {op:CmpOp}{r:R2}(g:OpR X (B80 op) r)(j:PE X a ta)(i:PE X b tb)(f:C01 op b=false):PT X (.Compare a [op] [b] pos) (qdT (tOp r ta tb)):=by
 intro d s σ H Q I h;refine wpAny_isTrue_Compare1 (thn (j d s σ H _ I h) fun v s1 ⟨x,H1,I1,r1,q1⟩=>thn (i d s1 σ H1 _ I1 q1) fun u s2 ⟨y,H2,I2,r2,q2⟩=>
  thn (g d s2 σ H2 x y v u _ I2 r1 r2 q2) λc s3 ⟨z,H3,I3,r3,k,e,q3⟩=>?_) f
 subst e;cases r3;exact B81 ⟨H3,I3,q3⟩
def qc0 (r r':R2)(ta tb tc:TE):TE:=λσ H Q=>ta σ H λx H1=>tb σ H1 λy H2=>r x y H2 λz H3=>∃k,z=.bl k/\
 (if k=true then tc σ H3 λw' H4=>r' y w' H4 Q else Q (.bl false) H3)
theorem qMM {op f:CmpOp}{r j:R2}(m:OpR X (B80 op) r)(i:OpR X (B80 f) j)(p:PE X a ta)(o:PE X b tb)(n:PE X c tc)
  (l:lastMarks [op,f] [b,c]=false:=by with_unfolding_all rfl):PE X (.Compare a [op,f] [b,c] pos) (qc0 r j ta tb tc):=by
 intro g s σ H Q I h;refine Compare_chain (thn (p g s σ H _ I h) fun v s1 ⟨x,H1,I1,r1,q1⟩=>chain_link (thn (o g s1 σ H1 _ I1 q1) fun u s2 ⟨y,H2,I2,r2,q2⟩=>
  thn (m g s2 σ H2 x y v u _ I2 r1 r2 q2) λd s3 ⟨z,H3,I3,r3,k,e,q3⟩=>?_)) l
 subst e;cases r3;refine B81 ?_;cases k with
 |false=>exact ite_ff ⟨.bl false,H3,I3,rfl,q3⟩
 |true=>exact ite_tt (chain_last (thn (n g s3 σ H3 _ I3 q3) λw' s4 ⟨z',H4,I4,r4,q4⟩=>i g s4 σ H4 y z' u w' Q I4 r2 r4 q4))
def TruV (K:PySem.W.Frag)(x:V)(H:Hp)(k:Bool):Prop:=
 match x with
 |.non=>k=false
 |.bl b=>k=b
 |.int i=>k=(i != 0)
 |.str y=>y.length<=B64/\k=((y.length:Int) != 0)
 |.byt y=>y.size<=B64/\k=((y.size:Int) != 0)
 |.ref p=>(∃xs,SqL K H p xs/\k=!xs.isEmpty)\/(∃xs,SqT K H p xs/\k=!xs.isEmpty)\/∃Af,H p=some (.dK Af)/\k=!Af.isEmpty
 |_=>False
theorem qT8 {κ:Type}{Af:List (κ×V)}{vs:List (κ×Value)}(r:KV Af vs):(!vs.isEmpty)=!Af.isEmpty:=by
 cases r<;>rfl
theorem qLH {xs:List V}{a:List Value}(r:Vals xs a):(!a.toArray.isEmpty)=!xs.isEmpty:=by
 cases r<;>simp
theorem qOG:(B64:Nat)<2^63:=by rw[B77];decide
theorem qbV:TruR X (λx H Q=>∃k,TruV X.K x H k/\Q k H):=by
 intro Ab s σ H x v Q I d h;obtain⟨k,e,q⟩:=h;have z:=qOG;have hs:B64=16777216:=B77;cases x with
 |non=>
  cases d;have a:k=false:=e;subst a;exact truthy_none ⟨H,I,q⟩
 |bl b=>
  cases d;have a:k=b:=e;subst a;exact B81 ⟨H,I,q⟩
 |int i=>
  obtain⟨t,rfl⟩:=d;have a:k=(i != 0):=e;subst a;exact PySem.P.truthy_int ⟨H,I,q⟩
 |str y=>
  obtain⟨t,rfl⟩:=d;obtain⟨o,a⟩:y.length<=B64/\k=((y.length:Int) != 0):=e;subst a;exact PySem.P.truthy_str (by lia) ⟨H,I.tok _,q⟩
 |byt y=>
  obtain⟨t,rfl⟩:=d;obtain⟨o,a⟩:y.size<=B64/\k=((y.size:Int) != 0):=e;subst a;exact PySem.W.truthy_bytes (by lia) ⟨H,I.tok _,q⟩
 |ref p=>
  cases d;have a:(∃xs,SqL X.K H p xs/\k=!xs.isEmpty)\/(∃xs,SqT X.K H p xs/\k=!xs.isEmpty)\/∃Af,H p=some (.dK Af)/\k=!Af.isEmpty:=e;rcases a with⟨xs,f,a⟩|⟨xs,f,a⟩|⟨Af,f,a⟩
  ·subst a;obtain⟨j,r,l,n⟩:=I.list f;have c:=r.length;exact wpAny_truthy_list l.isList (by simp only[C0];lia) ⟨H,I.tok _,by rw[qLH r];exact q⟩
  ·subst a;obtain⟨j,r,l,n⟩:=I.tuple f;have c:=r.length;exact truthy_tuple l (by simp only[C0];lia) ⟨H,I.tok _,by rw[qLH r];exact q⟩
  ·subst a;obtain⟨n,u,g,r,m⟩:Af.length<=B64/\(p==B88)=false/\∃g,KV Af g/\s.heap.DictOf (qBM X.prog X.w) p g:=I.hok p _ f;have c:Af.length=g.length:=C1 r;exact wpAny_truthy_dict u m (by lia) ⟨H,I.tok _,by rw[qT8 r];exact q⟩
 |_=>exact(show False from e).elim
theorem qXP (c:PE X a ta)(d:∀whole,isTrue a X.env whole=(do let v <- whole;standAt a.pos;C02 [v] (truthy v))):
  PT X a (λσ H Q=>ta σ H λx H'=>∃k,TruV X.K x H' k/\Q k H'):=by
 intro b s σ H Q I h;exact isTrue_plain (thn (c b s σ H _ I h) λv s1 ⟨x,H1,I1,r1,q1⟩=>qbV b s1 σ H1 x v Q I1 r1 q1) (d _)
theorem qE1 {x:V}{a:List Value}(r:Vals [x] a):∃u,a=[u]/\RelV x u:=by
 cases r with
 |cons r1 r2=>cases r2;exact⟨_,rfl,r1⟩
theorem qNJ {x y:V}{a:List Value}(r:Vals [x,y] a):∃u w',a=[u,w']/\RelV x u/\RelV y w':=by
 cases r with
 |cons r1 r2=>
  cases r2 with
  |cons r3 r4=>cases r4;exact⟨_,_,rfl,r1,r3⟩
theorem qWP (b:X.calm=true):qCG X (.builtin "max") (λxs H Q=>∃i j,xs=[.int i,.int j]/\Q (.int (if j>i then j else i)) H):=by
 intro l s σ H xs c Q I r h;obtain⟨i,j,rfl,q⟩:=h;obtain⟨u,f,rfl,⟨t,rfl⟩,⟨e,rfl⟩⟩:=qNJ r;refine max_two_ints (I.ok.hd b) λd g k=>⟨_,H,I.kept k,?_,q⟩;by_cases a:j>i
 ·rw[if_pos a,if_pos a];exact⟨_,rfl⟩
 ·rw[if_neg a,if_neg a];exact⟨_,rfl⟩
theorem qKK (b:X.calm=true):qCG X (.builtin "min") (λxs H Q=>∃i j,xs=[.int i,.int j]/\Q (.int (if j<i then j else i)) H):=by
 intro l s σ H xs c Q I r h;obtain⟨i,j,rfl,q⟩:=h;obtain⟨u,f,rfl,⟨t,rfl⟩,⟨e,rfl⟩⟩:=qNJ r;refine min_two_ints (I.ok.hd b) λd g k=>⟨_,H,I.kept k,?_,q⟩;by_cases a:j<i
 ·rw[if_pos a,if_pos a];exact⟨_,rfl⟩
 ·rw[if_neg a,if_neg a];exact⟨_,rfl⟩
theorem qP0:qCG X (.type "int") (λxs H Q=>(∃i,xs=[.int i]/\Q (.int i) H)\/∃k,xs=[.bl k]/\Q (.int (if k then 1 else 0)) H):=by
 intro c s σ H xs b Q I r h;rcases h with⟨i,rfl,q⟩|⟨k,rfl,q⟩
 ·obtain⟨u,rfl,t,rfl⟩:=qE1 r;exact call_int_int ⟨.int i,H,I,⟨_,rfl⟩,q⟩
 ·obtain⟨u,rfl,a⟩:=qE1 r;cases a;exact call_int_bool ⟨.int (if k then 1 else 0),H,I.tok _,⟨_,rfl⟩,q⟩
theorem qQQ:qCG X (.builtin "divmod") (λxs H Q=>∃i j,xs=[.int i,.int j]/\CDiv i j/\∀p,H p=none->Q (.ref p) (Ag H p (.tup [.int (i/j),.int (i%j)]))):=by
 intro g s σ H xs c Q I r h;obtain⟨i,j,rfl,⟨f,l⟩,q⟩:=h;obtain⟨u,k,rfl,⟨t,rfl⟩,⟨d,rfl⟩⟩:=qNJ r;refine divmod_int (by lia) ?_ (.inl (c9 (by lia)))
 rw[X9 i (by lia),t0 i (by lia)]
 have a:H s.heap.objs.size=none:=I.hok.fresh (A7 _);refine⟨.ref s.heap.objs.size,_,?_,rfl,q _ a⟩;refine I.laid (λb o e=>A5 _ e) (A7 _) ⟨by simp only[D3,O9];rw[B77];decide,[.int (i/j) s.toks,.int (i%j) (s.toks+1)],.cons ⟨_,rfl⟩ (.cons ⟨_,rfl⟩ .nil),?_⟩
 exact⟨_,B5 s.heap rfl,rfl,0,rfl⟩
end
structure ObjM (h:Heap)(x dx C:Addr)(mA:Str->Option Value):Prop where
 obj:h.get? x=some (A35 C dx)
 ns:h.Ns1 dx mA
 ne:dx≠x
theorem qV6 {h:Heap}{f:Addr}{d:Str->Option Value}(n:h.Ns1 f d):∃od,h.get? f=some od/\∀name,A59 name od=some (d name):=by
 obtain⟨o,c,p,k,i,l,_,j⟩:=n;refine⟨o,k,λname=>?_⟩;have e:=j name;unfold nsFind findBy at e;rw[<- Array.find?_toList] at e;unfold A59;rw[i];dsimp only
 split
 ·rename_i y q
  rw[q] at e;exact congrArg some e
 ·rename_i q
  rw[q] at e;have a:c.toList.any (·.refKey)=false:=by
   rw[A87];intro y g;obtain⟨z,t,b⟩:=l y (Array.mem_toList_iff.mp g);simp[DictEntry.refKey,b]
  have m:¬c.toList.any (·.refKey)=true:=by rw[a];exact B4
  rw[if_neg m];exact congrArg some e
theorem ObjM.look {h:Heap}{x a C:Addr}{b:Str->Option Value}(I:ObjM h x a C b):∃od,PySem.W.InstAt h x (A35 C a) C (some od)/\∀name,A59 name od=some (b name):=
 let⟨od,ho,hl⟩:=qV6 I.ns
 ⟨od,⟨I.obj,rfl,rfl,ho⟩,hl⟩
section
variable{prog:B66}{w:World}{A:Around}{E:Value->Shared->Prop}{s:Shared}{K:PySem.W.Frag}{x dx C f:Addr}{mA:Str->Option Value}{name:Str}{v:Value}
end
noncomputable def putF (f:Str)(v:V):List (Str×V)->List (Str×V)
 |[]=>[(f,v)]
 |(g,x)::r=>if g=f then(g,v)::r else(g,x)::putF f v r
theorem RelO.some_of {v:V}{o:Option Value}(r:RelO (some v) o):∃u,o=some u/\RelV v u:=by
 cases o with
 |none=>exact(show False from r).elim
 |some u=>exact⟨u,rfl,r⟩
section
variable{P:B66}{w:World}{H H':Hp}{h h':Heap}{a C dx:Addr}{fs fs':List (Str×V)}
theorem qaY (b:HOk P w H h)(e:H a=some (.ins C dx fs)):∃mA,ObjM h a dx C mA/\(∀f,RelO (fs.lookup f) (mA f))/\PySem.Within mA (fs.map (·.1))/\fs.length<=1000/\H dx=some (.own a):=by
 obtain⟨d,z,c,g,mA,n,r,q⟩:=(show ObjOk P w H h a (.ins C dx fs) from b a _ e);exact⟨mA,⟨g,n,c⟩,r,q,z,d⟩
end
structure Cls (K:PySem.W.Frag)(C:Addr):Prop where
 pg:B03 K C R6=true
 hd:A88 K C=true
 po:PySem.W.plainOver K C=true
 sa:Q4 K (.ref C) "__setattr__" = some (some (.builtin "object.__setattr__"))
theorem Cls.get {K:PySem.W.Frag}{C:Addr}(c:Cls K C)(f:Str):B03 K C f=true:=c.pg
def qSC (K:PySem.W.Frag)(C:Addr)(f:Str):Prop:=Q4 K (.ref C) f=some none
structure Con (K:PySem.W.Frag)(C:Addr)(f:Str)(v:V)(u:Value):Prop where
 at_:Q4 K (.ref C) f=some (some u)
 rel:RelV v u
 get:A03 K u "__get__" = some none
 cp:PySem.W.copiedNames.contains f=false
structure Meth (K:PySem.W.Frag)(C:Addr)(m:Str)(f:Addr):Prop where
 at_:Q4 K (.ref C) m=some (some (.ref f))
 fn:B54 K (.ref f)=true
 kp:T0 K (.ref f)=true
section
variable{X:Cx}{Ab:List (Addr×Obj)}{σ:St}{H:Hp}{s:Shared}{a C dx:Addr}{fs:List (Str×V)}{f:Str}{v:V}{A:Around}{E:Value->Shared->Prop}
end
section
variable{X:Cx}{o e value:Expr}{f:Str}{pos pos' tpos:Pos}{ta tv:TE}
end
section
variable{X:Cx}{Ab:List (Addr×Obj)}{σ:St}{H:Hp}{s:Shared}{A:Around}{E:Value->Shared->Prop}{Q:Value->Shared->Prop}{c:Value}{b:Bool}
inductive TyOf (K:PySem.W.Frag)(H:Hp):V->Value->Prop where
 |non:TyOf K H .non (.type "NoneType")
 |bl (x:Bool):TyOf K H (.bl x) (.type "bool")
 |int (i:Int):TyOf K H (.int i) (.type "int")
 |str (x:Str):TyOf K H (.str x) (.type "str")
 |flt (x:UInt64):TyOf K H (.flt x) (.type "float")
 |lst {a:Addr} {xs:List V} (e:H a=some (.lst xs)):TyOf K H (.ref a) (.type "list")
 |frz {a:Addr} {o:Obj} {xs:List V} (e:H a=some (.frz o (.lst xs))):TyOf K H (.ref a) (.type "list")
 |tup {a:Addr} {xs:List V} (e:H a=some (.tup xs)):TyOf K H (.ref a) (.type "tuple")
 |dK {a:Addr} {Af:List (Key×V)} (e:H a=some (.dK Af)):TyOf K H (.ref a) (.type "dict")
 |dT {a:Addr} {Af:List (List Key×V)} (e:H a=some (.dT Af)):TyOf K H (.ref a) (.type "dict")
 |ins {a C dx:Addr} {fs:List (Str×V)} (e:H a=some (.ins C dx fs)) (cl:Cls K C) (ha:Q4 K (.ref C) "__class__" = some (some (.builtin "object.__class__")))
   (hn:A03 K (.builtin "object.__class__") "__get__" = some (some (.builtin "getset_descriptor.__get__"))) (htk:B16 K (.builtin "object.__class__")=some true)
   (hm:A74 K C (.type "object")=some true):TyOf K H (.ref a) (.ref C)
theorem qVK {x:V}{u t:Value}(I:Inv X Ab σ H s)(d:RelV x u)(k:TyOf X.K H x t)(e:Y4 X.K t c=some b)(h:∀tk,Q (.bool b) {s with toks:=tk}):
  wpAny (model X.prog X.w) A (call (.builtin "isinstance") [u,c]) Q E s:=by
 cases k with
 |non=>cases(show u=Q0 from d);exact L8 PySem.W.kitx_none I.kIn V3 e (λz=>nomatch z) h
 |bl y=>cases(show u=p7 y from d);exact L8 PySem.W.kitx_bool I.kIn V3 e (λz=>nomatch z) h
 |int i=>obtain⟨t,q⟩:=(show∃t,u=R5 i t from d);cases q;exact L8 PySem.W.kitx_int I.kIn V3 e (λz=>nomatch z) h
 |str y=>obtain⟨t,q⟩:=(show∃t,u=B14 y t from d);cases q;exact L8 PySem.W.kitx_str I.kIn V3 e (λz=>nomatch z) h
 |flt y=>obtain⟨t,q⟩:=(show∃t,u=Value.float y t from d);cases q;exact L8 PySem.W.kitx_float I.kIn V3 e (λz=>nomatch z) h
 |@lst a xs ea=>
  cases(show u=E1 a from d);obtain⟨_,_,n,_,f⟩:=(show ObjOk X.prog X.w H s.heap a (.lst xs) from I.hok a _ ea);exact L8 A89 I.kIn ⟨_,f,rfl⟩ e (λz=>nomatch z) h
 |@frz a ob xs ea=>
  cases(show u=E1 a from d);obtain⟨_,_,_,n,_,f⟩:=(show ObjOk X.prog X.w H s.heap a (.frz ob (.lst xs)) from I.hok a _ ea);exact L8 A89 I.kIn ⟨_,f,rfl⟩ e (λz=>nomatch z) h
 |@tup a xs ea=>
  cases(show u=E1 a from d);obtain⟨_,_,_,p⟩:=(show ObjOk X.prog X.w H s.heap a (.tup xs) from I.hok a _ ea);obtain⟨o,f,g,_⟩:=p;exact L8 A75 I.kIn ⟨o,f,g⟩ e (λz=>nomatch z) h
 |@dK a Af ea=>
  cases(show u=E1 a from d);obtain⟨_,_,r,_,p⟩:=(show ObjOk X.prog X.w H s.heap a (.dK Af) from I.hok a _ ea);obtain⟨o,j,l,f,g,_⟩:=p;exact L8 A90 I.kIn ⟨o,f,g.1⟩ e (λz=>nomatch z) h
 |@dT a Af ea=>
  cases(show u=E1 a from d);obtain⟨_,_,xs,_,o,j,l,f,g,_⟩:=(show ObjOk X.prog X.w H s.heap a (.dT Af) from I.hok a _ ea);exact L8 A90 I.kIn ⟨o,f,g.1⟩ e (λz=>nomatch z) h
 |@ins a C dx fs ea cl ha hn htk hm=>
  cases(show u=E1 a from d);obtain⟨m,O,_⟩:=qaY I.hok ea;obtain⟨v,J,_⟩:=O.look;exact L8 (PySem.W.kitx_own (cl.get _) cl.hd ha hn htk hm) I.kIn J e (λz=>nomatch z) h
end
structure Room (k:Nat)(A:Around):Prop where
 hd:A.handled=none
 dp:A.depth+3*k+5<recursionLimit
 un:A.units+16*k+200<cLine
 gd:A.guards=some []
theorem Room.mono {j k:Nat}{A:Around}(r:Room k A)(h:j<=k):Room j A:=⟨r.hd,by have:=r.dp;lia,by have:=r.un;lia,r.gd⟩
theorem Room.deeper {k:Nat}{A:Around}(r:Room (k+1) A)(env:Env):Room k (A.deeper env):=
 ⟨r.hd,by have:=r.dp;show A.depth+1+3*k+5<_;lia,by have:=r.un;show A.units+3+16*k+200<_;lia,r.gd⟩
theorem Room.in1 {k:Nat}{A:Around}(r:Room (k+1) A):Room k A.in1:=
 ⟨r.hd,by have:=r.dp;show A.depth+3*k+5<_;lia,by have:=r.un;show A.units+1+16*k+200<_;lia,r.gd⟩
theorem Room.depth {k:Nat}{A:Around}(r:Room k A):A.depth<recursionLimit:=by have:=r.dp;lia
theorem Room.units {k:Nat}{A:Around}(r:Room k A):A.units+64<cLine:=by have:=r.un;lia
theorem Room.units0 {k:Nat}{A:Around}(r:Room k A):A.units<cLine:=by have:=r.un;lia
def tNil:TA:=λ_ H Q=>Q [] H
def qNN (ta:TE)(tr:TA):TA:=λσ H Q=>ta σ H λx H1=>tr σ H1 λxs H2=>Q (x::xs) H2
section
variable{X:Cx}{e:Expr}{es:List Expr}{te:TE}{t:TA}{pos:Pos}
theorem qA3:PA X [] tNil:=λ_ _ _ _ H Q I h=>Calls.spliced_nil ⟨[],H,I,.nil,h⟩
theorem qA0 (c:PE X e te)(d:PA X es t)(hs:B69 (e::es) X.env=(false,eval e X.env)::B69 es X.env:=by rfl):PA X (e::es) (qNN te t):=by
 intro a b s σ H Q I h;rw[hs];show wpAny _ _ (spliced ((false,eval e X.env)::backTo a (B69 es X.env))) _ _ s;refine Calls.spliced_cons (thn (c b s σ H _ I h) λu s1 ⟨x,H1,I1,r1,q1⟩=>?_);exact thn (d a b s1 σ H1 _ I1 q1) λus s2 ⟨xs,H2,I2,r2,q2⟩=>⟨x::xs,H2,I2,.cons r1 r2,q2⟩
def tTup (t:TA):TE:=λσ H Q=>t σ H λxs H1=>xs.length<=B64/\∀p,H1 p=none->Q (.ref p) (Ag H1 p (.tup xs))
def tLst (t:TA):TE:=λσ H Q=>t σ H λxs H1=>xs.length<=B64/\∀p,H1 p=none->Q (.ref p) (Ag H1 p (.lst xs))
theorem qBY {x1}(h:PA X es t):PE X (.Tuple es x1 pos) (tTup t):=by
 intro c s σ H Q I a;refine wpAny_Tuple_spliced (thn (h pos c s σ H _ I a) λus s1 ⟨xs,H1,I1,r,z,q⟩=>⟨by rw[<- r.length];exact z,?_⟩)
 have d:H1 s1.heap.objs.size=none:=I1.hok.fresh (A7 _);refine⟨.ref s1.heap.objs.size,Ag H1 s1.heap.objs.size (.tup xs),I1.laid (t':=s1.toks) (λb u e=>A5 _ e) (A7 _) ?_,rfl,q _ d⟩;exact⟨z,us,r,⟨_,B5 _ rfl,rfl,_,rfl⟩⟩
theorem qBW (h:PA X es t):PE X (.List es pos) (tLst t):=by
 intro c s σ H Q I a;refine wpAny_List_spliced (thn (h pos c s σ H _ I a) λus s1 ⟨xs,H1,I1,r,z,q⟩=>⟨by rw[<- r.length];exact z,?_⟩)
 have d:H1 s1.heap.objs.size=none:=I1.hok.fresh (A7 _);refine⟨.ref s1.heap.objs.size,Ag H1 s1.heap.objs.size (.lst xs),I1.laid (t':=s1.toks) (λb u e=>A5 _ e) (A7 _) ?_,rfl,q _ d⟩;exact⟨z,us,0,r,B5 _ rfl⟩
end
abbrev Sp:=List V->Hp->VK->XK->Prop
abbrev CXT:=List Env->Hp->Shared->XK->Value->Shared->Prop
structure Env0 (P:B66)(w:World)(K:PySem.W.Frag)(mg:Str->Option Value)(base:Heap)(A:Around)(outer:List Env)(s:Shared)(H:Hp):Prop where
 frames:A.frames=some outer
 mod:Mod K mg base
 bs:∀b o,base.get? b=some o->s.heap.get? b=some o/\H b=none
 bsz:base.objs.size<=s.heap.objs.size
 funs:s.heap.FunFrames base outer
 frf:∀b∈frs outer,H b=none
 hok:HOk P w H s.heap
 bare:AllBare s.gens
def CE (outer:List Env)(P:B66)(w:World)(H:Hp)(s:Shared)(Q:VK)(u:Value)(s':Shared):Prop:=
 ∃v H',s'.os=s.os/\AllBare s'.gens/\Un (frs outer) [] H H' s.heap s'.heap/\HOk P w H' s'.heap/\RelV v u/\Q v H'
def CR (CX:CXT)(outer:List Env)(P:B66)(w:World)(H:Hp)(s:Shared)(Q:VK)(E:XK)(r:Result)(s':Shared):Prop:=
 match r with
 |.ok (.ret u)=>CE outer P w H s Q u s'
 |.ok _=>False
 |.error e=>CX outer H s E e s'
structure FnOk (P:B66)(w:World)(K:PySem.W.Frag)(mg:Str->Option Value)(base:Heap)(CX:CXT)(k:Nat)(f:Addr)(fd:B85)(ps:List Str)(sp:Sp):Prop where
 len:∀vs H Q E,sp vs H Q E->vs.length=ps.length
 run:∀(A:Around) (outer:List Env) (s:Shared) (H:Hp) (args:Args) (us:List Value) (vs:List V) (Q:VK) (E:XK),Room k A->Env0 P w K mg base A outer s H->BindsTo s fd args (ps.zip us)->Vals vs us->sp vs H Q E->
  B97 (model P w) A (.call (.ref f) args) (CR CX outer P w H s Q E) s
section
variable{X:Cx}{Ab:List (Addr×Obj)}{σ:St}{H:Hp}{s s':Shared}
theorem Inv.env0 (I:Inv X Ab σ H s):Env0 X.prog X.w X.K X.mg X.base X.A X.stack s H:=
 ⟨I.ok.frames,I.ok.mod,I.bs,F5 I.ok.bsz I.sz,I.stack,I.stkFree,I.hok,I.bare⟩
theorem Inv.after {Q:VK}{u:Value}(I:Inv X Ab σ H s)(h:CE X.stack X.prog X.w H s Q u s'):EP X Ab σ Q u s':=by
 obtain⟨v,i,os,a,f,c,r,q⟩:=h;obtain⟨j,g,d,t,e⟩:=s';obtain rfl:e=s.os:=os;exact⟨v,i,I.call (h':=j) (g':=g) (d':=d) (t':=t) (ch:=[]) f c a (λb z=>absurd z (by simp)),r,q⟩
end
def qc1 (sp:Sp)(dvs:List V)(E:XK)(t:TA):TE:=λσ H Q=>t σ H λvs H1=>sp (vs++dvs) H1 Q E
def Binds (K:PySem.W.Frag)(fd:B85)(ps:List Str)(ds:List Value):Prop:=
 ∀(s:Shared) (us:List Value),K.In s.heap->(us++ds).length=ps.length->BindsTo s fd ⟨us,[]⟩ (ps.zip (us++ds))
theorem Binds.all {K:PySem.W.Frag}{a:B85}{ps:List Str}(h:∀us:List Value,us.length=ps.length->C20 a ⟨us,[]⟩=pure (ps.zip us)):Binds K a ps []:=λs us _ b=>by
 rw[P7] at b ⊢;exact .of_eq (h us b)
def qX3 (CX:CXT)(X:Cx)(E:XK):Prop:=∀(Ab:List (Addr×Obj)) (σ:St) (H:Hp) (s:Shared) (e:Value) (s':Shared),Inv X Ab σ H s->CX X.stack H s E e s'->X.xe e s'
section
variable{X:Cx}{CX:CXT}{k:Nat}{f C:Addr}{fd:B85}{ps:List Str}{sp:Sp}{dvs:List V}{ds:List Value}{E:XK}{x m:Str}{p pos apos:Pos}{e o:Expr}{es:List Expr}{ta:TE}{t:TA}
theorem qcB {Ab:List (Addr×Obj)}{σ:St}{H:Hp}{s:Shared}{Q:VK}{a:List Value}{vs:List V}(F:FnOk X.prog X.w X.K X.mg X.base CX k f fd ps sp)(g:Room k X.A)(m:Binds X.K fd ps ds)(d:Vals dvs ds)(i:qX3 CX X E)
  (I:Inv X Ab σ H s) (r:Vals vs a) (h:sp (vs++dvs) H Q E):wpAny (model X.prog X.w) X.A (call (.ref f) a) (EP X Ab σ Q) X.xe s:=by
 have c:Vals (vs++dvs) (a++ds):=r.append d;have j:(a++ds).length=ps.length:=by rw[<- c.length];exact F.len _ _ _ _ h
 refine wpAny_call (B94 (F.run X.A X.stack s H ⟨a,[]⟩ (a++ds) (vs++dvs) Q E g I.env0 (m s a I.kIn j) c h) λr l b=>?_);cases r with
 |error e=>exact i Ab σ H s e l I b
 |ok fl=>
  cases fl with
  |ret u=>exact I.after b
  |next=>exact W8 b
  |brk=>exact W8 b
  |cont=>exact W8 b
theorem qaG (F:FnOk X.prog X.w X.K X.mg X.base CX k f fd ps sp)(g:Room k X.A)(l:Gl X x)(i:X.mg x=some (.ref f))(m:T0 X.K (.ref f)=true)(n:Binds X.K fd ps ds)(c:Vals dvs ds)(d:qX3 CX X E)
  (u:PA X (e::es) t) (a:(x==("__debug__" : Str))=false:=by decide) (j:B69 (e::es) X.env=(false,eval e X.env)::B69 es X.env:=by rfl) (b:(backTo pos (B69 es X.env)).any (·.1)=false:=by rfl):
  PE X (.Call (.Name x p) (e::es) [] pos) (qc1 sp dvs E t):=by
 intro o s σ H Q I h;refine C21 (qaS I l i ?_ a);refine PySem.W.callWith_K (h₀:=X.base) I.ok.mod.kin m (thn (u pos o s σ H _ I h) λus s1 ⟨vs,H1,I1,r,q⟩=>⟨I1.kIn,?_⟩) j b;exact qcB F g n c d I1 r q
structure Mk (K:PySem.W.Frag)(C f:Addr):Prop where
 makes:PySem.W.makesIn K C=true
 init:Q4 K (.ref C) "__init__" = some (some (.ref f))
 fn:B54 K (.ref f)=true
 kp:T0 K (.ref C)=true
end
def PK (X:Cx)(kws:List C22)(t:TA):Prop:=
 ∀(pos:Pos) (Ab:List (Addr×Obj)) (s:Shared) (σ:St) (H:Hp) (Q:List V->Hp->Prop),Inv X Ab σ H s->t σ H Q->wpAny (model X.prog X.w) X.A (evalAll ((backToKw pos (C27 kws X.env)).map (·.2))) (AP X Ab σ Q) X.xe s
section
variable{X:Cx}{CX:CXT}{k:Nat}{f C:Addr}{fd:B85}{ps ks:List Str}{sp:Sp}{E:XK}{x m:Str}{p pos apos kpos:Pos}{e o:Expr}{es:List Expr}{kws:List C22}{te ta:TE}{t tk:TA}{nm:Option Str}
theorem qcG:PK X [] tNil:=λ_ _ _ _ H Q I h=>wpAny_evalAll_nil ⟨[],H,I,.nil,h⟩
theorem qUH (c:PE X e te)(d:PK X kws t):PK X (⟨nm,e,kpos⟩::kws) (qNN te t):=by
 intro a b s σ H Q I h;show wpAny _ _ (evalAll ((do let v <- eval e X.env;standAt a;pure v)::(backToKw a (C27 kws X.env)).map (·.2))) _ _ s
 refine wpAny_evalAll_cons (B62 (thn (c b s σ H _ I h) λu s1 ⟨x,H1,I1,r1,q1⟩=>B62 (C29 (B63 ?_))));exact thn (d a b s1 σ H1 _ I1 q1) λus s2 ⟨xs,H2,I2,r2,q2⟩=>⟨x::xs,H2,I2,.cons r1 r2,q2⟩
structure KBinds (K:PySem.W.Frag)(fd:B85)(ps ks:List Str)(g:List Value->List Value->List Value)(gV:List V->List V->List V):Prop where
 to:∀(s:Shared) (us ws:List Value),K.In s.heap->(g us ws).length=ps.length->BindsTo s fd ⟨us,ks.zip ws⟩ (ps.zip (g us ws))
 rel:∀{vs:List V} {us:List Value} {zs:List V} {ws:List Value},Vals vs us->Vals zs ws->Vals (gV vs zs) (g us ws)
variable{g:List Value->List Value->List Value}{gV:List V->List V->List V}
end
structure FnScope (N P:List Str)(sc:Scope):Prop where
 kind:sc.kind=.function
 co:sc.isCoroutine=false
 gen:sc.isGenerator=false
 nd:N.Nodup
 pre:N.take P.length=P
 par:∀x∈P,sc.names.lookup x=some .local\/sc.names.lookup x=some .cell
 nofree:∀y∈sc.names,y.2≠.free
theorem qP3 {kindOf:Str->Option C13}{x:Str}:∀{binds:List (Str×Value)} {m:Str->Option Value},(∀v,(x,v)∉binds)->bindL kindOf binds m x=m x
 |[],_,_=>rfl
 |(n,v)::r,m,h=>by
  unfold bindL;rw[qP3 λw hw=>h w (B3 _ hw)]
  split
  ·have:x≠n:=by rintro rfl;exact h v D8
   simp[this]
  ·rfl
theorem qP5 {kindOf:Str->Option C13}{x:Str}:∀{binds:List (Str×Value)} {m:Str->Option Value},(∀v,(x,v)∉binds)->bindC kindOf binds m x=m x
 |[],_,_=>rfl
 |(n,v)::r,m,h=>by
  unfold bindC;rw[qP5 λw hw=>h w (B3 _ hw)]
  split
  ·rfl
  ·have:x≠n:=by rintro rfl;exact h v D8
   simp[this]
theorem qP4 {kindOf:Str->Option C13}{x:Str}{v:Value}:∀{P:List Str} {vs:List Value} {i:Nat} {m:Str->Option Value},P.Nodup->P[i]?=some x->vs[i]?=some v->kindOf x=some .local->
  bindL kindOf (P.zip vs) m x=some v
 |[],_,_,_,_,h,_,_=>by simp at h
 |_::_,[],_,_,_,_,h,_=>by simp at h
 |p::P,w::vs,0,m,nd,h1,h2,hk=>by
  simp at h1 h2;subst h1;subst h2;show bindL kindOf ((p,w)::P.zip vs) m p=_;unfold bindL;rw[qP3 λv hv=>(L9.mp nd).1 (A36 hv).1,if_pos hk];simp
 |p::P,w::vs,i+1,m,nd,h1,h2,hk=>by
  show bindL kindOf ((p,w)::P.zip vs) m x=_;unfold bindL;exact qP4 (i:=i) (L9.mp nd).2 (by simpa using h1) (by simpa using h2) hk
theorem qP6 {kindOf:Str->Option C13}{x:Str}{v:Value}:∀{P:List Str} {vs:List Value} {i:Nat} {m:Str->Option Value},P.Nodup->P[i]?=some x->vs[i]?=some v->kindOf x≠some .local->
  bindC kindOf (P.zip vs) m x=some v
 |[],_,_,_,_,h,_,_=>by simp at h
 |_::_,[],_,_,_,_,h,_=>by simp at h
 |p::P,w::vs,0,m,nd,h1,h2,hk=>by
  simp at h1 h2;subst h1;subst h2;show bindC kindOf ((p,w)::P.zip vs) m p=_;unfold bindC;rw[qP5 λv hv=>(L9.mp nd).1 (A36 hv).1,if_neg hk];simp
 |p::P,w::vs,i+1,m,nd,h1,h2,hk=>by
  show bindC kindOf ((p,w)::P.zip vs) m x=_;unfold bindC;exact qP6 (i:=i) (L9.mp nd).2 (by simpa using h1) (by simpa using h2) hk
noncomputable def start (N:List Str)(vs:List V):St:=vs.map some++E7 (N.length-vs.length) none
noncomputable def cxOf (CX:CXT)(P:B66)(w:World)(K:PySem.W.Frag)(mg:Str->Option Value)(base:Heap)(N:List Str)(qual:Str)(scope:Scope)(f:Addr)(cd:Value)(A:Around)(outer:List Env)(s:Shared)(H:Hp)(E:XK):Cx where
 prog:=P
 w:=w
 K:=K
 mg:=mg
 base:=base
 A:=A.deeper (envOfC qual scope s.heap.objs.size f cd)
 N:=N
 s₀:=s
 H₀:=H
 env:=envOfC qual scope s.heap.objs.size f cd
 outer:=outer
 stack:=envOfC qual scope s.heap.objs.size f cd::outer
 ex:=[]
 calm:=true
 fn:=λ_=>true
 pn:=[]
 xe:=λe s'=>wpAny (model P w) (A.deeper (envOfC qual scope s.heap.objs.size f cd)) (leaving (envOfC qual scope s.heap.objs.size f cd) e) (λ_ s''=>CX outer H s E e s'') (λe' s''=>CX outer H s E e' s'') s'
theorem qS5 {a:Scope}{n:Nat}{x:Str}(h:a.names.lookup x=some .cell):∃c,(cellsFrom n a.names []).lookup x=some c:=by
 have q:=A30 a.names n [] (.inl h);exact Z4.mp q
theorem qVL {CX:CXT}{P:B66}{w:World}{K:PySem.W.Frag}{mg:Str->Option Value}{base:Heap}{N ps:List Str}{j:Str}{d:Scope}{f:Addr}{cd:Value}{A:Around}{g:List Env}{s s1:Shared}{H:Hp}{E:XK}{us:List Value}{vs:List V}
  (S:FnScope N ps d) (hd:A.handled=none) (m:Env0 P w K mg base A g s H) (hl:vs.length=ps.length) (r:Vals vs us)
  (x:InCallC s s.heap.objs.size (bindL (envOfC j d s.heap.objs.size f cd).kindOf (ps.zip us) λ_=>none) (cellsFrom (s.heap.objs.size+1) d.names []) (bindC (envOfC j d s.heap.objs.size f cd).kindOf (ps.zip us) λ_=>none) s1):
  Inv (cxOf CX P w K mg base N j d f cd A g s H E) [] (start N vs) H s1:=by
 have a0:ps.length<=N.length:=by have:=congrArg T3 S.pre;rw[C5] at this;lia
 obtain⟨h1,tk,rfl,hk⟩:=x.done;have o:∀b:Addr,b∉(cxOf CX P w K mg base N j d f cd A g s H E).ex:=λb z=>absurd (show b∈([]:List Addr) from z) (by simp)
 refine⟨⟨m.mod,S.kind,rfl,rfl,A7 _,λy z c h1 l=>?_,λy hy=>?_,λy c _ h=>?_,λ_=>hd,A50 m.frames,.inr ⟨rfl,rfl⟩,λb z=>absurd z (o b),m.bs,m.bsz,λb _ _=>o b,λb z=>absurd z (o b),m.funs,m.frf⟩,
  rfl,m.bare,Un.kept hk,⟨_,x.toInCall.ns,λi y v h1 l h3=>?_⟩,λy c h=>⟨_,x.cell y c h⟩,m.hok.fresh (A7 _),λy c h=>?_,λp hp=>absurd (show p∈([]:List (Addr×Obj)) from hp) (by simp),m.hok.kept hk,?_⟩
 ·exact name_of_addr x.apart (K9 h1) (K9 l)
 ·have hy:d.names.lookup y=some .cell\/d.names.lookup y=some .free:=hy;rcases hy with hy|hy
  ·exact qS5 hy
  ·exact absurd rfl (S.nofree _ (K9 hy))
 ·exact U5 (x.above y c (K9 h))
 ·have hi:i<vs.length:=by
   unfold start at l;by_cases hi:i<vs.length
   ·exact hi
   ·rw[G1 (by simpa using hi)] at l
    rw[List.getElem?_replicate] at l
    split at l<;>cases l
  have ha:vs[i]?=some v:=by
   unfold start at l;rw[J2 (by simpa using hi),B9] at l
   cases e:vs[i]? with
   |none=>rw[e] at l;cases l
   |some a=>rw[e] at l;cases l;rfl
  obtain⟨u,hu,rv⟩:=r.get ha;have hp:ps[i]?=some y:=by
   rw[<- S.pre,Q8 (by lia)];exact h1
  have t:ps.Nodup:=by rw[<- S.pre];exact S.nd.sublist (V4 _ _)
  refine⟨u,rv,?_⟩;rcases S.par y (A9 hp) with k|k
  ·exact .inl ⟨k,qP4 t hp hu k⟩
  ·obtain⟨c,e⟩:=qS5 (n:=s.heap.objs.size+1) k;refine .inr ⟨.inl k,c,e,?_⟩;have q:=x.cell y c e;rw[qP6 t hp hu (by show d.names.lookup y≠_;rw[k];decide)] at q
   exact q
 ·exact m.hok.fresh (U5 (x.above y c (K9 h)))
 ·unfold start;show _=N.length;rw[B0,A0,Q5]
  lia
theorem qdC {CX:CXT}{P:B66}{w:World}{K:PySem.W.Frag}{mg:Str->Option Value}{base:Heap}{k:Nat}{f:Addr}{name c:Str}{g:B95}{body:List Stmt}{a:Scope}{dV kV l pm d ct oc:Value}{an od:Option Addr}
  {a1:Array (Option Value)} {N ps:List Str} {sp:Sp} (lk:K.lookup f=some ⟨oc,od,.func (T1 name c g body a dV kV l pm an d ct),a1⟩) (hcd:k6 K d c=true) (S:FnScope N ps a)
  (m:∀vs H Q E,sp vs H Q E->vs.length=ps.length)
  (i:∀ (A:Around) (outer:List Env) (s:Shared) (H:Hp) (vs:List V) (Q:VK) (E:XK),Room k (A.deeper (envOfC c a s.heap.objs.size f d))->sp vs H Q E->
   ∃t,PSs (cxOf CX P w K mg base N c a f d A outer s H E) body t/\t {nx:=λ_ H'=>Q .non H',rt:=Q} (start N vs) H):
  FnOk P w K mg base CX (k+1) f (T1 name c g body a dV kV l pm an d ct) ps sp:=by
 refine⟨m,λA outer s H a3 us vs Q E hr z hb r a0=>?_⟩;have hl:=m _ _ _ _ a0;have KX:K.In s.heap:=z.mod.kin.keeps λb o e=>(z.bs b o e).1;have a2:s.heap.NoLimit:=z.mod.nolimit.keeps λb o e=>(z.bs b o e).1;have h:∀y∈ps.zip us,a.names.lookup y.1=some .local\/(a.names.lookup y.1=some .cell/\((cellsFrom (s.heap.objs.size+1) a.names []).lookup y.1).isSome=true):=λ⟨n,v⟩ hy=>by
  rcases S.par n (A36 hy).1 with q|q
  ·exact .inl q
  ·exact .inr ⟨q,A30 _ _ _ (.inl q)⟩
 refine codeAny_call_function hr.depth (KX _ _ lk) rfl S.co S.gen rfl (PySem.W.codeRec_of KX hcd) (hb _ _ _ _ ?_);refine wpAny_newFunctionEnv_cells S.kind h λa4 he s1 x=>?_;subst he;refine⟨a2.keeps x.toInCall.keep,codeAny_func ?_⟩;obtain⟨t,ht,hq⟩:=i A outer s H vs Q E (hr.deeper _) a0;have I:Inv (cxOf CX P w K mg base N c a f d A outer s H E) [] (start N vs) H s1:=qVL S hr.hd z hl r x;refine B76 (ht [] s1 (start N vs) H _ I hq) (λfl s' j=>?_) λe s' j=>j;have p:∀{σ':St} {H':Hp} {v:V} {u:Value},Inv (cxOf CX P w K mg base N c a f d A outer s H E) [] σ' H' s'->RelV v u->Q v H'->CE outer P w H s Q u s':=
  λ{σ' H' v u} J rv q=>⟨v,H',J.os,J.bare,J.base,J.hok,rv,q⟩
 cases fl with
 |ret u=>
  obtain⟨v,σ',H',J,rv,q⟩:=j;exact p J rv q
 |next=>
  obtain⟨σ',H',J,q⟩:=j;exact p (v:=V.non) (u:=Q0) J rfl q
 |brk=>
  obtain⟨_,_,_,q⟩:=j;exact W8 q
 |cont=>
  obtain⟨_,_,_,q⟩:=j;exact W8 q
section
variable{X:Cx}{x:Str}{p pos:Pos}{e:Expr}{es:List Expr}{t:TA}{id T:String}{r:List V->Hp->VK->Prop}
def tCB (r:List V->Hp->VK->Prop)(t:TA):TE:=λσ H Q=>t σ H λvs H1=>r vs H1 Q
theorem qA8 (i:qCG X (.builtin id) r) (j:Gl X x) (d:X.mg x=none) (g:B70 x=some (.builtin id)) (l:PA X (e::es) t) (k:x ≠ "__name__":=by decide) (a:(x==("__debug__" : Str))=false:=by decide)
  (f:B69 (e::es) X.env=(false,eval e X.env)::B69 es X.env:=by rfl) (b:(backTo pos (B69 es X.env)).any (·.1)=false:=by rfl):PE X (.Call (.Name x p) (e::es) [] pos) (tCB r t):=by
 intro c s σ H Q I h;refine C21 (qIB I j d g ?_ k a);exact PyProof.Rows.callWith_builtin1 (thn (l pos c s σ H _ I h) λus s1 ⟨vs,H1,I1,r1,q1⟩=>i c s1 σ H1 vs us Q I1 r1 q1) f b
theorem qAD (i:qCG X (.type T) r) (j:Gl X x) (d:X.mg x=none) (g:B70 x=some (.type T)) (l:PA X (e::es) t) (k:x ≠ "__name__":=by decide) (a:(x==("__debug__" : Str))=false:=by decide)
  (f:B69 (e::es) X.env=(false,eval e X.env)::B69 es X.env:=by rfl) (b:(backTo pos (B69 es X.env)).any (·.1)=false:=by rfl):PE X (.Call (.Name x p) (e::es) [] pos) (tCB r t):=by
 intro c s σ H Q I h;refine C21 (qIB I j d g ?_ k a);exact P6 (thn (l pos c s σ H _ I h) λus s1 ⟨vs,H1,I1,r1,q1⟩=>i c s1 σ H1 vs us Q I1 r1 q1) f b
end
end L2
namespace HT
open PySem PyProof.Rows
noncomputable def lexLt:List Int->List Int->Bool
 |[],[]=>false
 |[],_::_=>true
 |_::_,[]=>false
 |x::xs,y::ys=>if x=y then lexLt xs ys else decide (x<y)
theorem lexLt_cons (x y:Int)(xs a:List Int):lexLt (x::xs) (y::a)=if x=y then lexLt xs a else decide (x<y):=rfl
theorem qMR:lexLt [] []=false:=rfl
theorem qKS (y:Int)(a:List Int):lexLt [] (y::a)=true:=rfl
theorem qKT (x:Int)(xs:List Int):lexLt (x::xs) []=false:=rfl
theorem eqAt_int (A:Around)(s:Shared)(a:Int)(t:Tok)(c:Int)(u:Tok):∃e,SeqAt.EqAt A s (.int a t) (.int c u) e/\(e=true↔a=c):=
 ⟨(a==c),a8 a t c u,by simp⟩
theorem rcLt_int (A:Around)(s:Shared)(a:Int)(t:Tok)(c:Int)(u:Tok)(prog:B66)(w:World)(E:Value->Shared->Prop)(Q:Value->Shared->Prop)(h:Q (.bool (decide (a<c))) s):
  wpAny (model prog w) A (richCompare .Lt (.int a t) (.int c u)) Q E s:=
 (PyProof.Rows.lt_int h:wpAny (model prog w) A (B80 .Lt (.int a t) (.int c u)) Q E s)
section
open PySem.SeqAt
open PySem.AutoSeq1 (wpAny_loadPart')
open PySem.MeetsSeq PySem.MeetsSeq2 PySem.MeetsSeq3
theorem tuple_lt_ints (l b:Addr)(i f:Array Value)(n n2:Nat)(dd a2:Option Addr)(sl a3:Array (Option Value))(ns ms:List Int)(hi:B71 i.toList ns)(hj:B71 f.toList ms):
  Meets (Builtin.«tuple.__lt__» ⟨[.ref l,.ref b],[]⟩)
   (fun _ R s=>s.heap.get? l=some { cls:=.type "tuple",dict:=dd,data:=.seq i n,slots:=sl }/\s.heap.get? b=some { cls:=.type "tuple",dict:=a2,data:=.seq f n2,slots:=a3 }/\
    R (.ok (.ret (.bool (lexLt ns ms)))) s):=
 .of_wp λv w A R s h=>by
  obtain⟨hp,g,d,tk,os⟩:=s;obtain⟨hl,hb,h⟩:=h;have f2:=A04;have z1:i.size=ns.length:=by rw[<- hi.length];simp
  have z2:f.size=ms.length:=by rw[<- hj.length];simp
  wp_walk using C39 hl,C39 hb,wpAny_forIn_list _ (fun r b s'=>b.1=none/\s'=⟨hp,g,d,tk,os⟩/\∃ (vs ws:List Value) (ns' ms':List Int),r=vs.zip ws/\
   B71 vs ns'/\B71 ws ms'/\ns'.length+f.size=ms'.length+i.size/\R (.ok (.ret (.bool (lexLt ns' ms')))) ⟨hp,g,d,tk,os⟩) _
  case turn=>
   rintro⟨y,x⟩ r b s' ⟨a0,rfl,vs,ws,ns',ms',k,z,m,j,p⟩;cases z with
   |nil=>rw[List.zip_nil_left] at k;cases k
   |cons a t hvi'=>
    cases m with
    |nil=>rw[List.zip_nil_right] at k;cases k
    |cons c u hwi'=>
     rw[t8] at k
     injection k with hyx hrest
     injection hyx with hy hx
     subst hy hx;rw[lexLt_cons] at p;simp only[D3] at j;obtain⟨e,he,o⟩:=eqAt_int A.in1 ⟨hp,g,d,tk,os⟩ a t c u;refine B62 (he v w _ _ ?_);cases e with
     |true=>
      rw[if_pos (o.mp rfl)] at p
      wp_walk
      exact⟨rfl,rfl,_,_,_,_,hrest,hvi',hwi',by lia,p⟩
     |false=>
      rw[if_neg (λq=>absurd (o.mpr q) B4)] at p;have a1:=rcLt_int A.in1 ⟨hp,g,d,tk,os⟩ a t c u v w
      wp_walk using a1
      exact⟨_,rfl,by simpa using p⟩
  case fin=>
   rintro⟨b1,b2⟩ s' ⟨a0,rfl,vs,ws,ns',ms',k,z,m,j,p⟩;simp only at a0;subst a0;have hv:lexLt ns' ms'=decide (i.size<f.size):=by
    cases z with
    |nil=>
     cases m with
     |nil=>
      simp only[O9] at j;rw[qMR];exact(decide_eq_false (by lia)).symm
     |cons c u hw=>
      simp only[O9,D3] at j;rw[qKS];exact(decide_eq_true (by lia)).symm
    |cons a t hv=>
     cases m with
     |nil=>
      simp only[O9,D3] at j;rw[qKT];exact(decide_eq_false (by lia)).symm
     |cons c u hw=>
      rw[t8] at k;cases k
   rw[hv] at p
   wp_walk
   exact⟨_,rfl,by simpa[i0] using p⟩
  case h=>
   exact⟨rfl,rfl,i.toList,f.toList,ns,ms,rfl,hi,hj,by lia,h⟩
end
section
variable{prog:B66}{w:World}{A:Around}{E:Value->Shared->Prop}{s:Shared}
theorem lt_tupInts {l b:Addr}{c a:Array Value}{ns d:List Int}{Q:Value->Shared->Prop}(u:IsTup s.heap l c)(v:IsTup s.heap b a)(hi:B71 c.toList ns)(t:B71 a.toList d)
  (hu:A.units<cLine) (h:Q (.bool (lexLt ns d)) s):wpAny (model prog w) A (B80 .Lt (.ref l) (.ref b)) Q E s:=by
 obtain⟨⟨a0,dd,o,y⟩,q,r,n,m⟩:=id u;obtain⟨⟨p,j,i,k⟩,f,e,z,g⟩:=id v;simp only at r m e g;subst r m e g;exact richCompare_meets_room (op:=.Lt) ⟨_,q,rfl⟩ ⟨_,f,rfl⟩ X2 d0 (a9 _ _) (tuple_lt_ints l b c a n z dd j y k ns d hi t)
  ⟨q,f,show p7 (lexLt ns d)≠A51/\Q (.bool (lexLt ns d)) s from⟨(λx=>nomatch x),h⟩⟩ hu
theorem cat_tup {t b:Addr}{vs a:List Value}{Q:Value->Shared->Prop}(ht:IsTup s.heap t vs.toArray)(hb:IsTup s.heap b a.toArray)(p:vs≠[])
  (y:a=[]->Q (.ref t) s) (z:a≠[]->Q (.ref s.heap.objs.size) {s with heap:=s.heap.push {cls:=.type "tuple",data:=.seq (vs++a).toArray}})
  (hsz:vs.length+a.length<=B64):wpAny (model prog w) A (B90 .Add (.ref t) (.ref b)) Q E s:=by
 obtain⟨⟨cls,x,data,r⟩,j,q,n,m⟩:=id ht;obtain⟨⟨o,g,l,h⟩,c,f,u,i⟩:=id hb;simp only at q m f i;subst q m f i;have e:vs.toArray++a.toArray=(vs++a).toArray:=by simp
 by_cases k:a=[]
 ·exact concat_meets ⟨_,j,rfl⟩ ⟨_,c,rfl⟩ noFill_tuple_add seq_tuple_add d6 b7 (Z5 _ _)
   (tuple_addW1 t b vs.toArray a.toArray n u x g r h (by simpa using p) (by simp[k])) ⟨j,c,y k⟩
 ·refine concat_meets ⟨_,j,rfl⟩ ⟨_,c,rfl⟩ noFill_tuple_add seq_tuple_add d6 b7 (Z5 _ _)
   (tuple_addW2 t b vs.toArray a.toArray n u x g r h (by simpa using p) (by simpa using k) (by rw[C0,C0];exact hsz)) ⟨j,c,?_⟩
  rw[e];exact z k
noncomputable def sIx (n d:Nat):Option Int->Nat
 |none=>d
 |some v=>if v<0 then(v+(n:Int)).toNat else min v.toNat n
theorem sIx_none (n d:Nat):sIx n d none=d:=rfl
theorem sIx_nat (n d k:Nat):sIx n d (some (k:Int))=min k n:=by
 show(if(k:Int)<0 then((k:Int)+(n:Int)).toNat else min (k:Int).toNat n)=min k n
 rw[if_neg (by lia),E4]
end
end HT
namespace L2
open PySem PySem.Spec PyProof.Rows
abbrev TO:=St->Hp->(Option Int->Hp->Prop)->Prop
def PO (X:Cx)(e:Option Expr)(t:TO):Prop:=
 ∀(Ab:List (Addr×Obj)) (s:Shared) (σ:St) (H:Hp) (Q:Option Int->Hp->Prop),Inv X Ab σ H s->t σ H Q->
  wpAny (model X.prog X.w) X.A (evalPart e X.env) (λu s'=>∃o H',Inv X Ab σ H' s'/\IsPart u o/\Q o H') X.xe s
def qZY:TO:=λ_ H Q=>Q none H
def qdU (t:TE):TO:=λσ H Q=>t σ H λx H1=>∃i,x=.int i/\Q (some i) H1
theorem qFZ {ns:List Int}:∀{us:List Value},Vals (ns.map V.int) us->B71 us ns:=by
 induction ns with
 |nil=>intro us r;rw[t9] at r;cases r;exact .nil
 |cons n ns ih=>
  intro us r;rw[C7] at r;cases r with
  |cons r1 r2=>
   obtain⟨t,e⟩:=r1;subst e;exact .cons n t (ih r2)
section
variable{X:Cx}{e:Expr}{te:TE}{lo hi:Option Expr}{tl th:TO}{pos p2:Pos}
theorem qHN:PO X none qZY:=by
 intro a s σ H Q I h;rw[evalPart_none];exact B63 ⟨none,H,I,.none,h⟩
theorem qHM (h:PE X e te):PO X (some e) (qdU te):=by
 intro b s σ H Q I a;rw[evalPart_some];refine thn (h b s σ H _ I a) λu s1 ⟨x,H1,I1,r1,q1⟩=>?_;obtain⟨i,rfl,q⟩:=q1;obtain⟨t,rfl⟩:=r1;exact⟨some i,H1,I1,.int i t,q⟩
def SlR (X:Cx)(r:V->Option Int->Option Int->Hp->VK->Prop):Prop:=
 ∀(Ab:List (Addr×Obj)) (s:Shared) (σ:St) (H:Hp) (x:V) (v vl vu:Value) (lo hi:Option Int) (sl:Addr) (Q:VK),Inv X Ab σ H s->RelV x v->s.heap.IsSliceOf sl vl vu .none->IsPart vl lo->IsPart vu hi->r x lo hi H Q->
  ∃T id,typeLookup (.type T) "__getitem__" = pure (some (.builtin id))/\s.TypeIs v T/\wpAny (model X.prog X.w) X.A (getItem v (.ref sl)) (EP X Ab σ Q) X.xe s
def tSl (r:V->Option Int->Option Int->Hp->VK->Prop)(te:TE)(tl th:TO):TE:=λσ H Q=>te σ H λx H1=>tl σ H1 λl H2=>th σ H2 λu H3=>r x l u H3 Q
theorem qFW {r:V->Option Int->Option Int->Hp->VK->Prop}(c:SlR X r)(j:PE X e te)(d:PO X lo tl)(m:PO X hi th):PE X (.Subscript e (.Slice lo hi none p2) pos) (tSl r te tl th):=by
 intro a s σ H Q I h;refine Subscript_ (thn (j a s σ H _ I h) λv s1 ⟨x,H1,I1,r1,q1⟩=>?_);refine wpAny_Slice (thn (d a s1 σ H1 _ I1 q1) λvl s2 ⟨l,H2,I2,pl,q2⟩=>thn (m a s2 σ H2 _ I2 q2) λvu s3 ⟨u,H3,I3,pu,q3⟩=>?_);rw[evalPart_none];refine B63 ?_;have f:Inv X a σ H3 {s3 with heap:=s3.heap.push {cls:=.type "slice",data:=.fields #[vl,vu,.none]}}:=I3.kept (t':=s3.toks) λb n q=>A5 _ q;obtain⟨T,o,g,i,k⟩:=c a {s3 with heap:=s3.heap.push {cls:=.type "slice",data:=.fields #[vl,vu,.none]}} σ H3 x v vl vu l u s3.heap.objs.size Q f r1 (B61 ..) pl pu q3;show wpAny (model X.prog X.w) X.A (subscriptTail e (.Slice lo hi none p2) v (.ref s3.heap.objs.size)) (EP X a σ Q) X.xe {s3 with heap:=s3.heap.push {cls:=.type "slice",data:=.fields #[vl,vu,.none]}};exact tail_any (ops:=[.ref s3.heap.objs.size,v]) i g k (by with_unfolding_all rfl)
noncomputable def cutV (xs:List V)(lo hi:Option Int):List V:=(xs.drop (HT.sIx xs.length 0 lo)).take (HT.sIx xs.length xs.length hi-HT.sIx xs.length 0 lo)
theorem qQM (xs:List V)(lo hi:Option Int):(cutV xs lo hi).length<=xs.length:=by
 unfold cutV;rw[C5,M9]
 lia
def qe7 (K:PySem.W.Frag):R2:=λx y H Q=>∃a b xs ys,x=.ref a/\y=.ref b/\SqT K H a xs/\SqT K H b ys/\xs≠[]/\xs.length+ys.length<=B64/\
 (ys=[]->Q (.ref a) H)/\(ys≠[]->∀p,H p=none->Q (.ref p) (Ag H p (.tup (xs++ys))))
theorem Vals.nil_iff {xs:List V}{a:List Value}(r:Vals xs a):a=[]↔xs=[]:=by
 cases r with
 |nil=>simp
 |cons _ _=>simp
theorem qaJ:OpR X (B90 .Add) (qe7 X.K):=by
 intro Ab s σ H x y v u Q I t l h;obtain⟨a,b,n,i,rfl,rfl,ha,r,j,e,g,q2⟩:=h;cases t;cases l;obtain⟨k,d,p,_⟩:=I.tuple ha;obtain⟨f,c,m,_⟩:=I.tuple r;refine HT.cat_tup p m (λz=>j (d.nil_iff.mp z)) (λz=>⟨.ref a,H,I,rfl,g (c.nil_iff.mp z)⟩) (λz=>?_) (by rw[<- d.length,<- c.length];exact e)
 refine⟨.ref s.heap.objs.size,_,I.laid (t':=s.toks) (o:=.tup (n++i)) (λb ob q=>A5 _ q) (A7 _) ?_,rfl,q2 (λw=>z (c.nil_iff.mpr w)) _ (I.hok.fresh (A7 _))⟩;exact⟨by rw[B0];exact e,_,d.append c,IsTup.new _ _⟩
end
noncomputable def ixN (n:Nat)(i:Int):Option Nat:=if 0<=i then(if i<n then some i.toNat else none) else if -(n:Int)<=i then some (i+n).toNat else none
noncomputable def atI {α:Type}(xs:List α)(i:Int):Option α:=(ixN xs.length i).bind λj=>xs[j]?
theorem qVI {n:Nat}{i:Int}{j:Nat}(h:ixN n i=some j):seqIndex? i n=some j/\j<n/\-(n:Int)<=i/\i<n:=by
 unfold ixN at h;by_cases b:0<=i
 ·rw[if_pos b] at h;by_cases a:i<n
  ·rw[if_pos a] at h;have e:i.toNat=j:=D5 h;exact⟨by rw[seqIndex_of b a,e],by lia,by lia,a⟩
  ·rw[if_neg a] at h;cases h
 ·rw[if_neg b] at h;by_cases a : -(n:Int)<=i
  ·rw[if_pos a] at h;have e:(i+n).toNat=j:=D5 h;exact⟨by rw[seqIndex_neg (by lia) a,e],by lia,a,by lia⟩
  ·rw[if_neg a] at h;cases h
theorem qX0 {α:Type}{xs:List α}{i:Int}{v:α}(h:atI xs i=some v):∃j,seqIndex? i xs.length=some j/\xs[j]?=some v/\j<xs.length/\-(xs.length:Int)<=i/\i<xs.length:=by
 unfold atI at h;cases e:ixN xs.length i with
 |none=>rw[e] at h;cases h
 |some j=>
  rw[e] at h;obtain⟨c,b,a,d⟩:=qVI e;exact⟨j,c,h,b,a,d⟩
theorem qWZ {α:Type}{xs:List α}{j:Nat}{v:α}(h:xs[j]?=some v):atI xs (j:Int)=some v:=by
 have a:j<xs.length:=(A3.mp h).1;have e:ixN xs.length (j:Int)=some j:=by
  unfold ixN;rw[if_pos (by lia),if_pos (by lia)];simp
 unfold atI;rw[e];exact h
theorem qSB {α:Type}(xs:List α)(v:α):atI (xs++[v]) (-1)=some v:=by
 have a:(xs++[v]).length=xs.length+1:=by simp
 have e:ixN (xs++[v]).length (-1)=some xs.length:=by
  unfold ixN;rw[a,if_neg (by decide),if_pos (by lia)]
  congr 1
  lia
 unfold atI;rw[e];show(xs++[v])[xs.length]?=some v;simp
def qbN (b:Expr):Prop:=∀o i,subscripted b false o i=operate [o,i] (getItem o i)
def IxR (X:Cx)(r:R2):Prop:=
 ∀(value slice:Expr) (Ab:List (Addr×Obj)) (s:Shared) (σ:St) (H:Hp) (x y:V) (v u:Value) (Q:VK),Inv X Ab σ H s->RelV x v->RelV y u->r x y H Q->
  subscripted slice false v u=operate [v,u] (getItem v u)->wpAny (model X.prog X.w) X.A (subscriptTail value slice v u) (EP X Ab σ Q) X.xe s
def MtR (X:Cx)(id:String)(r:V->List V->Hp->VK->Prop):Prop:=
 ∀(Ab:List (Addr×Obj)) (s:Shared) (σ:St) (H:Hp) (x:V) (xs:List V) (v:Value) (us:List Value) (Q:VK),Inv X Ab σ H s->RelV x v->Vals xs us->r x xs H Q->
  wpAny (model X.prog X.w) X.A (call (.builtin id) (v::us)) (EP X Ab σ Q) X.xe s
section
variable{X:Cx}{a b:Expr}{ta tb:TE}{pos:Pos}
theorem qB9 {r:R2}(c:IxR X r)(k:PE X a ta)(g:PE X b tb)(hs:qbN b):PE X (.Subscript a b pos) (tOp r ta tb):=by
 intro j s σ H Q I h;exact Subscript_ (binT k g I h λv u e x y f l i d q=>c a b j e σ f x y v u Q l i d q (hs _ _))
def rIxL (K:PySem.W.Frag):R2:=λx y H Q=>∃p xs i v,x=.ref p/\y=.int i/\SqL K H p xs/\atI xs i=some v/\Q v H
def rIxT (K:PySem.W.Frag):R2:=λx y H Q=>∃p xs i v,x=.ref p/\y=.int i/\SqT K H p xs/\atI xs i=some v/\Q v H
theorem qCS:IxR X (rIxL X.K):=by
 intro k f o s σ H x y v u Q I rx ry h n;obtain⟨p,xs,i,z,rfl,rfl,hq,he,q⟩:=h;cases rx;obtain⟨t,rfl⟩:=ry;obtain⟨c,r,e,hz⟩:=I.list hq;obtain⟨j,b,h2,h3,h4,h5⟩:=qX0 he;obtain⟨w,l,g⟩:=r.get h2;have hl:=r.length;have hn:=qOG;have a:EP X o σ Q w s:=⟨z,H,I,g,q⟩;by_cases m:0<=i
 ·have d:i.toNat=j:=by
   rw[seqIndex_of m h5] at b;exact D5 b
  exact item_listR e.isList m (by lia) (by rw[d];simpa using l) a n
 ·have d:(i+(c.toArray.size:Int)).toNat=j:=by
   rw[seqIndex_neg (by lia) h4] at b
   rw[C0,<- hl];exact D5 b
  exact subscriptTail_builtinR (x:=w) e.isList.typeIs slot_list_getitem.lookup
   (wpAny_getItem_list_neg (Q:=λr s'=>r=w/\EP X o σ Q r s') e.isList (by lia) (by rw[C0]<;>lia) (by lia) (by rw[d];simpa using l) ⟨rfl,a⟩) n
theorem qBI:IxR X (rIxT X.K):=by
 intro d b f s σ H x y v u Q I rx ry h hs;obtain⟨p,xs,i,z,rfl,rfl,hq,he,q⟩:=h;cases rx;obtain⟨t,rfl⟩:=ry;obtain⟨g,r,e,hz⟩:=I.tuple hq;obtain⟨j,k,n,h3,h4,h5⟩:=qX0 he;obtain⟨w,l,c⟩:=r.get n;have o:=r.length;have hn:=qOG;have a:EP X f σ Q w s:=⟨z,H,I,c,q⟩;exact subscriptTail_builtinR (x:=w) e.typeIs slot_tuple_getitem.lookup
  (getItem_tuple (j:=j) (Q:=λr m=>r=w/\EP X f σ Q r m) e (by lia) (by lia) (by rw[C0,<- o];exact k) (by simpa using l) ⟨rfl,a⟩) hs
theorem qT1 (a:List Value) (n j:Nat) (u:Value):Q1 (·.setIfInBounds j u) {cls:=.type "list",data:=.seq a.toArray n}={cls:=.type "list",data:=.seq (a.set j u).toArray n}:=by
 simp[Q1]
theorem Inv.lst {Ab:List (Addr×Obj)}{σ:St}{H:Hp}{s:Shared}{p:Addr}{xs:List V}(I:Inv X Ab σ H s)(h:H p=some (.lst xs)):
  ∃(its:List Value) (n:Nat),Vals xs its/\s.heap.get? p=some {cls:=.type "list",data:=.seq its.toArray n}/\xs.length<=B64:=by
 obtain⟨z,its,n,r,e⟩:=I.hok p _ h;exact⟨its,n,r,e,z⟩
theorem Inv.lstUpd {Ab:List (Addr×Obj)}{σ:St}{H:Hp}{s:Shared}{p:Addr}{xs c:List V}{a its':List Value}{n d:Nat}{f:Obj->Obj}(I:Inv X Ab σ H s)(h:H p=some (.lst xs))
  (i:s.heap.get? p=some {cls:=.type "list",data:=.seq a.toArray n}) (g:f {cls:=.type "list",data:=.seq a.toArray n}={cls:=.type "list",data:=.seq its'.toArray d}) (r:Vals c its') (j:c.length<=B64) (t:Nat):
  Inv X Ab σ (Ag H p (.lst c)) {s with heap:=s.heap.update p f,toks:=t}:=by
 have e:(s.heap.update p f).get? p=some {cls:=.type "list",data:=.seq its'.toArray d}:=by
  rw[G8 f i (by rw[g]<;>rfl),g]
 refine I.write (x:=p) (e:=p) (by rw[h];trivial) (.inl rfl) (λb u k q=>(E2 _ _ (J8 k)).trans q) ⟨_,e⟩ ?_
 exact⟨j,its',d,r,e⟩
def qe6:V->V->V->Hp->(Hp->Prop)->Prop:=λo i v H Q=>∃p xs k j,o=.ref p/\i=.int k/\H p=some (.lst xs)/\ixN xs.length k=some j/\Q (Ag H p (.lst (xs.set j v)))
theorem qXE:PSet X qe6:=by
 intro Ab s σ H o i v ov iv u Q I z y rv h;obtain⟨p,xs,k,j,rfl,rfl,l,x,q⟩:=h;cases z;obtain⟨t,rfl⟩:=y;obtain⟨a,n,r,d,hz⟩:=I.lst l;obtain⟨b,h2,w,m⟩:=qVI x;have c:=r.length;have hn:=qOG;have g:Inv X Ab σ (Ag H p (.lst (xs.set j v))) {s with heap:=s.heap.update p (Q1 (·.setIfInBounds j u))}:=
  I.lstUpd l d (qT1 a n j u) (r.set rv j) (by rw[B17];exact hz) s.toks
 by_cases f:0<=k
 ·have e:k.toNat=j:=by
   rw[seqIndex_of f m] at b;exact D5 b
  exact PySem.W.ki_setAt d f (by lia) (by rw[C0,<- c];exact m) (by rw[e];exact⟨_,g,q⟩)
 ·have e:(k+(a.toArray.size:Int)).toNat=j:=by
   rw[seqIndex_neg (by lia) w] at b
   rw[C0,<- c];exact D5 b
  exact PySem.W.ki_setBack d (by lia) (by rw[C0,<- c];exact w) (by lia) (by rw[e];exact⟨_,g,q⟩)
theorem qNW (lo hi:Option Int)(n:Nat):(C16 lo hi none n).1=((HT.sIx n 0 lo:Nat):Int)/\(C16 lo hi none n).2.1=((HT.sIx n n hi:Nat):Int)/\(C16 lo hi none n).2.2=1:=by
 refine⟨?_,?_,rfl⟩
 ·cases lo with
  |none=>simp[C16,HT.sIx]
  |some i=>
   simp only[C16,HT.sIx,B04,show(1:Int)>0 by decide,if_true]
   by_cases h:i<0
   ·simp only[h,if_true]<;>lia
   ·simp only[h,if_false]<;>lia
 ·cases hi with
  |none=>simp[C16,HT.sIx]
  |some i=>
   simp only[C16,HT.sIx,B04,show(1:Int)>0 by decide,if_true]
   by_cases h:i<0
   ·simp only[h,if_true]<;>lia
   ·simp only[h,if_false]<;>lia
theorem qM8 (a:List Value)(lo hi:Option Int):slicePick a.toArray lo hi none=((a.drop (HT.sIx a.length 0 lo)).take (HT.sIx a.length a.length hi-HT.sIx a.length 0 lo)).toArray:=by
 obtain⟨d,c,b⟩:=qNW lo hi a.toArray.size;unfold slicePick;rw[d,c,b];simp only[sliceRange_one,pick_run,C0]<;>rfl
def rSlL (K:PySem.W.Frag):V->Option Int->Option Int->Hp->VK->Prop:=λx lo hi H Q=>∃a xs,x=.ref a/\SqL K H a xs/\∀p,H p=none->Q (.ref p) (Ag H p (.lst (cutV xs lo hi)))
theorem qHL:SlR X (rSlL X.K):=by
 intro z s σ H x v u w e f t Q I p l n m h;obtain⟨a,c,rfl,i,q⟩:=h;cases p;obtain⟨j,r,g,k⟩:=I.list i;have d:=r.length;refine⟨"list",_,slot_list_getitem.lookup,g.isList.typeIs,?_⟩;refine wpAny_getItem_list_slice g.isList l n m .none (by simp) ?_ (by rw[C0]<;>lia)
 rw[qM8,<- d];refine⟨.ref s.heap.objs.size,_,I.laid (t':=s.toks) (o:=.lst (cutV c e f)) (λb y q=>A5 _ q) (A7 _) ?_,rfl,q _ (I.hok.fresh (A7 _))⟩;exact⟨F5 (qQM c e f) k,_,0,(r.drop (HT.sIx c.length 0 e)).take (HT.sIx c.length c.length f-HT.sIx c.length 0 e),B5 _ rfl⟩
noncomputable def qMT:V->Bool
 |.non=>true
 |.bl _=>true
 |.int _=>true
 |.str _=>true
 |_=>false
noncomputable def eqV:V->V->Bool
 |.non,.non=>true
 |.bl a,.bl b=>a==b
 |.bl a,.int b=>(if a then 1 else 0)==b
 |.int a,.bl b=>a==(if b then 1 else 0)
 |.int a,.int b=>a==b
 |.str a,.str b=>a==b
 |_,_=>false
theorem qdE {A:Around}{s:Shared}{y x:V}{u v:Value}(e:RelV y u)(c:RelV x v)(g:qMT y=true)(f:qMT x=true):SeqAt.EqAt A s u v (eqV y x):=by
 cases y with
 |non=>
  cases e;cases x with
  |non=>cases c;exact B18 _
  |bl b=>cases c;exact SeqAt.EqAt.none_bool b
  |int b=>obtain⟨t,rfl⟩:=c;exact SeqAt.EqAt.none_int b t
  |str b=>obtain⟨t,rfl⟩:=c;exact SeqAt.EqAt.none_str b t
  |_=>exact absurd (show false=true from f) B4
 |bl a=>
  cases e;cases x with
  |non=>cases c;exact SeqAt.EqAt.bool_none a
  |bl b=>cases c;exact SeqAt.EqAt.bool_bool a b
  |int b=>obtain⟨t,rfl⟩:=c;exact SeqAt.EqAt.bool_int a b t
  |str b=>obtain⟨t,rfl⟩:=c;exact SeqAt.EqAt.bool_str a b t
  |_=>exact absurd (show false=true from f) B4
 |int a=>
  obtain⟨d,rfl⟩:=e;cases x with
  |non=>cases c;exact SeqAt.EqAt.int_none a d
  |bl b=>cases c;exact SeqAt.EqAt.int_bool a d b
  |int b=>obtain⟨t,rfl⟩:=c;exact a8 a d b t
  |str b=>obtain⟨t,rfl⟩:=c;exact A71 a d b t
  |_=>exact absurd (show false=true from f) B4
 |str a=>
  obtain⟨d,rfl⟩:=e;cases x with
  |non=>cases c;exact SeqAt.EqAt.str_none a d
  |bl b=>cases c;exact SeqAt.EqAt.str_bool a d b
  |int b=>obtain⟨t,rfl⟩:=c;exact A72 a d b t
  |str b=>obtain⟨t,rfl⟩:=c;exact SeqAt.EqAt.str_str a d b t
  |_=>exact absurd (show false=true from f) B4
 |_=>exact absurd (show false=true from g) B4
noncomputable def eqU (x:V)(u:Value):Bool:=match u with
 |.none=>eqV .non x
 |.bool b=>eqV (.bl b) x
 |.int i _=>eqV (.int i) x
 |.str z _=>eqV (.str z) x
 |_=>false
theorem qZL {x y:V}{u:Value}(r:RelV y u)(f:qMT y=true):eqU x u=eqV y x:=by
 cases y with
 |non=>cases r;rfl
 |bl b=>cases r;rfl
 |int i=>obtain⟨t,rfl⟩:=r;rfl
 |str z=>obtain⟨t,rfl⟩:=r;rfl
 |_=>exact absurd (show false=true from f) B4
theorem qKO {x:V}:∀{xs:List V} {us:List Value},Vals xs us->xs.all qMT=true->us.any (eqU x)=xs.any λy=>eqV y x
 |_,_,.nil,_=>rfl
 |y::xs,u::us,.cons r t,f=>by
  rw[B41,P2] at f;rw[W3,W3,qZL r f.1,qKO t f.2]
theorem qH1 {A:Around}{s:Shared}{x:V}{v:Value}(rx:RelV x v)(fx:qMT x=true):∀{xs:List V} {us:List Value},Vals xs us->xs.all qMT=true->∀u∈us,SeqAt.EqAt A s u v (eqU x u)
 |_,_,.nil,_=>λu hu=>by cases hu
 |y::xs,u::us,.cons r t,f=>λu' hu=>by
  rw[B41,P2] at f;rcases B6.mp hu with rfl|hu
  ·rw[qZL r f.1];exact qdE r rx f.1 fx
  ·exact qH1 rx fx t f.2 u' hu
noncomputable def inV (x:V)(xs:List V):Bool:=xs.any λy=>eqV y x
def rIn (K:PySem.W.Frag)(neg:Bool):R2:=λx y H Q=>∃p xs,y=.ref p/\(SqL K H p xs\/SqT K H p xs)/\qMT x=true/\xs.all qMT=true/\Q (.bl (if neg then !inV x xs else inV x xs)) H
theorem qGY:OpR X (B80 .In) (rIn X.K false):=by
 intro k s σ H x y v u Q I f g h;obtain⟨p,j,rfl,hq,e,b,q⟩:=h;cases g;rcases hq with hq|hq
 ·obtain⟨a,r,d,i⟩:=I.list hq;refine SeqAt.in_listAt (eqU x) d.isList (λw c=>qH1 f e r b w (by simpa using c)) ⟨.bl _,H,I,rfl,?_⟩
  rw[show a.toArray.any (eqU x)=a.any (eqU x) by simp,qKO r b]
  exact q
 ·obtain⟨a,r,d,i⟩:=I.tuple hq;refine SeqAt.in_tupleAt (eqU x) d (λw c=>qH1 f e r b w (by simpa using c)) ⟨.bl _,H,I,rfl,?_⟩
  rw[show a.toArray.any (eqU x)=a.any (eqU x) by simp,qKO r b]
  exact q
theorem qOA:OpR X (B80 .NotIn) (rIn X.K true):=by
 intro k s σ H x y v u Q I f g h;obtain⟨p,j,rfl,hq,e,b,q⟩:=h;cases g;rcases hq with hq|hq
 ·obtain⟨a,r,d,i⟩:=I.list hq;refine A76 (eqU x) d.isList (λw c=>qH1 f e r b w (by simpa using c)) ⟨.bl _,H,I,rfl,?_⟩
  rw[show a.toArray.any (eqU x)=a.any (eqU x) by simp,qKO r b]
  exact q
 ·obtain⟨a,r,d,i⟩:=I.tuple hq;refine SeqAt.notIn_tupleAt (eqU x) d (λw c=>qH1 f e r b w (by simpa using c)) ⟨.bl _,H,I,rfl,?_⟩
  rw[show a.toArray.any (eqU x)=a.any (eqU x) by simp,qKO r b]
  exact q
theorem qAC:qCG X (.builtin "len") (λxs H Q=>∃p ys,xs=[.ref p]/\(SqL X.K H p ys\/SqT X.K H p ys)/\Q (.int ys.length) H):=by
 intro j s σ H xs g Q I r h;obtain⟨p,ys,rfl,hq,q⟩:=h;obtain⟨u,rfl,f⟩:=qE1 r;cases f;have i:=qOG;rcases hq with hq|hq
 ·obtain⟨b,c,d,e⟩:=I.list hq;have a:=c.length;exact Calls.call_len_list d.isList (by simp only[C0]<;>lia) ⟨.int ys.length,H,I.tok _,⟨s.toks+1,by rw[C0,a]⟩,q⟩
 ·obtain⟨b,c,d,e⟩:=I.tuple hq;have a:=c.length;exact len_tuple d (by simp only[C0]<;>lia) ⟨.int ys.length,H,I.tok _,⟨s.toks+1,by rw[C0,a]⟩,q⟩
theorem qDY:qCG X (.type "list") (λxs H Q=>∃p ys,xs=[.ref p]/\(SqL X.K H p ys\/SqT X.K H p ys)/\∀l,H l=none->Q (.ref l) (Ag H l (.lst ys))):=by
 intro v s σ H xs x Q I r h;obtain⟨p,ys,rfl,hq,q⟩:=h;obtain⟨u,rfl,t⟩:=qE1 r;cases t;have c:∀(its:List Value),Vals ys its->ys.length<=B64->∀(h':Heap) (c':Nat),(∀b o',s.heap.get? b=some o'->h'.get? b=some o')->
   h'.get? s.heap.objs.size=some {cls:=.type "list",dict:=none,data:=.seq its.toArray c',slots:=#[]}->EP X v σ Q (.ref s.heap.objs.size) {s with heap:=h'}:=λits a f h' c' g e=>
  ⟨.ref s.heap.objs.size,_,I.laid (t':=s.toks) g (A7 _) (show ObjOk X.prog X.w _ h' _ (.lst ys) from⟨f,its,c',a,e⟩),rfl,q _ (I.hok.fresh (A7 _))⟩
 rcases hq with hq|hq
 ·obtain⟨its,a,m,f⟩:=I.list hq;have d:=a.length;obtain⟨o,j,k,n,i⟩:=m.isList;exact call_list_seq p (.inl rfl) j k i (λh' c' g e=>c its a f h' c' g e) (by simp only[C0]<;>lia)
 ·obtain⟨its,a,m,f⟩:=I.tuple hq;have d:=a.length;obtain⟨o,j,k,n,i⟩:=m;exact call_list_seq p (.inr rfl) j k i (λh' c' g e=>c its a f h' c' g e) (by simp only[C0]<;>lia)
theorem qAH:qCG X (.type "tuple") (λxs H Q=>∃p ys,xs=[.ref p]/\((SqL X.K H p ys/\∀l,H l=none->Q (.ref l) (Ag H l (.tup ys)))\/(SqT X.K H p ys/\Q (.ref p) H))):=by
 intro m s σ H xs x Q I r h;obtain⟨p,ys,rfl,h⟩:=h;obtain⟨u,rfl,t⟩:=qE1 r;cases t;rcases h with⟨g,q⟩|⟨g,q⟩
 ·obtain⟨a,d,f,j⟩:=I.list g;have i:=d.length;refine call_tuple_list f.isList (λc n=>?_) (by simp only[C0]<;>lia)
  have k:Inv X m σ H {s with heap:=c}:=I.kept (t':=s.toks) n;have v:Inv X m σ (Ag H c.objs.size (.tup ys)) {s with heap:=c.push {cls:=.type "tuple",data:=.seq a.toArray}}:=
   k.laid (t':=s.toks) (λb o e=>A5 _ e) (A7 _) (show ObjOk X.prog X.w _ _ _ (.tup ys) from⟨j,a,d,IsTup.new _ _⟩)
  exact⟨.ref c.objs.size,_,v,rfl,q _ (k.hok.fresh (A7 _))⟩
 ·obtain⟨a,d,f,j⟩:=I.tuple g;exact call_tuple_same f ⟨.ref p,H,I,rfl,q⟩
def tyV (K:PySem.W.Frag)(T:String)(x:V)(H:Hp):Prop:=match x with
 |.str _=>T = "str"
 |.int _=>T = "int"
 |.ref p=>(T = "list"/\∃xs,SqL K H p xs)\/(T = "tuple"/\∃o,K.lookup p=some o/\o.cls=.type "tuple"/\o.dict=none)\/
   (T = "dict"/\((∃Af,H p=some (.dK Af))\/∃Af,H p=some (.dT Af)))\/(T = "set"/\∃S n,H p=some (.set S n))
 |_=>False
theorem qZ3 {Ab:List (Addr×Obj)}{σ:St}{H:Hp}{s:Shared}{T:String}{x:V}{v:Value}(I:Inv X Ab σ H s)(r:RelV x v)(f:tyV X.K T x H):
  s.TypeIs v T/\∀a,v=.ref a->∃ob,s.heap.get? a=some ob/\ob.dict=none:=by
 cases x with
 |str z=>
  obtain⟨t,rfl⟩:=r;cases(show T = "str" from f);exact⟨typeIs_str s z t,λ_ e=>nomatch e⟩
 |int i=>
  obtain⟨t,rfl⟩:=r;cases(show T = "int" from f);exact⟨typeIs_int s i t,λ_ e=>nomatch e⟩
 |ref p=>
  cases r;rcases f with⟨rfl,u,q⟩|⟨rfl,o,b,l,g⟩|⟨rfl,b⟩|⟨rfl,S,n,b⟩
  ·obtain⟨k,_,j,_⟩:=I.list q;refine⟨j.isList.typeIs,λa e=>?_⟩;cases e;obtain⟨o,n,e,c,g,_⟩:=j;exact⟨o,e,g⟩
  ·refine⟨⟨o,I.kIn p o b,l⟩,λa e=>?_⟩;cases e;exact⟨o,I.kIn _ o b,g⟩
  ·have z:∃o,s.heap.get? p=some o/\o.ExactDict:=by
    rcases b with⟨m,b⟩|⟨m,b⟩
    ·obtain⟨_,_,_,_,o,_,_,e,d,_⟩:=I.hok p _ b;exact⟨o,e,d⟩
    ·obtain⟨_,_,_,_,o,_,_,e,d,_⟩:=I.hok p _ b;exact⟨o,e,d⟩
   obtain⟨o,e,d⟩:=z;refine⟨⟨o,e,d.1⟩,λa h=>?_⟩;cases h;exact⟨o,e,d.2.1⟩
  ·obtain⟨o,_,_,_,e,d,_⟩:=I.hok p _ b;refine⟨⟨o,e,d.1⟩,λa h=>?_⟩;cases h;exact⟨o,e,d.2.1⟩
 |_=>exact W8 f
def tBM0 (K:PySem.W.Frag)(T:String)(r:V->List V->Hp->VK->Prop)(to:TE):TE:=λσ H Q=>to σ H λx H1=>tyV K T x H1/\r x [] H1 Q
def tBM (K:PySem.W.Frag)(T:String)(r:V->List V->Hp->VK->Prop)(to:TE)(t:TA):TE:=λσ H Q=>to σ H λx H1=>tyV K T x H1/\t σ H1 λxs H2=>r x xs H2 Q
variable{o e:Expr}{es:List Expr}{to:TE}{t:TA}{name:Str}{apos cpos:Pos}{T id:String}{r:V->List V->Hp->VK->Prop}
theorem qcQ (f:PlainAttrs T) (c:Slot T name id) (d:typeOf (.builtin id)=pure (.type "method_descriptor")) (g:MtR X id r) (i:PE X o to)
  (a:C30 o name X.env (eval o X.env)=eval o X.env:=by rfl) (b:(apos.endLine==cpos.line)=true:=by rfl):PE X (.Call (.Attribute o name apos) [] [] cpos) (tBM0 X.K T r to):=by
 intro e s σ H Q I h;refine wpAny_Call_method0_late a b (thn (i e s σ H _ I h) λv s1 ⟨x,H1,I1,r1,ty,q1⟩=>?_);obtain⟨j,k⟩:=qZ3 I1 r1 ty;exact⟨T,id,f,c,d,j,k,d7 rfl (PySem.evalArgs_none (g e s1 σ H1 x [] v [] Q I1 r1 .nil q1))⟩
theorem qO6 (m:PlainAttrs T) (d:Slot T name id) (g:typeOf (.builtin id)=pure (.type "method_descriptor")) (k:MtR X id r) (l:PE X o to) (q:PA X (e::es) t)
  (b:C30 o name X.env (eval o X.env)=eval o X.env:=by rfl)
  (f:((backTo cpos (B69 (e::es) X.env)).all (fun x=>!x.1) && (backToKw cpos (C27 [] X.env)).all (fun x=>x.1.isSome)
   && decide ((e::es).length+([]:List C22).length+(if([]:List C22).isEmpty then 0 else 1)<30))=true:=by rfl)
  (c:(apos.endLine==cpos.line)=true:=by rfl) (hs:B69 (e::es) X.env=(false,eval e X.env)::B69 es X.env:=by rfl) (a:(backTo cpos (B69 es X.env)).any (·.1)=false:=by rfl):
  PE X (.Call (.Attribute o name apos) (e::es) [] cpos) (tBM X.K T r to t):=by
 intro i s σ H Q I h;refine wpAny_Call_method_late b f c rfl (thn (l i s σ H _ I h) λv s1 ⟨x,H1,I1,r1,ty,q1⟩=>?_);obtain⟨n,p⟩:=qZ3 I1 r1 ty;refine⟨T,id,m,d,g,n,p,?_⟩;have j:=q cpos i s1 σ H1 _ I1 q1;rw[hs] at j ⊢;refine d7 (by show(false||(backTo cpos (B69 es X.env)).any (·.1))=false;rw[a]<;>rfl) (A52 ?_)
 exact thn j λus s2 ⟨vs,H2,I2,r2,q2⟩=>k i s2 σ H2 x vs v us Q I2 r1 r2 q2
end
def MtM (X:Cx)(id:String)(r:V->List V->Hp->VK->Prop):Prop:=
 ∀(Ab:List (Addr×Obj)) (s:Shared) (σ:St) (H:Hp) (x:V) (xs:List V) (v:Value) (us:List Value) (Q:VK),Inv X Ab σ H s->RelV x v->Vals xs us->r x xs H Q->
  wpAny (model X.prog X.w) X.A (call (.builtin id) (v::us)) (EP X Ab σ Q) X.xe s
theorem Vals.one:∀{x:V} {us:List Value},Vals [x] us->∃u,us=[u]/\RelV x u
 |_,_,.cons r .nil=>⟨_,rfl,r⟩
theorem Vals.two:∀{x y:V} {us:List Value},Vals [x,y] us->∃u v,us=[u,v]/\RelV x u/\RelV y v
 |_,_,_,.cons r (.cons q .nil)=>⟨_,_,rfl,r,q⟩
theorem Vals.zero:∀{us:List Value},Vals [] us->us=[]
 |_,.nil=>rfl
theorem Vals.reverse {xs:List V}{a:List Value}(h:Vals xs a):Vals xs.reverse a.reverse:=by
 induction h with
 |nil=>exact .nil
 |cons r t ih=>rw[i8,i8];exact Vals.append ih (.cons r .nil)
theorem Vals.rep {xs:List V}{us:List Value}(h:Vals xs us):∀k:Nat,Vals (E7 k xs).flatten (E7 k us).flatten
 |0=>.nil
 |k+1=>by
  rw[W4,W4,i9,i9];exact Vals.append h (Vals.rep h k)
theorem qOQ (its:List Value):∀(k:Nat) (acc:List Value),
  B36 (λx1 x2=>x1++x2) acc.toArray (E7 k its.toArray)=(acc++(E7 k its).flatten).toArray
 |0,acc=>by simp
 |k+1,acc=>by
  have e:acc.toArray++its.toArray=(acc++its).toArray:=by simp
  have e2:(acc++its)++(E7 k its).flatten=acc++(E7 (k+1) its).flatten:=by
   rw[W4,i9,P3]
  rw[<- e2,<- qOQ its k (acc++its),<- e,W4,V5]
section
variable{X:Cx}{Ab:List (Addr×Obj)}{σ:St}{H:Hp}{s:Shared}{l b:Addr}{xs ys zs:List V}
theorem Inv.lset {a its':List Value}{n:Nat}{f:Array Value->Array Value}{t':Nat}(I:Inv X Ab σ H s)(g:H l=some (.lst xs))
  (e:s.heap.get? l=some {cls:=.type "list",data:=.seq a.toArray n}) (b:f a.toArray=its'.toArray) (c:Vals ys its') (d:ys.length<=B64):
  Inv X Ab σ (Ag H l (.lst ys)) {s with heap:=s.heap.update l (Q1 f),toks:=t'}:=by
 have q:=PySem.IsL.update e f;rw[b] at q;refine I.write (x:=l) (e:=l) (by rw[g];exact trivial) (.inl rfl) (λj u h i=>(E2 s.heap (Q1 f) (J8 h)).trans i) ⟨_,q⟩ ?_
 exact⟨d,its',_,c,q⟩
theorem Inv.lnew {a:List Value}{t':Nat}(I:Inv X Ab σ H s)(b:Vals ys a)(c:ys.length<=B64):
  Inv X Ab σ (Ag H s.heap.objs.size (.lst ys)) {s with heap:=s.heap.push {cls:=.type "list",data:=.seq a.toArray},toks:=t'}:=
 I.laid (λ_ _ q=>A5 _ q) (A7 _) ⟨c,a,0,b,B5 _ rfl⟩
theorem Inv.fresh (I:Inv X Ab σ H s):H s.heap.objs.size=none:=I.hok.fresh (A7 _)
theorem Inv.lstM (I:Inv X Ab σ H s) (a:H l=some (.lst xs)):xs.length<=B64/\∃(its:List Value) (n:Nat),Vals xs its/\xs.length=its.length/\s.heap.get? l=some {cls:=.type "list",data:=.seq its.toArray n}:=by
 obtain⟨z,its,n,r,e⟩:=I.hok l _ a;exact⟨z,its,n,r,r.length,e⟩
theorem qY1 {n:Nat}(h:n<=B64):Z6 n=false:=by
 unfold Z6;exact decide_eq_false (by lia)
end
section
variable{X:Cx}
def qaA:V->List V->Hp->VK->Prop:=λx vs H Q=>∃l xs y,x=.ref l/\vs=[y]/\H l=some (.lst xs)/\xs.length<B64/\Q .non (Ag H l (.lst (xs++[y])))
theorem qCK:MtM X "list.append" qaA:=by
 intro o s σ H x k v g Q I f d h;obtain⟨l,m,y,rfl,rfl,b,j,q⟩:=h;cases f;obtain⟨u,rfl,c⟩:=d.one;obtain⟨z,a,n,r,i,e⟩:=I.lstM b;refine C40 F.slot_list_append ⟨_,e,rfl⟩ F.entry_list_append (F.args_list_append_2 _ _) (PySem.list_append l a.toArray n u (by rw[C0];lia)) ⟨e,?_⟩
 refine⟨.non,_,I.lset (its':=a++[u]) b e (by simp) (r.append (.cons c .nil)) ?_,rfl,q⟩
 rw[B0,B8]
 lia
def qXM:V->List V->Hp->VK->Prop:=λx vs H Q=>∃l xs,x=.ref l/\vs=[]/\H l=some (.lst xs)/\Q .non (Ag H l (.lst xs.reverse))
theorem qSY:MtM X "list.reverse" qXM:=by
 intro m s σ H x j v g Q I f d h;obtain⟨l,k,rfl,rfl,c,q⟩:=h;cases f;have b:=d.zero;subst b;obtain⟨z,a,n,r,i,e⟩:=I.lstM c;refine C40 F.slot_list_reverse ⟨_,e,rfl⟩ F.entry_list_reverse (F.args_list_reverse_1 _) (AutoSeq1.list_reverse_list_0 l a.toArray n (by rw[C0];lia)) ⟨e,?_⟩
 refine⟨.non,_,I.lset (its':=a.reverse) c e (by simp) r.reverse ?_,rfl,q⟩
 rw[A64]
 lia
def rCat:R2:=λx y H Q=>∃l b xs zs,x=.ref l/\y=.ref b/\H l=some (.lst xs)/\H b=some (.lst zs)/\xs.length+zs.length<=B64/\∀p,H p=none->Q (.ref p) (Ag H p (.lst (xs++zs)))
theorem qOD:OpR X (B90 .Add) rCat:=by
 intro Ab s σ H x y v u Q I k f h;obtain⟨l,b,xs,zs,rfl,rfl,j,d,w,q⟩:=h;cases k;cases f;obtain⟨z,c,n,r,p,e⟩:=I.lstM j;obtain⟨t,a,n2,g,o,m⟩:=I.lstM d;refine PySem.P.add_list e m ?_ (by rw[C0,C0];lia)
 have i:c.toArray++a.toArray=(c++a).toArray:=by simp
 rw[i];exact⟨.ref _,_,I.lnew (t':=s.toks) (r.append g) (by rw[B0];lia),rfl,q _ I.fresh⟩
def rRep:R2:=λx y H Q=>∃l k xs,x=.ref l/\y=.int k/\H l=some (.lst xs)/\-(2^63)<=k/\k<2^63/\xs.length*k.toNat<=B64/\
 ∀p,H p=none->Q (.ref p) (Ag H p (.lst (E7 k.toNat xs).flatten))
theorem qaQ {α:Type}(xs:List α)(k:Nat):(E7 k xs).flatten.length=k*xs.length:=by
 induction k with
 |zero=>simp
 |succ k ih=>rw[W4,i9,B0,ih,Nat.succ_mul,u7]
theorem qZC:OpR X (B90 .Mult) rRep:=by
 intro Ab s σ H x y v u Q I rx ry h;obtain⟨l,k,xs,rfl,rfl,hH,w,h2,p,q⟩:=h;cases rx;obtain⟨t,rfl⟩:=ry;obtain⟨z,b,n,r,hl,e⟩:=I.lstM hH;have g:b.toArray.size*k.toNat<=B64:=by rw[C0,<- hl];exact p
 have i:¬b.toArray.size*k.toNat>(2^63-1)/8:=by
  have:(B64:Nat)<=(2^63-1)/8:=by decide
  lia
 have f:¬(!Builtin.List.listFitsIndex k)=true:=by
  rw[fitsIndex_both w h2];exact B4
 have c:¬Z6 (b.toArray.size*k.toNat)=true:=by
  rw[qY1 g];exact B4
 have d:B36 (λj o=>j++o) #[] (E7 (if b.toArray.isEmpty=true then 0 else k.toNat) b.toArray)=(E7 k.toNat b).flatten.toArray:=by
  have f0:∀m:Nat,B36 (λj o=>j++o) #[] (E7 m b.toArray)=(E7 m b).flatten.toArray:=λm=>by
   have:=qOQ b m [];rw[A37] at this;exact this
  rw[f0];cases b with
  |nil=>simp
  |cons a r'=>rw[if_neg (by simp)]
 refine wpAny_binaryOp_repeat_ref (T:="list") (U:="int") (by decide) ⟨_,e,rfl⟩ (λs'=>typeIs_int s' k t) noFill_list_mul F.fills_int_mul F.slot_int_rmul repeat_list F.slot_int_index.lookup
  (C40 F.slot_int_rmul (typeIs_int s k t) F.entry_int_rmul (F.args_int_rmul_2 _ _) (int___rmul___int_list k t l b.toArray n)
   ⟨e,rfl,⟨_,e,rfl⟩,C40 F.slot_list_mul ⟨_,e,rfl⟩ F.entry_list_mul (F.args_list_mul_2 _ _) (AutoListH.list___mul___list_int_3 l b.toArray n k t f i c) ⟨e,?_⟩⟩)
 rw[d];exact⟨.ref _,_,I.lnew (t':=s.toks) (r.rep k.toNat) (by rw[qaQ,W2];exact p),rfl,q _ I.fresh⟩
end
section
variable{prog:B66}{w:World}{A:Around}{E:Value->Shared->Prop}{s:Shared}
set_option maxRecDepth 100000 in
end
section
variable{X:Cx}
end
end L2
namespace Att
open PySem PySem.W PySem.Calls PyProof.Rows
theorem qK2 {P:Params}{h:Heap}:∀(ns:List Int) (vs:List Value),WellAll P h vs (ns.map WData.int)->B71 vs ns:=by
 intro ns
 induction ns with
 |nil=>
  intro vs w;rw[t9] at w;cases w;exact .nil
 |cons n ns ih=>
  intro vs w;rw[C7] at w;cases w with
  |cons a b=>
   cases a;exact .cons _ _ (ih _ b)
theorem qUA {l:OpenLaw}{n:Nat}(s:l.most=some n){P:Params}{h:Heap}{args:List WData}{b:List Value}
  (c:l.row.toRowW.claim.pre args=true) (j:WellAll P h b args):
  ∃a vs ns,b=[E1 a]/\args=[WData.list (ns.map WData.int)]/\h.get? a=some {cls:=.type "list",data:=.seq vs.toArray}/\B71 vs ns/\ns.length<=n:=by
 have i:WShape.hasAll [] args [.list .int]=true:=(pre_splitW c).1;have k:l.pre.holds [] {args:=args}=true:=(pre_splitW c).2;obtain⟨d,r,rfl,o,t⟩:=hasAllW_cons i;obtain rfl:=hasAllW_nil t;obtain⟨u,rfl,m⟩:=hasW_list o;obtain⟨ns,rfl⟩:=items_int m;have e:ns.length<=n:=by
  unfold OpenLaw.pre at k;have f:(WTm.not (.lt (.lit (.int (n:Int))) (.len (.arg 0)))).holds [] {args:=[.list (ns.map .int)]}=true:=by
   have f:=(holds_andW k).1;rw[s] at f;exact f
  have g:=condW_of f (w_not (w_lt w_lit (w_len_list (w_arg rfl))));rw[A0] at g;refine Y9 λq=>?_;have p:(n:Int)<((ns.length:Nat):Int):=by lia
  first
   |(rw[decide_eq_true p] at g;exact absurd g (by decide))
   |(simp at g;lia)
 cases j with
 |cons w1 w2=>
  cases w2;cases w1 with
  |list ho hall=>exact⟨_,_,ns,rfl,rfl,ho,qK2 ns _ hall,e⟩
theorem qUG (l:OpenLaw)(args:List WData):l.row.toRowW.claim.post args (.bool true) args=true:=
 postW_of (r:=l.row.toRowW) (X:=(true==true))
  (show WShape.has [] (.bool true) .bool=true by first|rfl|decide|simp[WShape.has,WShape.arms,WShape.armsAll])
  (show(WTm.eq .res (.lit (.bool true))).value [] {args:=args,res:=some (.bool true),after:=args}=some (.bool (true==true)) from w_eq_bool (w_res rfl) w_lit) rfl
theorem attach_call {l:OpenLaw}{n:Nat}{q:B66}{b:List Str}{XP:(Str->Option Value)->Heap->Prop}{YP:World->Heap->Prop}{d:DefRec}
  (hn:l.most=some n) (j:d.params.defaults=[])
  (i:∀ (w:World) (s₀ s₁:Shared) (mg mb:Str->Option Value) (fa:Addr) (o:Obj) (pm cd doc:Value) (a:Addr) (vs:List Value) (ns:List Int),
   Ground q b [] XP w s₀ mg mb s₁.heap->YP w s₁.heap->
   s₁.heap.get? fa=some o->o.data=.func (docDef d.name d.params d.body d.scope pm cd doc)->s₁.heap.CodeRec cd d.name->mg d.name=some (.ref fa)->
   s₁.heap.get? a=some {cls:=.type "list",data:=.seq vs.toArray}->B71 vs ns->ns.length<=n->s₁.gens=#[]->
   B97 (model l.prog w) callerA (.call (.ref fa) ⟨[.ref a],[]⟩) (λr s'=>r=.ok (.ret (.bool true))/\OldK s₁.heap s'.heap/\s'.os=s₁.os/\AllBare s'.gens) s₁):
  WalkO q b XP YP l.row.toRowW d [] (λf vs=>B37 f vs):=by
 intro w s₀ s₁ mg mb G Y fa o pm cd doc dV x ho y k t m z s u as g v a1 p a0;obtain rfl:dV=.none:=Dflts.none t j;obtain rfl:x=.none:=Dflts.noKw t;obtain⟨a,vs,ns,rfl,rfl,h,c,e⟩:=qUA hn g p;refine enter_call (B94 (i w s₀ s₁ mg mb fa o pm cd doc a vs ns G Y ho (fd_plain y) k m h c e z) λr s' hq=>?_);obtain⟨rfl,h2,h3,h4⟩:=hq;exact⟨.inl ⟨.bool true,.bool true,[],rfl,λ_=>rfl,.bool true,qUG l _,λ_=>⟨List.Pairwise.nil,λ_ hm=>(nomatch hm)⟩⟩,h2,h3,h4⟩
section
variable{prog:B66}{w:World}{A:Around}{E:Value->Shared->Prop}{s:Shared}{K:Frag}
end
end Att
namespace L2
open PySem PySem.Spec PyProof.Rows
theorem qJA:∀{vs:List Value} {ns:List Int},B71 vs ns->Vals (ns.map V.int) vs
 |_,_,.nil=>.nil
 |_,_,.cons n t h=>.cons ⟨t,rfl⟩ (qJA h)
noncomputable def qEW (s:Stmt):B95:=match s with
 |.FunctionDef _ a _ _ _ _ _ _ _ _=>a
 |_=>{posonlyargs:=[],args:=[],vararg:=none,kwonlyargs:=[],kw_defaults:=[],kwarg:=none,defaults:=[]}
noncomputable def qAV (s:Stmt):List Stmt:=match s with
 |.FunctionDef _ _ b _ _ _ _ _ _ _=>b
 |_=>[]
noncomputable def qAA (s:Stmt):Scope:=match s with
 |.FunctionDef _ _ _ _ _ _ sc _ _ _=>sc
 |_=>{kind:=.function,names:=[],isGenerator:=false,isCoroutine:=false}
abbrev CX0:CXT:=λ_ _ _ _ _ _=>False
abbrev E0:XK:=λ_ _ _=>False
theorem qeC {X:Cx}:qX3 CX0 X E0:=λ_ _ _ _ _ _ _ h=>h.elim
structure Fun (K:PySem.W.Frag)(x qual:Str)(st:Stmt)(f:Addr)(fd:B85):Prop where
 ex:∃(oc:Value) (od:Option Addr) (kV doc pm:Value) (an:Option Addr) (cdv ct:Value) (osl:Array (Option Value)),
  fd=T1 x qual (qEW st) (qAV st) (qAA st) .none kV doc pm an cdv ct/\K.lookup f=some ⟨oc,od,.func fd,osl⟩/\k6 K cdv qual=true
 kp:T0 K (.ref f)=true
section
variable{P:B66}{w:World}{K:PySem.W.Frag}{mg:Str->Option Value}{base:Heap}
theorem Fun.ok {x a:Str}{st:Stmt}{f:Addr}{g:B85}{N ps:List Str}{k:Nat}{sp:Sp}(F:Fun K x a st f g)(S:FnScope N ps (qAA st))(d:∀vs H Q E,sp vs H Q E->vs.length=ps.length)
  (b:∀ (cdv:Value) (A:Around) (outer:List Env) (s:Shared) (H:Hp) (vs:List V) (Q:VK) (E:XK),Room k (A.deeper (envOfC a (qAA st) s.heap.objs.size f cdv))->sp vs H Q E->
   ∃t,PSs (cxOf CX0 P w K mg base N a (qAA st) f cdv A outer s H E).nox (qAV st) t/\t {nx:=λ_ H'=>Q .non H',rt:=Q} (start N vs) H):FnOk P w K mg base CX0 (k+1) f g ps sp:=by
 obtain⟨o,u,n,j,v,r,cdv,p,l,rfl,m,e⟩:=F.ex;refine qdC m e S d λA outer s H vs Q E i c=>?_;obtain⟨t,h,q⟩:=b cdv A outer s H vs Q E i c;exact⟨t,h.nox,q⟩
theorem Fun.binds {x a:Str}{st:Stmt}{f:Addr}{b:B85}{ps:List Str}(F:Fun K x a st f b)
  (h:∀(kV doc pm:Value) (an:Option Addr) (cdv ct:Value) (us:List Value),us.length=ps.length->C20 (T1 x a (qEW st) (qAV st) (qAA st) .none kV doc pm an cdv ct) ⟨us,[]⟩=pure (ps.zip us)):Binds K b ps []:=by
 obtain⟨e,i,kV,doc,pm,an,cdv,ct,c,rfl,g,d⟩:=F.ex;exact .all (h kV doc pm an cdv ct)
theorem fun_mk {x a:Str}{st:Stmt}{f:Addr}{m:Value}{n h:Option Addr}{e:Array (Option Value)}{g d j b i:Value}(l:K.lookup f=some ⟨m,n,.func (T1 x a (qEW st) (qAV st) (qAA st) .none g d j h b i),e⟩)
  (c:k6 K b a=true) (k:T0 K (.ref f)=true):Fun K x a st f (T1 x a (qEW st) (qAV st) (qAA st) .none g d j h b i):=⟨⟨m,n,g,d,j,h,b,i,e,rfl,l,c⟩,k⟩
end
theorem qG7 {A:Around}{k:Nat}(a:Room k A):A.units+1<cLine:=X1 (Nat.add_le_add_left (by decide:1<=64) _) a.units
theorem qAG {n:Nat}(h:n<=1000):n<B64:=X1 h (by decide)
section
variable{X:Cx}
theorem pv (i:Nat) {x:Str} {pos:Pos} (c:X.N[i]?=some x:=by rfl) (a:Vis X.env.scope x:=by first|exact E8 rfl|exact A05 (E8 rfl)|exact A05 (A05 rfl)) (b:(x==("__debug__" : Str))=false:=by decide)
  (hcd:(x==("__classdict__" : Str))=false:=by decide):PE X (.Name x pos) (tVar i):=qcM c a b hcd
end
theorem iteF {A B:Prop}(h:B):if false=true then A else B:=by
 rw[if_neg B4];exact h
theorem iteT {A B:Prop}(h:A):if true=true then A else B:=by
 rw[if_pos rfl];exact h
theorem ite2 {c A B:Prop}[Decidable c](b:c->A)(a:¬c->B):if c then A else B:=by
 by_cases h:c
 ·rw[if_pos h];exact b h
 ·rw[if_neg h];exact a h
def Same (H H':Hp):Prop:=∀b o,H b=some o->H' b=some o
theorem Same.refl (H:Hp):Same H H:=λ_ _ h=>h
theorem Same.trans {H H1 H2:Hp}(a:Same H H1)(b:Same H1 H2):Same H H2:=λc o h=>b c o (a c o h)
theorem Same.free {H H':Hp}(e:Same H H'){l:Addr}(h:H' l=B59):H l=B59:=by
 cases q:H l with
 |none=>rfl
 |some o=>
  rw[e l o q] at h;cases h
section
variable{κ:Type}[DecidableEq κ]
noncomputable def valV (Af:List (κ×V))(k:κ):Option V:=(Af.find? λkv=>decide (kv.1=k)).map (·.2)
noncomputable def putK (Af:List (κ×V))(k:κ)(v:V):List (κ×V):=
 if(Af.any λkv=>decide (kv.1=k))=true then Af.map (λkv=>if kv.1=k then(kv.1,v) else kv) else Af++[(k,v)]
theorem qBP {p:κ×V}{r:List (κ×V)}{k:κ}(e:p.1=k):valV (p::r) k=some p.2:=by simp[valV,V6,e]
theorem qBQ {p:κ×V}{r:List (κ×V)}{k:κ}(e:¬p.1=k):valV (p::r) k=valV r k:=by simp[valV,V6,e]
theorem qFP (k:κ):∀Af:List (κ×V),(Af.any λkv=>decide (kv.1=k))=(valV Af k).isSome
 |[]=>rfl
 |p::r=>by
  rw[W3];by_cases e:p.1=k
  ·simp only[qBP e,decide_eq_true e,Bool.true_or,Option.isSome_some]
  ·rw[qBQ e,decide_eq_false e,B42];exact qFP k r
theorem qQT (k j:κ)(y:V):∀Af:List (κ×V),valV (Af.map λkv=>if kv.1=k then(kv.1,y) else kv) j=(valV Af j).map λx=>if j=k then y else x
 |[]=>rfl
 |p::r=>by
  have ih:=qQT k j y r;rw[C7];by_cases h:p.1=k
  ·rw[if_pos h];by_cases e:p.1=j
   ·rw[qBP (p:=(p.1,y)) e,qBP e,T4,if_pos (e.symm.trans h)]
   ·rw[qBQ (p:=(p.1,y)) e,qBQ e,ih]
  ·rw[if_neg h];by_cases e:p.1=j
   ·rw[qBP (p:=p) e,qBP e,T4,if_neg (λz=>h (e.trans z))]
   ·rw[qBQ (p:=p) e,qBQ e,ih]
theorem qNK (k j:κ)(y:V):∀Af:List (κ×V),valV Af k=none->valV (Af++[(k,y)]) j=if j=k then some y else valV Af j
 |[],_=>by
  by_cases e:k=j
  ·rw[if_pos e.symm];exact qBP (p:=(k,y)) e
  ·rw[if_neg (λz=>e z.symm)];exact qBQ (p:=(k,y)) e
 |p::r,hn=>by
  rw[A24];have hk:¬p.1=k:=λz=>by rw[qBP z] at hn;cases hn
  rw[qBQ hk] at hn;have ih:=qNK k j y r hn;by_cases e:p.1=j
  ·rw[qBP e,qBP e,if_neg (λz=>hk (e.trans z))]
  ·rw[qBQ e,qBQ e,ih]
theorem qIU (Af:List (κ×V))(k j:κ)(y:V):valV (putK Af k y) j=if j=k then some y else valV Af j:=by
 unfold putK;by_cases a:(Af.any λc=>decide (c.1=k))=true
 ·rw[if_pos a,qQT];rw[qFP] at a;by_cases e:j=k
  ·obtain⟨x,b⟩:=Z4.mp a;rw[if_pos e,e,b,T4,if_pos rfl]
  ·rw[if_neg e];cases valV Af j with
   |none=>rfl
   |some x=>rw[T4,if_neg e]
 ·rw[if_neg a];refine qNK k j y Af ?_;rw[qFP] at a;cases q:valV Af k with
  |none=>rfl
  |some x=>rw[q] at a;exact(a rfl).elim
theorem qCR (Af:List (κ×V))(k:κ)(v:V):(putK Af k v).length<=Af.length+1:=by
 unfold putK
 split
 ·rw[A0];lia
 ·rw[B0,D3,O9];lia
theorem qRC {Af:List (κ×V)}{k:κ}(v:V)(h:valV Af k=none):putK Af k v=Af++[(k,v)]:=by
 unfold putK;rw[qFP,h];exact if_neg (by decide)
theorem RelO.isSome_eq {o:Option V}{u:Option Value}(r:RelO o u):o.isSome=u.isSome:=by
 cases o with
 |none=>cases u with
  |none=>rfl
  |some _=>exact(show False from r).elim
 |some _=>cases u with
  |none=>exact(show False from r).elim
  |some _=>rfl
theorem KV.val {Af:List (κ×V)}{vs:List (κ×Value)}(r:KV Af vs)(k:κ):RelO (valV Af k) (valueAt vs k):=by
 unfold KV at r
 induction r with
 |nil=>exact V3
 |@cons p q ps qs h t ih=>
  obtain⟨c,d⟩:=h;by_cases e:p.1=k
  ·have a:q.1=k:=c.symm.trans e;have b:valueAt (q::qs) k=some q.2:=by simp[valueAt,V6,a]
   rw[qBP e,b];exact d
  ·have a:¬q.1=k:=λz=>e (c.trans z);have b:valueAt (q::qs) k=valueAt qs k:=by simp[valueAt,V6,a]
   rw[qBQ e,b];exact ih
theorem KV.any {Af:List (κ×V)}{vs:List (κ×Value)}(r:KV Af vs)(k:κ):(Af.any λkv=>decide (kv.1=k))=vs.any λkv=>decide (kv.1=k):=by
 unfold KV at r
 induction r with
 |nil=>rfl
 |cons h t ih=>rw[W3,W3,ih,h.1]
theorem KV.repl {Af:List (κ×V)}{vs:List (κ×Value)}(r:KV Af vs)(k:κ){y:V}{u:Value}(c:RelV y u):
  KV (Af.map λkv=>if kv.1=k then(kv.1,y) else kv) (vs.map λkv=>if kv.1=k then(kv.1,u) else kv):=by
 unfold KV at r ⊢
 induction r with
 |nil=>exact .nil
 |@cons p q ps qs h t ih=>
  rw[C7,C7];refine .cons ?_ ih;obtain⟨a,b⟩:=h;by_cases e:p.1=k
  ·rw[if_pos e,if_pos (a.symm.trans e)];exact⟨a,c⟩
  ·rw[if_neg e,if_neg (λz=>e (a.trans z))];exact⟨a,b⟩
theorem KV.put {Af:List (κ×V)}{vs:List (κ×Value)}(r:KV Af vs)(k:κ){y:V}{u:Value}(a:RelV y u):KV (putK Af k y) (stored vs k u):=by
 unfold putK stored;rw[r.any k];by_cases e:(vs.any λb=>decide (b.1=k))=true
 ·rw[if_pos e,if_pos e];exact r.repl k a
 ·rw[if_neg e,if_neg e];exact T5 r ⟨rfl,a⟩
theorem KV.keys {Af:List (κ×V)}{vs:List (κ×Value)}(r:KV Af vs):Af.map (·.1)=vs.map (·.1):=by
 unfold KV at r
 induction r with
 |nil=>rfl
 |cons h t ih=>rw[C7,C7,ih,h.1]
theorem KV.length {Af:List (κ×V)}{vs:List (κ×Value)}(r:KV Af vs):Af.length=vs.length:=C1 r
end
theorem qT7 {P:B66}{w:World}{k:Key}{u:Value}(r:RelV (kV k) u):(qBM P w).is k u=true:=by
 cases k with
 |inl i=>obtain⟨t,e⟩:=(show∃t,u=R5 i t from r);subst e;exact qQ2 P w i t
 |inr x=>obtain⟨t,e⟩:=(show∃t,u=B14 x t from r);subst e;exact qQ1 P w x t
theorem qOI {P:B66}{w:World}:∀{ks:List Key} {us:List Value},Vals (ks.map kV) us->ItemsAre (qBM P w) ks us
 |[],_,r=>by rw[t9] at r;cases r;exact .nil
 |k::ks,_,r=>by
  rw[C7] at r;cases r with
  |cons h t=>exact .cons (qT7 h) (qOI t)
abbrev KT (H:Hp):List (List Key×V)->List (List Key×Addr×Value)->Prop:=Paired λp q=>p.1=q.1/\H q.2.1=some (.tup (p.1.map kV))/\RelV p.2 q.2.2
theorem KT.val {H:Hp}{Af:List (List Key×V)}{xs:List (List Key×Addr×Value)}(r:KT H Af xs)(k:List Key):RelO (valV Af k) ((atKey xs k).map (·.2)):=by
 induction r with
 |nil=>exact V3
 |@cons p q ps qs h t ih=>
  obtain⟨c,_,d⟩:=h;by_cases e:p.1=k
  ·have a:q.1=k:=c.symm.trans e;have b:atKey (q::qs) k=some q.2:=by simp[atKey,V6,a]
   rw[qBP e,b];exact d
  ·have a:¬q.1=k:=λz=>e (c.trans z);have b:atKey (q::qs) k=atKey qs k:=by simp[atKey,V6,a]
   rw[qBQ e,b];exact ih
theorem KT.repl {H:Hp}{Af:List (List Key×V)}{xs:List (List Key×Addr×Value)}(r:KT H Af xs)(k:List Key){y:V}{u:Value}(d:RelV y u):
  KT H (Af.map λkv=>if kv.1=k then(kv.1,y) else kv) (xs.map (putAt k u)):=by
 induction r with
 |nil=>exact .nil
 |@cons p q ps qs h t ih=>
  rw[C7,C7];refine .cons ?_ ih;obtain⟨a,b,c⟩:=h;unfold putAt;by_cases e:p.1=k
  ·rw[if_pos e,if_pos (a.symm.trans e)];exact⟨a,b,d⟩
  ·rw[if_neg e,if_neg (λz=>e (a.trans z))];exact⟨a,b,c⟩
theorem KT.put {H:Hp}{Af:List (List Key×V)}{xs:List (List Key×Addr×Value)}(r:KT H Af xs)(k:List Key){b:Addr}{y:V}{u:Value}(c:H b=some (.tup (k.map kV)))(a:RelV y u):
  KT H (putK Af k y) (C23 xs k b u):=by
 have e:(Af.any λd=>decide (d.1=k))=(atKey xs k).isSome:=by
  rw[qFP,(r.val k).isSome_eq,j4]
 unfold putK C23;rw[e];by_cases q:(atKey xs k).isSome=true
 ·rw[if_pos q,if_pos q];exact r.repl k a
 ·rw[if_neg q,if_neg q];exact T5 r ⟨rfl,c,a⟩
theorem KT.keeps {H H':Hp}{Af:List (List Key×V)}{xs:List (List Key×Addr×Value)}(r:KT H Af xs)(a:∀b ys,H b=some (.tup ys)->H' b=some (.tup ys)):KT H' Af xs:=
 Paired.mapP r λ_ _ z=>⟨z.1,a _ _ z.2.1,z.2.2⟩
section
variable{P:B66}{w:World}{H:Hp}{h:Heap}{a:Addr}
theorem qcE {u:HO}(ok:HOk P w H h)(e:Rd H a u):ObjOk P w H h a u:=e.ok ok
theorem qWB {Af:List (Key×V)}(b:HOk P w H h)(e:Rd H a (.dK Af)):Af.length<=B64/\(a==B88)=false/\∃vs,KV Af vs/\h.DictOf (qBM P w) a vs:=
 show ObjOk P w H h a (.dK Af) from qcE b e
theorem qbA {Af:List (Key×V)}(b:HOk P w H h)(e:H a=some (.dK Af)):Af.length<=B64/\(a==B88)=false/\∃vs,KV Af vs/\h.DictOf (qBM P w) a vs:=qWB b (.inl e)
theorem qK0 {ks:List Key}(f:HOk P w H h)(e:H a=some (.tup (ks.map kV))):(C17 (qBM P w)).is h ks a:=by
 obtain⟨_,b,r,o,d,g,n,c⟩:=(show ObjOk P w H h a (.tup (ks.map kV)) from f a _ e);exact⟨o,b.toArray,n,d,g,c,by simpa using qOI r⟩
theorem qWA {Af:List (List Key×V)}(c:HOk P w H h)(e:Rd H a (.dT Af)):Af.length<=B64/\(a==B88)=false/\
  ∃xs,KT H Af xs/\h.DictOfH (C17 (qBM P w)) a xs:=by
 obtain⟨z,y,xs,r,o,i,k,g,n,f,d,j⟩:=(show ObjOk P w H h a (.dT Af) from qcE c e);refine⟨z,y,xs,r,o,i,k,g,n,f,d,λx hx=>?_,j⟩;have b:∀{l:List (List Key×V)} {m:List (List Key×Addr×Value)},KT H l m->∀x∈m,(C17 (qBM P w)).is h x.1 x.2.1:=by
  intro l m q
  induction q with
  |nil=>intro x hx;exact nomatch hx
  |@cons p q ps qs hq t ih=>
   intro x hx;rcases B6.mp hx with e|hx
   ·subst e;exact qK0 c (by rw[<- hq.1];exact hq.2.1)
   ·exact ih x hx
 exact b r x hx
theorem qdF {Af:List (List Key×V)}(b:HOk P w H h)(e:H a=some (.dT Af)):Af.length<=B64/\(a==B88)=false/\
  ∃xs,KT H Af xs/\h.DictOfH (C17 (qBM P w)) a xs:=qWA b (.inl e)
end
def DGet (H:Hp)(a:Addr)(y:V)(r:Option V):Prop:=
 (∃Af k,Rd H a (.dK Af)/\y=kV k/\r=valV Af k)\/∃Af k b,Rd H a (.dT Af)/\y=.ref b/\H b=some (.tup (k.map kV))/\r=valV Af k
def DPut (H:Hp)(a:Addr)(y v:V)(H':Hp):Prop:=
 (∃Af k,H a=some (.dK Af)/\y=kV k/\Af.length<B64/\H'=Ag H a (.dK (putK Af k v)))\/
 ∃Af k b,H a=some (.dT Af)/\y=.ref b/\H b=some (.tup (k.map kV))/\Af.length<B64/\H'=Ag H a (.dT (putK Af k v))
theorem DGet.k {H:Hp}{a:Addr}{Af:List (Key×V)}{k:Key}(e:H a=some (.dK Af)):DGet H a (kV k) (valV Af k):=.inl ⟨Af,k,.inl e,rfl,rfl⟩
theorem DPut.k {H:Hp}{a:Addr}{Af:List (Key×V)}{k:Key}{v:V}(e:H a=some (.dK Af))(b:Af.length<B64):DPut H a (kV k) v (Ag H a (.dK (putK Af k v))):=.inl ⟨Af,k,e,rfl,b,rfl⟩
theorem DPut.t {H:Hp}{a b:Addr}{Af:List (List Key×V)}{k:List Key}{v:V}(e:H a=some (.dT Af))(d:H b=some (.tup (k.map kV)))(c:Af.length<B64):
  DPut H a (.ref b) v (Ag H a (.dT (putK Af k v))):=.inr ⟨Af,k,b,e,rfl,d,c,rfl⟩
section
variable{X:Cx}{Ab:List (Addr×Obj)}{σ:St}{H:Hp}{s:Shared}{a:Addr}{y v:V}{u r:Value}{o:Option V}{A:Around}{E:Value->Shared->Prop}
theorem Inv.big (I:Inv X Ab σ H s):B88<s.heap.objs.size:=by
 have h:B75<s.heap.objs.size:=(I.mod.glob.keeps I.bk).lt;exact X3 (by decide) h
theorem qWI {Q:Value->Shared->Prop}(hu:A.units+1<cLine)(I:Inv X Ab σ H s)(g:DGet H a y (some v))(n:RelV y u)(h:∀w' s',Inv X Ab σ H s'->RelV v w'->Q w' s'):
  wpAny (model X.prog X.w) A (getItem (.ref a) u) Q E s:=by
 rcases g with⟨x,k,e,j,l⟩|⟨x,k,b,e,j,eb,l⟩
 ·subst j;obtain⟨z,q,t,c,m⟩:=qWB I.hok e;obtain⟨w',i,d⟩:=RelO.some_of (v:=v) (o:=valueAt t k) (by rw[l];exact c.val k)
  exact wpAny_getItem_of (qT7 n) m.mapOf i (h w' _ (I.tok _) d)
 ·subst j;cases(show u=E1 b from n);obtain⟨z,q,xs,c,m⟩:=qWA I.hok e;obtain⟨w',i,d⟩:=RelO.some_of (v:=v) (o:=(atKey xs k).map (·.2)) (by rw[l];exact c.val k)
  obtain⟨p,r,f⟩:=A31.mp i;refine wpAny_getItem_heap (C06 hu) (qK0 I.hok eb) m r ?_;rw[f];exact h w' _ (I.tok _) d
theorem d_in {Q:Value->Shared->Prop}(p:A.units+1<cLine)(I:Inv X Ab σ H s)(g:DGet H a y o)(j:RelV y u)(h:∀s',Inv X Ab σ H s'->Q (.bool o.isSome) s'):
  wpAny (model X.prog X.w) A (B80 .In u (.ref a)) Q E s:=by
 rcases g with⟨m,k,e,f,l⟩|⟨m,k,b,e,f,n,l⟩
 ·subst f;obtain⟨z,d,r,c,i⟩:=qWB I.hok e;refine wpAny_in_of (qT7 j) d i.mapOf ?_;rw[<- (c.val k).isSome_eq,<- l];exact h _ (I.tok _)
 ·subst f;cases(show u=E1 b from j);obtain⟨z,d,t,c,i⟩:=qWA I.hok e;refine wpAny_in_heap (C06 p) (qK0 I.hok n) d i ?_;have q:=(c.val k).isSome_eq;rw[j4] at q;rw[<- q,<- l];exact h _ (I.tok _)
theorem qbC {Q:Value->Shared->Prop}(p:A.units+1<cLine)(I:Inv X Ab σ H s)(g:DGet H a y o)(j:RelV y u)(h:∀s',Inv X Ab σ H s'->Q (.bool (!o.isSome)) s'):
  wpAny (model X.prog X.w) A (B80 .NotIn u (.ref a)) Q E s:=by
 rcases g with⟨m,k,e,f,l⟩|⟨m,k,b,e,f,n,l⟩
 ·subst f;obtain⟨z,d,r,c,i⟩:=qWB I.hok e;refine wpAny_notIn_of (qT7 j) d i.mapOf ?_;rw[<- (c.val k).isSome_eq,<- l];exact h _ (I.tok _)
 ·subst f;cases(show u=E1 b from j);obtain⟨z,d,t,c,i⟩:=qWA I.hok e;refine wpAny_notIn_heap (C06 p) (qK0 I.hok n) d i ?_;have q:=(c.val k).isSome_eq;rw[j4] at q;rw[<- q,<- l];exact h _ (I.tok _)
theorem qN7 {h':Heap}{t':Nat}{d:HO}(I:Inv X Ab σ H s)(g:Mut (H a))(hs:Heap.SameBut a s.heap h')(f:∃q,h'.get? a=some q)(c:ObjOk X.prog X.w (Ag H a d) h' a d):
  Inv X Ab σ (Ag H a d) {s with heap:=h',toks:=t'}:=
 I.write (x:=a) (e:=a) g (.inl rfl) (λb q h z=>(hs.2 b h).trans z) f c
theorem qZN {P:B66}{w:World}{H':Hp}{h':Heap}{Af:List (Key×V)}{vs:List (Key×Value)}(z:Af.length<=B64)(c:(a==B88)=false)(b:KV Af vs)(d:h'.DictOf (qBM P w) a vs):
  ObjOk P w H' h' a (.dK Af):=⟨z,c,vs,b,d⟩
theorem qWH {H':Hp}{Q:Unit->Shared->Prop}(hu:A.units+1<cLine)(I:Inv X Ab σ H s)(g:DPut H a y v H')(ry:RelV y u)(rv:RelV v r)(h:∀s',Inv X Ab σ H' s'->Q () s'):
  wpAny (model X.prog X.w) A (setItem (.ref a) u r) Q E s:=by
 rcases g with⟨i,k,e,x,l,p⟩|⟨i,k,b,e,x,eb,l,p⟩
 ·subst x p;obtain⟨z,j,vs,d,t⟩:=qbA I.hok e;have o:vs.length<=B64:=by rw[<- d.length];exact z
  have m:(putK i k v).length<=B64:=by have:=qCR i k v;lia
  refine wpAny_setItem_pairs (hsz:=o) (qT7 ry) t λh' f n=>h _ ?_;have he:∃q,h'.get? a=some q:=let⟨q,_,_,hq,_⟩:=f;⟨q,hq⟩
  exact qN7 I (by rw[e];exact V3) n he (qZN m j (d.put k rv) f)
 ·subst x p;cases(show u=E1 b from ry);obtain⟨z,j,xs,d,t⟩:=qdF I.hok e;have o:xs.length<=B64:=by rw[<- C1 d];exact z
  have m:(putK i k v).length<=B64:=by have:=qCR i k v;lia
  refine wpAny_setItem_heap (hsz:=o) (C06 hu) (qK0 I.hok eb) t λh' f n=>h _ ?_;obtain⟨q,es,ep,hq,h2,h3,h4,_,h5⟩:=f;refine qN7 I (by rw[e];exact V3) n ⟨q,hq⟩ ⟨m,j,_,(d.put k eb rv).keeps λc ys ec=>?_,q,es,ep,hq,h2,h3,h4,h5⟩
  rw[qA9 (qCP ec e (λz=>nomatch z))];exact ec
end
section
variable{X:Cx}{Ab:List (Addr×Obj)}{σ:St}{H:Hp}{s:Shared}{a:Addr}{Af:List (Key×V)}{k:Key}{u:Value}{A:Around}{E:Value->Shared->Prop}
end
def NoSl (i:Expr):Prop:=∀ov iv,subscripted i false ov iv=operate [ov,iv] (getItem ov iv)
theorem qa1 {prog:B66}{w:World}{A:Around}{E:Value->Shared->Prop}{s:Shared}{env:Env}{b a:Expr}{pos:Pos}{T id:String}{Q:Value->Shared->Prop}
  (g:typeLookup (.type T) "__getitem__" = pure (some (.builtin id))) (hs:NoSl a)
  (h:wpAny (model prog w) A (eval b env) (λo s₁=>wpAny (model prog w) A (eval a env) (λi s₂=>s₂.TypeIs o T/\wpAny (model prog w) A (getItem o i) Q E s₂) E s₁) E s):
  wpAny (model prog w) A (eval (.Subscript b a pos) env) Q E s:=by
 refine Subscript_ (B76 h (λo s₁ j=>B76 j (λi s₂ d=>?_) λ_ _ x=>x) λ_ _ x=>x);obtain⟨f,d⟩:=d;unfold subscriptTail;refine B62 ?_;rw[getitemInPython_of_ne f.not_modules];refine B62 (wpAny_specialOf f g ?_);have c:wpAny (model prog w) A (subscripted a false o i) (λr e=>wpAny (model prog w) A (letTemporaryGo b o r >>= λ_=>pure r) Q E e) E s₂:=by
  rw[hs o i];exact wpAny_operating (B76 d (λr e k=>B62 (wpAny_letTemporaryGo (B63 k))) λ_ _ x=>x)
 first
  |exact B63 (B62 c)
  |exact B62 (B63 (B62 c))
  |exact B62 c
theorem qQK {X:Cx} {Ab:List (Addr×Obj)} {σ:St} {H:Hp} {s:Shared} {a:Addr} {y:V} {o:Option V} (I:Inv X Ab σ H s) (g:DGet H a y o):s.TypeIs (.ref a) "dict":=by
 rcases g with⟨d,k,e,_,_⟩|⟨d,k,b,e,_,_,_⟩
 ·obtain⟨_,_,f,_,c⟩:=qWB I.hok e;exact c.typeIs
 ·obtain⟨_,_,h,_,c⟩:=qWA I.hok e;exact c.typeIs
def qe1 (td ty:TE):TE:=λσ H Q=>td σ H λx H1=>ty σ H1 λy H2=>∃a v,x=.ref a/\DGet H2 a y (some v)/\Q v H2
def tDIn (ty td:TE):TE:=λσ H Q=>ty σ H λy H1=>td σ H1 λx H2=>∃a o,x=.ref a/\DGet H2 a y o/\Q (.bl o.isSome) H2
def qa0 (ty td:TE):TE:=λσ H Q=>ty σ H λy H1=>td σ H1 λx H2=>∃a o,x=.ref a/\DGet H2 a y o/\Q (.bl (!o.isSome)) H2
def qe4 (td ty tv:TE):TS:=λD σ H=>tv σ H λv H1=>td σ H1 λx H2=>ty σ H2 λy H3=>∃a H4,x=.ref a/\DPut H3 a y v H4/\D.nx σ H4
section
variable{X:Cx}{o i e value:Expr}{pos pos' tpos:Pos}{td ty tv:TE}
theorem qDK (f:X.A.units+1<cLine)(d:PE X o td)(hi:PE X i ty)(hs:NoSl i):PE X (.Subscript o i pos) (qe1 td ty):=by
 intro c s σ H Q I h;refine qa1 PySem.F.slot_dict_getitem.lookup hs (thn (d c s σ H _ I h) λu s1 ⟨x,H1,I1,rx,q1⟩=>thn (hi c s1 σ H1 _ I1 q1) λiv s2 ⟨y,H2,I2,ry,a,v,ex,g,q2⟩=>?_);subst ex;obtain rfl:u=E1 a:=rx;exact⟨qQK I2 g,qWI f I2 g ry λk j e b=>⟨v,H2,e,b,q2⟩⟩
theorem qUR (e:X.A.units+1<cLine)(hi:PE X i ty)(c:PE X o td):PC X .In i o (tDIn ty td):=by
 intro b s σ H Q I h;refine thn (hi b s σ H _ I h) λiv s1 ⟨y,H1,I1,ry,q1⟩=>thn (c b s1 σ H1 _ I1 q1) λu s2 ⟨x,H2,I2,rx,a,ov,ex,g,q2⟩=>?_;subst ex;obtain rfl:u=E1 a:=rx;exact d_in e I2 g ry λf d=>⟨.bl ov.isSome,H2,d,rfl,q2⟩
theorem qD3 (e:X.A.units+1<cLine)(hi:PE X i ty)(c:PE X o td):PC X .NotIn i o (qa0 ty td):=by
 intro b s σ H Q I h;refine thn (hi b s σ H _ I h) λiv s1 ⟨y,H1,I1,ry,q1⟩=>thn (c b s1 σ H1 _ I1 q1) λu s2 ⟨x,H2,I2,rx,a,ov,ex,g,q2⟩=>?_;subst ex;obtain rfl:u=E1 a:=rx;exact qbC e I2 g ry λf d=>⟨.bl (!ov.isSome),H2,d,rfl,q2⟩
theorem qEN (f:X.A.units+1<cLine)(d:PE X o td)(hi:PE X i ty)(e:PE X value tv)(hs:swapsWith value (some (.Subscript o i pos')) pos.line X.env=pure false):
  PS X (.Assign [.Subscript o i pos'] value pos) (qe4 td ty tv):=by
 intro b s σ H D I h;refine wpAny_Assign_Subscript (thn (e b s σ H _ I h) λr s1 ⟨v,H1,I1,rv,q1⟩=>thn (d b s1 σ H1 _ I1 q1) λu s2 ⟨x,H2,I2,rx,q2⟩=>thn (hi b s2 σ H2 _ I2 q2) λiv s3 ⟨y,H3,I3,ry,a,H4,ex,g,q3⟩=>?_) hs;subst ex;obtain rfl:u=E1 a:=rx;exact qWH f I3 g ry rv λj c=>⟨σ,H4,c,q3⟩
end
theorem qS4 {P:B66} {w:World} {H:Hp} (h:Heap) (a:B88<h.objs.size):ObjOk P w H (h.push {cls:=.type "dict",data:=.dict #[]}) h.objs.size (.dK []):=
 ⟨F3 _,beq_eq_false_iff_ne.mpr (J8 (C6 a)),[],.nil,Heap.DictOf.new h⟩
theorem qS3 {P:B66} {w:World} {H:Hp} (h:Heap) (a:B88<h.objs.size):ObjOk P w H (h.push {cls:=.type "dict",data:=.dict #[]}) h.objs.size (.dT []):=
 ⟨F3 _,beq_eq_false_iff_ne.mpr (J8 (C6 a)),[],.nil,_,#[],0,B5 _ rfl,⟨rfl,rfl,rfl⟩,rfl,rfl,List.nodup_nil⟩
def qbZ:TE:=λ_ H Q=>∀p,H p=none->Q (.ref p) (Ag H p (.dK []))
def qbY:TE:=λ_ H Q=>∀p,H p=none->Q (.ref p) (Ag H p (.dT []))
section
variable{X:Cx}{pos:Pos}
theorem qML:PE X (.Dict [] [] pos) qbZ:=λb s σ H Q I h=>
 wpAny_Dict_empty ⟨.ref s.heap.objs.size,_,I.laid (a:=s.heap.objs.size) (o:=.dK []) (t':=s.toks) (λ_ _ q=>A5 _ q) (A7 _) (qS4 s.heap I.big),rfl,h _ (I.hok.fresh (A7 _))⟩
theorem qXW:PE X (.Dict [] [] pos) qbY:=λb s σ H Q I h=>
 wpAny_Dict_empty ⟨.ref s.heap.objs.size,_,I.laid (a:=s.heap.objs.size) (o:=.dT []) (t':=s.toks) (λ_ _ q=>A5 _ q) (A7 _) (qS3 s.heap I.big),rfl,h _ (I.hok.fresh (A7 _))⟩
end
def qTT:List (TE×TE)->St->Hp->(List (V×V)->Hp->Prop)->Prop
 |[],_,H,Q=>Q [] H
 |(tk,tv)::r,σ,H,Q=>tk σ H λx H1=>tv σ H1 λy H2=>qTT r σ H2 λps H3=>Q ((x,y)::ps) H3
abbrev VV:List (V×V)->List (Value×Value)->Prop:=Paired λp q=>RelV p.1 q.1/\RelV p.2 q.2
def PPs (X:Cx)(pos:Pos)(keys:List (Option Expr))(values:List Expr)(trs:List (TE×TE)):Prop:=
 ∀(Ab:List (Addr×Obj)) (s:Shared) (σ:St) (H:Hp) (Q:List (V×V)->Hp->Prop),Inv X Ab σ H s->qTT trs σ H Q->
  wpAny (model X.prog X.w) X.A (evalPairs (pairTrees keys values X.env pos)) (λvs s'=>∃ps H',Inv X Ab σ H' s'/\VV ps vs/\Q ps H') X.xe s
theorem qUF {X:Cx}{pos:Pos}:PPs X pos [] [] []:=λa s σ H Q I h=>pairTrees_nil_walk ⟨[],H,I,.nil,h⟩
theorem qMI {X:Cx}{pos:Pos}{k v:Expr}{ks:List (Option Expr)}{vs:List Expr}{tk d:TE}{a:List (TE×TE)}(i:PE X k tk)(g:PE X v d)(f:PPs X pos ks vs a):
  PPs X pos (some k::ks) (v::vs) ((tk,d)::a):=λc s σ H Q I h=>
 pairTrees_cons_walk (thn (i c s σ H _ I h) fun u s1 ⟨x,H1,I1,rx,q1⟩=>thn (g c s1 σ H1 _ I1 q1) fun w2 s2 ⟨y,H2,I2,ry,q2⟩=>
  thn (f c s2 σ H2 _ I2 q2) λws s3 ⟨ps,H3,I3,rel,q3⟩=>⟨(x,y)::ps,H3,I3,.cons ⟨rx,ry⟩ rel,q3⟩)
noncomputable def qG8 (Af more:List (Key×V)):List (Key×V):=more.foldl (λb e=>putK b e.1 e.2) Af
theorem KV.merge:∀{more:List (Key×V)} {rs:List (Key×Value)} {Af:List (Key×V)} {vs:List (Key×Value)},KV more rs->KV Af vs->KV (qG8 Af more) (merged vs rs):=by
 intro more rs Af vs r;unfold KV at r
 induction r generalizing Af vs with
 |nil=>intro q;exact q
 |@cons p q ps qs h t ih=>
  intro a;have e:KV (putK Af p.1 p.2) (stored vs q.1 q.2):=by
   have:=a.put p.1 h.2;rw[<- h.1];exact this
  exact ih e
theorem qH2:∀(more Af:List (Key×V)),(qG8 Af more).length<=Af.length+more.length
 |[],Af=>by show Af.length<=Af.length+0;lia
 |p::r,Af=>by
  have h1:=qH2 r (putK Af p.1 p.2);have h2:=qCR Af p.1 p.2;show(qG8 (putK Af p.1 p.2) r).length<=_;rw[D3];lia
theorem qLS {P:B66}{w:World}:∀{Af:List (Key×V)} {ws:List (Value×Value)},VV (Af.map λkv=>(kV kv.1,kv.2)) ws->∃rs,Carries (qBM P w) ws rs/\KV Af rs
 |[],_,r=>by rw[t9] at r;cases r;exact⟨[],V3,.nil⟩
 |p::Af,_,r=>by
  rw[C7] at r;cases r with
  |@cons a b as bs h t=>
   obtain⟨rs,c,q⟩:=qLS (P:=P) (w:=w) t;obtain⟨b1,b2⟩:=b;exact⟨(p.1,b2)::rs,⟨qT7 h.1,rfl,c⟩,.cons ⟨rfl,h.2⟩ q⟩
def qe0 (trs:List (TE×TE)):TE:=λσ H Q=>∀p,H p=none->qTT trs σ (Ag H p (.dK [])) λps H2=>H2 p=some (.dK [])/\∃Af:List (Key×V),ps=Af.map (λkv=>(kV kv.1,kv.2))/\Af.length<=15/\Q (.ref p) (Ag H2 p (.dK (qG8 [] Af)))
theorem qUQ {X:Cx}{pos:Pos}{b:List (Option Expr)}{d:List Expr}{f:List (TE×TE)}(h:PPs X pos b d f)(g:b.all (·.isSome)=true)(n:b.length=d.length)(m:b≠[])
  (j:b.length<=15):PE X (.Dict b d pos) (qe0 f):=by
 intro y s σ H Q I q;have hn:=I.hok.fresh (A7 s.heap.objs.size);have I1:=I.laid (a:=s.heap.objs.size) (o:=.dK []) (h':=s.heap.push {cls:=.type "dict",data:=.dict #[]}) (t':=s.toks) (λ_ _ q=>A5 _ q) (A7 _) (qS4 s.heap I.big);refine wpAny_Dict_walk (knd:=qBM X.prog X.w) g n m j (thn (h y _ σ _ _ I1 (q _ hn)) λws s2 ⟨ps,H2,I2,rel,e,Af,ep,lk,q2⟩=>?_);subst ep;obtain⟨t,c,v⟩:=qLS (P:=X.prog) (w:=X.w) rel;obtain⟨z,k,a0,r0,x⟩:=qbA I2.hok e;cases r0;refine⟨t,c,x,λh' i r=>⟨.ref s.heap.objs.size,_,?_,rfl,q2⟩⟩;have u:(qG8 [] Af).length<=B64:=by
  have l:=qH2 Af [];rw[O9] at l;rw[B77];lia
 have p:∃q,h'.get? s.heap.objs.size=some q:=let⟨q,_,_,hq,_⟩:=i;⟨q,hq⟩
 exact qN7 I2 (by rw[e];exact V3) r p (qZN u k (v.merge .nil) i)
structure M1 (X:Cx)(o:Expr)(m:Str)(apos:Pos)(e:Expr)(cpos:Pos):Prop where
 base:C30 o m X.env (eval o X.env)=eval o X.env
 few:((backTo cpos (B69 [e] X.env)).all (fun x=>!x.1) && (backToKw cpos (C27 [] X.env)).all (fun x=>x.1.isSome)
  && decide (([e]:List Expr).length+([]:List C22).length+(if([]:List C22).isEmpty then 0 else 1)<30))=true
 line:(apos.endLine==cpos.line)=true
 trees:backTo cpos (B69 [e] X.env)=[(false,eval e X.env)]
structure M2 (X:Cx)(o:Expr)(m:Str)(apos:Pos)(e f:Expr)(cpos:Pos):Prop where
 base:C30 o m X.env (eval o X.env)=eval o X.env
 few:((backTo cpos (B69 [e,f] X.env)).all (fun x=>!x.1) && (backToKw cpos (C27 [] X.env)).all (fun x=>x.1.isSome)
  && decide (([e,f]:List Expr).length+([]:List C22).length+(if([]:List C22).isEmpty then 0 else 1)<30))=true
 line:(apos.endLine==cpos.line)=true
 trees:backTo cpos (B69 [e,f] X.env)=[(false,eval e X.env),(false,eval f X.env)]
section
variable{X:Cx}{Ab:List (Addr×Obj)}{σ:St}{H:Hp}{s:Shared}{a:Addr}{y d:V}{u r:Value}{o:Option V}{A:Around}{E:Value->Shared->Prop}
end
section
variable{X:Cx}{o e f:Expr}{apos cpos:Pos}{td ty tx:TE}
end
section
variable{X:Cx}{Ab:List (Addr×Obj)}{σ:St}{H:Hp}{s:Shared}{a:Addr}{Af:List (Key×V)}{A:Around}{E:Value->Shared->Prop}
end
section
variable{X:Cx}{Ab:List (Addr×Obj)}{σ:St}{H:Hp}{s:Shared}{a:Addr}{y:V}{u:Value}{A:Around}{E:Value->Shared->Prop}
end
section
variable{X:Cx}
end
section
variable{κ:Type}[DecidableEq κ]
theorem qGD:∀{l:List κ} {k:κ},l.Nodup->¬k∈l->(l++[k]).Nodup
 |[],k,_,_=>by simp
 |a::r,k,h,hk=>by
  obtain⟨h1,h2⟩:=L9.mp h;show(a::(r++[k])).Nodup;refine L9.mpr ⟨λm=>?_,qGD h2 λm=>hk (B6.mpr (A05 m))⟩;rcases A8.mp m with q|q
  ·exact h1 q
  ·exact hk (B6.mpr (E8 (A6.mp q).symm))
end
def noX:Value->Shared->Prop:=λ_ _=>False
noncomputable def qHF (env:Env):List (Str×C13)->List (Str×Addr)->List (Str×Addr)
 |[],acc=>acc
 |(n,k)::r,acc=>qHF env r (if(k==L0)=true then(n,(env.cells.lookup n).getD 0)::acc else acc)
theorem qFJ {env:Env}:∀{names:List (Str×C13)} {acc:List (Str×Addr)},(∀x,(x,L0)∈names->∃c,env.cells.lookup x=some c)->(∀x c,acc.lookup x=some c->env.cells.lookup x=some c)->
  ∀x c,(qHF env names acc).lookup x=some c->env.cells.lookup x=some c
 |[],acc,_,ha,x,c,h=>ha x c h
 |(n,k)::r,acc,hf,ha,x,c,h=>by
  refine qFJ (names:=r) (λy hy=>hf y (B3 _ hy)) (λy d hd=>?_) x c h
  split at hd
  ·rename_i hk
   have hk':k=L0:=by simpa using hk
   subst hk';obtain⟨e,he⟩:=hf n D8;by_cases hyn:y=n
   ·subst hyn;rw[Q6,he] at hd;rw[he];exact hd
   ·rw[Z0,beq_eq_false_iff_ne.mpr hyn] at hd;exact ha y d hd
  ·exact ha y d hd
theorem qFK {env:Env}:∀{names:List (Str×C13)} {acc:List (Str×Addr)} {x:Str},((x,L0)∈names\/∃c,acc.lookup x=some c)->∃c,(qHF env names acc).lookup x=some c
 |[],acc,x,h=>by
  rcases h with h|h
  ·exact absurd h (by simp)
  ·exact h
 |(n,k)::r,acc,x,h=>by
  refine qFK (names:=r) ?_;rcases h with h|⟨c,h⟩
  ·rcases B6.mp h with e|h
   ·cases e;refine .inr ⟨(env.cells.lookup n).getD 0,?_⟩;rw[if_pos (by rfl),Q6]
   ·exact .inl h
  ·refine .inr ?_
   split
   ·by_cases hyn:x=n
    ·subst hyn;exact⟨_,Q6⟩
    ·refine⟨c,?_⟩;rw[Z0,beq_eq_false_iff_ne.mpr hyn];exact h
   ·exact⟨c,h⟩
theorem qKH {env:Env}(f:Str×C13->List (Str×Addr)->Sem (ForInStep (List (Str×Addr))))
  (hf:∀n k c,f (n,k) c=(if(k==L0)=true then(do let a <- cellOf env n;pure (P0 ((n,a)::c))) else pure (P0 c))):
  ∀(names:List (Str×C13)) (acc:List (Str×Addr)),(∀x,(x,L0)∈names->∃c,env.cells.lookup x=some c)->forIn names acc f=(pure (qHF env names acc):Sem _)
 |[],acc,_=>rfl
 |(n,k)::r,acc,h=>by
  have ih:=λacc=>qKH f hf r acc λx hx=>h x (B3 _ hx);rw[B19,hf];by_cases hk:(k==L0)=true
  ·have hk':k=L0:=by simpa using hk
   subst hk';obtain⟨c,hc⟩:=h n D8;rw[if_pos hk];unfold cellOf qHF;rw[hc,if_pos hk];exact ih _
  ·rw[if_neg hk];unfold qHF;rw[if_neg hk];exact ih _
theorem qI2 {a:Scope}{env:Env}(h:∀x,(x,L0)∈a.names->∃c,env.cells.lookup x=some c):closureFor a env=pure (qHF env a.names []):=by
 unfold closureFor;dsimp only;rw[qKH (env:=env) _ (λn k c=>?_) a.names [] h]
 ·rfl
 ·rfl
theorem qE2 {env:Env}{x:Str}:∀{names:List (Str×C13)},
  (names.map λ(n,k)=>if(k==L0&&env.scope.kind == .function&&env.kindOf n==some .cell)=true then(n,B43) else(n,k)).lookup x =
   (names.lookup x).map λk=>if(k==L0&&env.scope.kind == .function&&env.kindOf x==some .cell)=true then B43 else k
 |[]=>rfl
 |(n,k)::r=>by
  have ih:=@qE2 env x r;rw[C7];by_cases hx:x=n
  ·subst hx;dsimp only;rw[Q6 (b:=k),T4]
   split
   ·rw[Q6]
   ·rw[Q6]
  ·have hb:(x==n)=false:=beq_eq_false_iff_ne.mpr hx;dsimp only;rw[Z0 (k:=n) (b:=k),hb];dsimp only;rw[<- ih]
   split
   ·rw[Z0,hb]
   ·rw[Z0,hb]
structure LcZ where
 L:Addr
 cl:List (Str×Addr)
 ex:List Addr
 s₀:Shared
 H₀:Hp
noncomputable def lcCx (X:Cx)(scope:Scope)(own:List Str)(fv:List Nat)(z:LcZ):Cx where
 prog:=X.prog
 w:=X.w
 K:=X.K
 mg:=X.mg
 base:=X.base
 A:=X.A
 N:=own++fv.map λi=>X.N.getD i R6
 s₀:=z.s₀
 H₀:=z.H₀
 env:=compEnvC scope z.cl z.L X.env
 outer:=X.stack
 stack:=X.stack
 ex:=z.ex
 fn:=λ_=>false
 calm:=X.calm
 pn:=[]
 xe:=noX
structure LcScope (X:Cx)(scope:Scope)(own:List Str)(fv:List Nat):Prop where
 kind:scope.kind=.function
 nocell:∀y∈scope.names,y.2≠.cell
 names:∀y∈scope.names,y.2=.local->scope.names.lookup y.1=some .local
 free:∀y∈scope.names,y.2=.free->X.env.kindOf y.1=some .cell\/X.env.kindOf y.1=some .free
 nd:(own++fv.map λi=>X.N.getD i R6).Nodup
 fvs:∀i∈fv,i<X.N.length/\scope.names.lookup (X.N.getD i R6)=some .free
noncomputable def qJZ (own:List Str)(fv:List Nat)(σ:St):St:=(own.map λ_=>none)++fv.map λi=>(σ[i]?).join
theorem qOY {prog:B66}{w:World}{A:Around}{R:Result->Shared->Prop}{s:Shared}{g a e:Expr}{f:List Expr}{d:Scope}{pos:Pos}{j acc:Value}{env:Env}(I:Nat->Shared->Prop)
  (i:∀ n s,I n s->wpAny (model prog w) A (pyNext j) (fun r s₁=>match r with
   |none=>R (.ok .next) s₁
   | some v=>wpAny (model prog w) A (C38 a j v) (fun _ s₁=>wpAny (model prog w) A (assign a env v) (fun _ s₂=>
     wpAny (model prog w) A (forIn f true fun c r=>if r=true then do let ok <- isTrue c env (eval c env);pure (P0 ok) else pure (P0 r)) (fun ok s₃=>
      if ok=true then wpAny (model prog w) A (eval g env) (fun x s₄=>
       wpAny (model prog w) A (call (.builtin "list.append") [acc,x]) (λ_ s₅=>∃m,m<n/\I m s₅) noX s₄) noX s₃
      else∃m,m<n/\I m s₃) noX s₂) noX s₁) noX s₁) noX s)
  (n:Nat) (h:I n s):
  B97 (model prog w) A (.compLoop (.ListComp g [⟨a,e,f,0⟩] d pos) 0 j acc env) R s:=by
 refine codeAny_loop rfl I (λn s p=>?_) n h;show wpAny _ A ((compTurn (.ListComp g [⟨a,e,f,0⟩] d pos) 0 j acc env).onRaise (λx=>do noteFrame x env;theTreesLotGoes x)) _ _ s
 refine wpAny_noted ?_;rw[compTurn_list];refine B62 (C29 (B62 (B76 (i n s p) (λr s₁ k=>?_) λ_ _ b=>b.elim)));cases r with
 |none=>exact B63 k
 |some v=>
  refine B62 (B76 k (λ_ s₁ k=>?_) λ_ _ b=>b.elim);refine B62 (B76 k (λ_ s₂ q=>B62 (B76 q (λok s₃ l=>?_) λ_ _ b=>b.elim)) λ_ _ b=>b.elim);cases ok with
  |false=>exact B63 ⟨rfl,l⟩
  |true=>
   exact B62 (B62 (B76 l (λx s₄ o=>B62 (B76 o (λ_ s₅ t=>B63 (B63 ⟨rfl,t⟩)) λ_ _ b=>b.elim)) λ_ _ b=>b.elim))
section
variable{X:Cx}{Ab:List (Addr×Obj)}{σ:St}{H:Hp}{s:Shared}
theorem Inv.other {h':Heap}{L:Addr}{n:Nat}(I:Inv X Ab σ H s)(a:X.s₀.heap.objs.size<=L)(d:H L=none)(g:L≠X.env.locals)(h:∀x c,X.env.cells.lookup x=some c->c≠L)(f:∀p∈X.pn++Ab,p.1≠L)
  (k:Heap.SameBut L s.heap h'):Inv X Ab σ H {s with heap:=h'}:=
 I.turned (t':=s.toks) (λb o a e=>(k.2 b a).trans e) d g (.inr a) h f
theorem qcW {a:Scope}{own:List Str}{fv:List Nat}{j:List Addr}(I:Inv X Ab σ H s)(S:LcScope X a own fv)(i:∀b∈j,FpOk X Ab H b)(hsz:∀b∈j,b<s.heap.objs.size):
  (lcCx X a own fv ⟨s.heap.objs.size,qHF X.env a.names [],j,s,H⟩).Ok:=by
 have m:∀x,(x,L0)∈a.names->∃c,X.env.cells.lookup x=some c:=λx h=>I.ok.has x (S.free _ h rfl);have f:=qFJ (env:=X.env) (names:=a.names) (acc:=[]) m (λx c z=>by simp at z)
 refine⟨I.ok.mod,S.kind,I.ok.glob,I.ok.blt,A7 _,λx y c p r=>I.ok.inj x y c (f _ _ p) (f _ _ r),λx h=>?_,λx c h=>?_,I.ok.hd,I.ok.frames,.inl rfl,λb g=>⟨?_,λx c e=>?_⟩,I.bs,F5 I.ok.bsz I.sz,λb o e g=>?_,λb g l=>?_,I.stack,I.stkFree⟩
 ·refine qFK (.inl ?_);have d:(relabel a X.env).names.lookup x=some .cell\/(relabel a X.env).names.lookup x=some .free:=h;unfold relabel at d;rw[qE2] at d;cases e:a.names.lookup x with
  |none=>rw[e] at d;simp at d
  |some k=>
   have n:=K9 e;have q:=S.nocell _ n;rw[e] at d;simp only[T4,Option.some.injEq] at d;cases k with
   |free=>exact n
   |cell=>exact absurd rfl q
   |_=>simp at d
 ·cases h
 ·exact C6 (hsz b g)
 ·exact(i b g).2.2.2.2.1 x c (f _ _ e)
 ·rcases(i b g).2.2.2.1 with z|z
  ·exact I.ok.noex b o e z
  ·exact absurd (E3 (B7 (I.ok.bs b o e).1) z) (R9 _)
 ·rcases B6.mp (I.stkSub b l) with z|z
  ·exact(i b g).2.1 z
  ·exact(i b g).2.2.1 z
theorem qY8 {a:Scope}{own:List Str}{fv:List Nat}{fp:List Addr}{h₁:Heap}{tk:Nat}(I:Inv X Ab σ H s)(S:LcScope X a own fv)(hf:∀b∈fp,FpOk X Ab H b)(hsz:∀b∈fp,b<s.heap.objs.size)
  (a0:h₁.Ns s.heap.objs.size (λ_=>none)) (t:∀b o,s.heap.get? b=some o->h₁.get? b=some o):
  Inv (lcCx X a own fv ⟨s.heap.objs.size,qHF X.env a.names [],fp,s,H⟩) [] (qJZ own fv σ) H {s with heap:=h₁,toks:=tk}:=by
 have a1:∀x,(x,L0)∈a.names->∃c,X.env.cells.lookup x=some c:=λx hx=>I.ok.has x (S.free _ hx rfl);have h:=qFJ (env:=X.env) (names:=a.names) (acc:=[]) a1 (λx c z=>by simp at z)
 refine⟨qcW I S hf hsz,rfl,I.bare,Un.kept t,⟨_,a0,λi x v f d h3=>?_⟩,λx c e=>?_,I.hok.fresh (A7 _),λx c e=>I.freeC x c (h _ _ e),λp hp=>absurd (show p∈([]:List (Addr×Obj)) from hp) (by simp),I.hok.kept t,?_⟩
 ·have f:(own++fv.map λi=>X.N.getD i R6)[i]?=some x:=f;unfold qJZ at d;have r:own.length<=i:=by
   apply Y9;intro r;rw[J2 (by simpa using r),B9] at d
   cases e:own[i]? with
   |none=>rw[e] at d;cases d
   |some z=>rw[e] at d;cases d
  rw[G1 (by simpa using r),A0,B9] at d
  rw[G1 r,B9] at f;cases e:fv[i-own.length]? with
  |none=>rw[e] at f;cases f
  |some j=>
   rw[e] at f d;have hj:=S.fvs j (A9 e);have f:X.N.getD j R6=x:=D5 f;have d:(σ[j]?).join=some v:=D5 d;have a2:σ[j]?=some (some v):=by
    cases q:σ[j]? with
    |none=>rw[q] at d;cases d
    |some y=>rw[q] at d;exact congrArg some d
   have hx:X.N[j]?=some x:=by
    rw[U2] at f;rw[A4 hj.1] at f ⊢;exact congrArg some f
   have k:a.names.lookup x=some .free:=f ▸ hj.2;have g:=K9 k;obtain ⟨m,hn,hl⟩:=id I.loc;have l:=S.free _ g rfl;obtain ⟨u,ru,lk⟩:=hl j x v hx a2 (by
    rcases l with z|z
    ·exact .inr (.inl z)
    ·exact .inr (.inr z))
   refine⟨u,ru,?_⟩;rcases lk with⟨z,_⟩|⟨_,c,e1,z⟩
   ·rcases l with y|y
    ·have n:X.env.kindOf x=some .cell:=y;rw[z] at n;cases n
    ·have n:X.env.kindOf x=some .free:=y;rw[z] at n;cases n
   ·obtain⟨c',e2⟩:=qFK (env:=X.env) (names:=a.names) (acc:=[]) (x:=x) (.inl g);have e3:=h _ _ e2;rw[e1] at e3;cases e3;obtain⟨o,ho,w⟩:=z;refine .inr ⟨?_,c,e2,o,t _ _ ho,w⟩;show(relabel a X.env).names.lookup x=some .cell\/(relabel a X.env).names.lookup x=some .free;unfold relabel;rw[qE2,k,T4]
    split
    ·exact .inl rfl
    ·exact .inr rfl
 ·obtain⟨v,o,ho,w⟩:=I.cell x c (h _ _ e);exact⟨v,o,t _ _ ho,w⟩
 ·unfold qJZ;show _=(own++fv.map λi=>X.N.getD i R6).length;rw[B0,B0,A0,A0,A0]
theorem qaU {a:Scope}{own:List Str}{fv:List Nat}{f:List Addr}{c:List (Addr×Obj)}{σ':St}{H':Hp}{g:Shared}{h:List (Str×Addr)}(I:Inv X Ab σ H s)(d:∀b∈f,FpOk X Ab H b)
  (J:Inv (lcCx X a own fv ⟨s.heap.objs.size,h,f,s,H⟩) c σ' H' g):Inv X Ab σ H' g:=
 I.call' (ch:=f) J.os J.base J.hok J.bare λb e=>⟨(d b e).2.2.2.1,(d b e).2.1,(d b e).2.2.2.2.1,(d b e).2.2.2.2.2⟩
end
def PTs (X:Cx)(ifs:List Expr)(t:TT):Prop:=
 ∀(Ab:List (Addr×Obj)) (s:Shared) (σ:St) (H:Hp) (Q:Bool->Hp->Prop),Inv X Ab σ H s->t σ H Q->
  wpAny (model X.prog X.w) X.A (forIn ifs true λc r=>if r=true then do let ok <- isTrue c X.env (eval c X.env);pure (P0 ok) else pure (P0 r)) (TP X Ab σ Q) X.xe s
def qdS:TT:=λ_ H Q=>Q true H
theorem qB0 {X:Cx}:PTs X [] qdS:=λa s σ H Q I h=>wpAny_tests_nil ⟨H,I,h⟩
theorem qDJ {X:Cx}{c:Expr}{t:TT}(h:PT X c t):PTs X [c] t:=λa s σ H Q I b=>wpAny_tests_one (h a s σ H Q I b)
def qcX (own:List Str)(fv:List Nat)(wi:TI)(g:TG)(tc:TT)(te:TE)(K:Addr->Hp->Prop):St->Hp->Prop:=λσ H=>wi σ H λJ H1=>∀p,H1 p=none->
 ∃W:Nat->Nat->St->Hp->Prop,(∃m,W 0 m (qJZ own fv σ) (Ag H1 p (.lst [])))/\∀i m σ H,W i m σ H->
  (J.stop i H/\K p H)\/(J.go i H/\∃ N:St->Hp->Prop,(∀ σ' H',N σ' H'->∃ m',m'<m/\W (i+1) m' σ' H')/\∀ x H',J.yld i H x H'->g x σ H' fun σ2 H2=>tc σ2 H2 fun b H3=>
   if b=true then te σ2 H3 λy H4=>∃ys,H4 p=some (.lst ys)/\ys.length<B64/\N σ2 (Ag H4 p (.lst (ys++[y])))
   else N σ2 H3)
def tLc (own:List Str)(fv:List Nat)(wi:TI)(g:TG)(tc:TT)(te:TE):TE:=λσ H Q=>qcX own fv wi g tc te (λp H'=>Q (.ref p) H') σ H
section
variable{X:Cx}{tg iter elt:Expr}{ifs:List Expr}{scope:Scope}{pos:Pos}{own:List Str}{fv:List Nat}{wi:TI}{g:TG}{tc:TT}{te:TE}
theorem qV9 {Ab:List (Addr×Obj)}{s:Shared}{σ:St}{H:Hp}{K:Addr->Hp->Prop}{use:Option (Value->Sem Unit)}{Q:Value->Shared->Prop}{E:Value->Shared->Prop}(hc:X.calm=true)(S:LcScope X scope own fv)(hi:PI X tg iter wi)
  (hg:∀z,PG (lcCx X scope own fv z) tg g) (ht:∀z,PTs (lcCx X scope own fv z) ifs tc) (he:∀z,PE (lcCx X scope own fv z) elt te)
  (I:Inv X Ab σ H s) (h:qcX own fv wi g tc te K σ H) (af:∀e s,X.xe e s->E e s)
  (ak:∀ (p:Addr) (L:Addr) (H':Hp) (s':Shared) (m:Str->Option Value),Inv X Ab σ H' s'->K p H'->s'.heap.Ns L m->X.s₀.heap.objs.size<=L->H' L=none->L ≠ X.env.locals->(∀ x c,X.env.cells.lookup x=some c->c ≠ L)->(∀ q ∈ X.pn++Ab,q.1 ≠ L)->
   compPost (model X.prog X.w) X.A E use Q (.ref p) L (.ok .next) s') (hs:∀x,C24 iter X.env x=pure x:=by intro _;rfl):
  wpAny (model X.prog X.w) X.A (comprehension (.ListComp elt [⟨tg,iter,ifs,0⟩] scope pos) scope X.env (firstIterPos [⟨tg,iter,ifs,0⟩] pos) (newList []) false (eval iter X.env) use) Q E s:=by
 have al:∀x,(x,L0)∈scope.names->∃c,X.env.cells.lookup x=some c:=λx hx=>I.ok.has x (S.free _ hx rfl);refine wpAny_comprehension_free rfl hs (qI2 al) S.kind S.names (B76 (hi Ab s σ H _ I h) (λv s1 h1=>B76 h1 (λap j h2=>?_) af) af);obtain⟨it,k,tn,J,H2,e,I2,T,ac,f2,q2⟩:=h2;subst e
 -- the list
 refine B74 ?_;have a3:H2 j.heap.objs.size=none:=I2.hok.fresh (A7 _);have I3:Inv X Ab σ (Ag H2 j.heap.objs.size (.lst [])) {j with heap:=j.heap.push {cls:=.type "list",dict:=none,data:=.seq ([]:List Value).toArray}}:=
  I2.laid (t':=j.toks) (λb u e=>A5 _ e) (A7 _) ⟨F3 _,[],0,.nil,B5 _ rfl⟩
 obtain⟨W,⟨m0,w0⟩,ad⟩:=q2 j.heap.objs.size a3;have ah:∀b∈k,b<j.heap.objs.size:=λb a=>by
  obtain⟨o,e,_⟩:=T.obj 0 _ ac b a;exact B7 e
 have f3:∀b∈k,FpOk X Ab (Ag H2 j.heap.objs.size (.lst [])) b:=λb a=>⟨by rw[qA9 (C6 (ah b a))];exact(f2 b a).1,(f2 b a).2⟩
 generalize hp:j.heap.objs.size=p at *;generalize hH3:Ag H2 p (.lst [])=H3 at *;have ao:tn 0 (j.heap.push {cls:=.type "list",dict:=none,data:=.seq ([]:List Value).toArray}):=T.keep _ _ _ ac λb _ o e=>A5 _ e;have an:∀b∈k,b<(j.heap.push {cls:=.type "list",dict:=none,data:=.seq ([]:List Value).toArray}).objs.size:=λb a=>by
  rw[N9];have:=ah b a;rw[hp];exact L5 this
 generalize hs3:({j with heap:=j.heap.push {cls:=.type "list",dict:=none,data:=.seq ([]:List Value).toArray}}:Shared)=f at *;have a9:tn 0 f.heap:=by rw[<- hs3];exact ao
 have a6:∀b∈k,b<f.heap.objs.size:=by rw[<- hs3];exact an
 -- the block's frame
 refine wpAny_newFunctionEnv S.nocell (by intro y hy;simp at hy) (λh₁ aa ai=>?_) S.kind
 have a1:∀b o,f.heap.get? b=some o->h₁.get? b=some o:=λb o e=>ai.extBut b o (C6 (B7 e)) (A5 _ e);have J0:Inv (lcCx X scope own fv ⟨f.heap.objs.size,qHF X.env scope.names [],k,f,H3⟩) [] (qJZ own fv σ) H3 {f with heap:=h₁,toks:=f.toks+([]:List (Str×Value)).length}:=qY8 I3 S f3 a6 aa a1;have a7:=qcW I3 S f3 a6;generalize hz:(⟨f.heap.objs.size,qHF X.env scope.names [],k,f,H3⟩:LcZ)=z at *;have l:tn 0 h₁:=T.keep _ _ _ a9 λb _ o e=>a1 b o e;have a2:∀b∈k,H3 b=none:=λb a=>(f3 b a).1;have a0:∀{H':Hp},(∀b∈k,H' b=none)->∀b∈k,FpOk (lcCx X scope own fv z) [] H' b:=λhn b a=>by
  subst hz;refine⟨hn b a,(a7.exf b a).1,a7.exfs b a,.inl a,(a7.exf b a).2,λq hq=>absurd (show q∈([]:List (Addr×Obj)) from hq) (by simp)⟩
 have a8:({newEnv scope f.heap.objs.size X.env.globals (qHF X.env scope.names []) X.env.qual none .none (some X.env) C36 with scope:=relabel scope X.env}:Env)=(lcCx X scope own fv z).env:=by
  subst hz
  rfl
 have a5:∀sA:Shared,sA={f with heap:=h₁,toks:=f.toks+([]:List (Str×Value)).length}->B97 (model X.prog X.w) X.A (.compLoop (.ListComp elt [⟨tg,iter,ifs,0⟩] scope pos) 0 (.ref it) (.ref p) (lcCx X scope own fv z).env)
   (compPost (model X.prog X.w) X.A E use Q (.ref p) f.heap.objs.size) sA:=by
  rintro sA rfl;refine qOY (λn s'=>∃i σ' H',Inv (lcCx X scope own fv z) [] σ' H' s'/\tn i s'.heap/\(∀b∈k,H' b=none)/\W i n σ' H') ?_ m0 ⟨0,_,H3,J0,l,a2,w0⟩;rintro n s4 ⟨i,σ4,H4,I4,l,a2,w4⟩;rcases ad i n σ4 H4 w4 with⟨ab,qn⟩|⟨go,Nx,ag,ae⟩
  ·refine thn (T.done (lcCx X scope own fv z) rfl rfl rfl hc i [] s4 σ4 H4 noX I4 (a0 a2) l ab) λr s5 ⟨hr,I5⟩=>?_;subst hr;subst hz;have I6:Inv X Ab σ H4 s5:=qaU I3 f3 I5;obtain⟨m,hn,_⟩:=id I5.loc;have a4:=I3.fpOk (H':=H4) (b:=f.heap.objs.size) (A7 _) I5.free;refine ak p f.heap.objs.size H4 s5 m I6 qn hn I3.sz a4.1 a4.2.1 a4.2.2.2.2.1 a4.2.2.2.2.2
  ·refine thn (T.item (lcCx X scope own fv z) rfl rfl rfl hc i [] s4 σ4 H4 noX I4 (a0 a2) l go) λr s5 ⟨u,hr,h5⟩=>?_;subst hr;refine thn h5 λ_ s6 ⟨x,H6,I6,r6,y6,st6,fr6⟩=>?_;have aj:=I6.pinned (a0 fr6) (T.obj _ _ st6);have t:∀{σ7:St} {H7:Hp} {s7:Shared} {m':Nat},m'<n->Inv (lcCx X scope own fv z) ([]++qO4 k s6.heap) σ7 H7 s7->W (i+1) m' σ7 H7->
     ∃m,m<n/\∃i σ' H',Inv (lcCx X scope own fv z) [] σ' H' s7/\tn i s7.heap/\(∀b∈k,H' b=none)/\W i m σ' H':=λ{σ7 H7 s7 m'} hm I7 w7=>by
    refine⟨m',hm,i+1,σ7,H7,I7.unpinned,T.keep _ _ _ st6 λb a o e=>(I7.pin (b,o) (G2 _ (G2 _ (qFX a e)))).1,λb a=>?_,w7⟩;obtain⟨o,e,d⟩:=T.obj _ _ st6 b a;exact(I7.pin (b,o) (G2 _ (G2 _ (qFX a e)))).2.1
   refine thn (hg z _ s6 σ4 H6 x u _ aj r6 (ae x H6 y6)) λ_ s7 ⟨σ7,H7,I7,q7⟩=>?_;refine thn (ht z _ s7 σ7 H7 _ I7 q7) λb s8 ⟨H8,I8,q8⟩=>?_;cases b with
   |false=>
    obtain⟨m',hm,w8⟩:=ag _ _ q8;exact t hm I8 w8
   |true=>
    refine thn (he z _ s8 σ7 H8 _ I8 q8) λv s9 ⟨y,H9,I9,r9,ys,ep,hl,w9⟩=>?_;refine thn (qCK (X:=lcCx X scope own fv z) _ s9 σ7 H9 (.ref p) [y] (.ref p) [v] (λ_ H'=>Nx σ7 H') I9 rfl (.cons r9 .nil) ⟨p,ys,y,rfl,rfl,ep,hl,w9⟩) λ_ s10 ⟨_,H10,I10,_,q10⟩=>?_;obtain⟨m',hm,am⟩:=ag _ _ q10;exact t hm I10 am
 rw[a8];exact codeAny_compStart_list (a5 _ rfl) (T.self _ _ _ _ _ l (a5 _ rfl))
theorem qCJ (j:X.calm=true)(S:LcScope X scope own fv)(hi:PI X tg iter wi)(k:∀z,PG (lcCx X scope own fv z) tg g)(d:∀z,PTs (lcCx X scope own fv z) ifs tc)(e:∀z,PE (lcCx X scope own fv z) elt te)
  (hs:∀x,C24 iter X.env x=pure x:=by intro _;rfl):PE X (.ListComp elt [⟨tg,iter,ifs,0⟩] scope pos) (tLc own fv wi g tc te):=by
 intro v s σ H Q I h;rw[eval_ListComp];refine qV9 (use:=none) (K:=λp b=>Q (.ref p) b) j S hi k d e I h (λ_ _ q=>q) (λp L b w m r q o i t f c l=>?_) hs;exact⟨m,o,λu a=>⟨.ref p,b,r.other (n:=0) i t f c l a,rfl,q⟩⟩
theorem qMH {i:Nat}{x:Str}{b c:Pos}(hN:X.N.Nodup)(hx:X.N[i]?=some x)(o:X.env.scope.names.lookup x=some .local)(hc:X.calm=true)(S:LcScope X scope own fv)(hi:PI X tg iter wi)(w:∀z,PG (lcCx X scope own fv z) tg g)
  (ht:∀z,PTs (lcCx X scope own fv z) ifs tc) (he:∀z,PE (lcCx X scope own fv z) elt te) (d:swapsWith (.ListComp elt [⟨tg,iter,ifs,0⟩] scope pos) (some (.Name x b)) c.line X.env=pure true)
  (hs:∀x,C24 iter X.env x=pure x:=by intro _;rfl):PS X (.Assign [.Name x b] (.ListComp elt [⟨tg,iter,ifs,0⟩] scope pos) c) (tAsg (tLc own fv wi g tc te) (qVU i)):=by
 intro Ab s σ H D I h;rw[exec_Assign_Name_used _ _ _ _ d];refine B62 (C29 (B62 ?_));show wpAny _ X.A (do let _ <- comprehension (.ListComp elt [⟨tg,iter,ifs,0⟩] scope pos) scope X.env _ (newList []) false (eval iter X.env) (some (assign (.Name x b) X.env))) _ _ s
 refine B62 (B76 (qV9 (use:=some (assign (.Name x b) X.env)) (K:=fun p j=>D.nx (σ.set i (some (.ref p))) j) (Q:=fun _ f=>SP X Ab D .next f) (E:=X.xe) hc S hi w ht he I h (fun _ _ q=>q) (fun p L j f m I' q hn u h2 t r h5=>?_) hs)
  (λ_ f hq=>B63 (B63 hq)) λ_ _ e=>e)
 show wpAny _ X.A (assign (.Name x b) X.env (.ref p)) _ _ _;refine wpAny_assign_Name (qNP (v:=.ref p) I' hN hx (.inl o) rfl (λs2 I2 ⟨a,hsb,ha⟩=>?_) (.inr o));have l:L≠a:=by
  rcases ha with z|z
  ·rw[z];exact t
  ·exactλy=>r x a z y.symm
 exact⟨m,hn.sameBut hsb l,λh' k=>⟨_,j,I2.other (n:=0) u h2 t r h5 k,q⟩⟩
end
abbrev LcG (I:It)(g:TG)(tc:TT)(te:TE)(Kf:Hp->Prop)(σ0:St)(H0:Hp)(p:Addr):Prop:=∃W:Nat->Nat->St->Hp->Prop,(∃m,W 0 m σ0 H0)/\∀i m σ H,W i m σ H->(I.stop i H/\Kf H)\/(I.go i H/\∃N:St->Hp->Prop,(∀σ' H',N σ' H'->∃m',m'<m/\W (i+1) m' σ' H')/\∀x H',I.yld i H x H'->g x σ H' λσ2 H2=>tc σ2 H2 λb H3=>if b=true then te σ2 H3 λy H4=>∃ys,H4 p=some (.lst ys)/\ys.length<B64/\N σ2 (Ag H4 p (.lst (ys++[y]))) else N σ2 H3)
theorem qDV {lo:Int}{n:Nat}{g:TG}{d:TT}{c:TE}{Kf:Hp->Prop}{σ0:St}{H0:Hp}{p:Addr}(Pv:Nat->St->Hp->Prop)(h:Pv 0 σ0 H0)
  (hs:∀i σ H,i<n->Pv i σ H->g (.int (lo+i)) σ H λσ2 H2=>d σ2 H2 λb H3=>if b=true then c σ2 H3 λy H4=>∃ys,H4 p=some (.lst ys)/\ys.length<B64/\Pv (i+1) σ2 (Ag H4 p (.lst (ys++[y]))) else Pv (i+1) σ2 H3)
  (f:∀σ H,Pv n σ H->Kf H):
  LcG (Itr lo n) g d c Kf σ0 H0 p:=by
 refine⟨λi m σ H=>m=n-i/\i<=n/\Pv i σ H,⟨n,by simp,F3 _,h⟩,?_⟩
 rintro i m σ H ⟨rfl,hi,q⟩;by_cases a:i<n
 ·refine .inr ⟨a,Pv (i+1),λσ' k j=>⟨n-(i+1),by omega,rfl,a,j⟩,λx k y=>?_⟩
  obtain⟨e,y⟩:=y;subst e y;exact hs i σ _ a q
 ·have e:i=n:=by omega
  subst e;exact .inl ⟨A7 _,f σ H q⟩
theorem qE4 {K:PySem.W.Frag}{a:Addr}{xs:List V}{g:TG}{h:TT}{f:TE}{Kf:Hp->Prop}{σ0:St}{H0:Hp}{p:Addr}(Pv:Nat->St->Hp->Prop)(k:Pv 0 σ0 H0)(n:∀i σ H,i<=xs.length->Pv i σ H->SqL K H a xs)
  (hs:∀i x σ H,xs[i]?=some x->Pv i σ H->g x σ H λσ2 H2=>h σ2 H2 λb H3=>if b=true then f σ2 H3 λy H4=>∃ys,H4 p=some (.lst ys)/\ys.length<B64/\Pv (i+1) σ2 (Ag H4 p (.lst (ys++[y]))) else Pv (i+1) σ2 H3)
  (j:∀σ H,Pv xs.length σ H->Kf H):
  LcG (Itl K a) g h f Kf σ0 H0 p:=by
 refine⟨λi m σ H=>m=xs.length-i/\i<=xs.length/\Pv i σ H,⟨xs.length,by simp,F3 _,k⟩,?_⟩
 rintro i m σ H ⟨rfl,hi,q⟩;have d:=n i σ H hi q;by_cases c:i<xs.length
 ·refine .inr ⟨⟨xs,xs[i],d,by simp[c]⟩,Pv (i+1),λσ' o l=>⟨xs.length-(i+1),by omega,rfl,c,l⟩,λx o y=>?_⟩
  obtain⟨e,y⟩:=y;subst e;exact hs i x σ _ (y xs d) q
 ·have e:i=xs.length:=by omega
  subst e;exact .inl ⟨⟨xs,d,A7 _⟩,j σ H q⟩
theorem qCN {K:PySem.W.Frag}{a:Addr}{xs:List V}{g:TG}{h:TT}{f:TE}{Kf:Hp->Prop}{σ0:St}{H0:Hp}{p:Addr}(Pv:Nat->St->Hp->Prop)(k:Pv 0 σ0 H0)(n:∀i σ H,i<=xs.length->Pv i σ H->SqT K H a xs)
  (hs:∀i x σ H,xs[i]?=some x->Pv i σ H->g x σ H λσ2 H2=>h σ2 H2 λb H3=>if b=true then f σ2 H3 λy H4=>∃ys,H4 p=some (.lst ys)/\ys.length<B64/\Pv (i+1) σ2 (Ag H4 p (.lst (ys++[y]))) else Pv (i+1) σ2 H3)
  (j:∀σ H,Pv xs.length σ H->Kf H):
  LcG (Itt K a) g h f Kf σ0 H0 p:=by
 refine⟨λi m σ H=>m=xs.length-i/\i<=xs.length/\Pv i σ H,⟨xs.length,by simp,F3 _,k⟩,?_⟩
 rintro i m σ H ⟨rfl,hi,q⟩;have d:=n i σ H hi q;by_cases c:i<xs.length
 ·refine .inr ⟨⟨xs,xs[i],d,by simp[c]⟩,Pv (i+1),λσ' o l=>⟨xs.length-(i+1),by omega,rfl,c,l⟩,λx o y=>?_⟩
  obtain⟨e,y⟩:=y;subst e;exact hs i x σ _ (y xs d) q
 ·have e:i=xs.length:=by omega
  subst e;exact .inl ⟨⟨xs,d,A7 _⟩,j σ H q⟩
noncomputable def qVA (scope:Scope)(own:List Str)(fv:List Nat)(osc:Scope)(N:List Str):Bool:=
 decide (scope.kind=.function)&&scope.names.all (λy=>decide (y.2≠.cell))&&scope.names.all (λy=>decide (y.2≠.local)||decide (scope.names.lookup y.1=some .local)) &&
 scope.names.all (λy=>decide (y.2≠.free)||(decide (osc.names.lookup y.1=some .cell)||decide (osc.names.lookup y.1=some .free)))&&decide ((own++fv.map λi=>N.getD i R6).Nodup) &&
 fv.all λi=>decide (i<N.length)&&decide (scope.names.lookup (N.getD i R6)=some .free)
theorem lcs {X:Cx}{a:Scope}{own:List Str}{fv:List Nat}(h:qVA a own fv X.env.scope X.N=true):LcScope X a own fv:=by
 unfold qVA at h;simp only[P2,decide_eq_true_eq,J3,T6] at h;obtain⟨⟨⟨⟨⟨g,j⟩,d⟩,c⟩,i⟩,f⟩:=h;exact⟨g,j,λy b e=>(d y b).resolve_left λz=>z e,λy b e=>(c y b).resolve_left λz=>z e,i,f⟩
theorem qeF {N:List Str}(h:decide N.Nodup=true):N.Nodup:=of_decide_eq_true h
theorem qUK {X:Cx}{K:PySem.W.Frag}{es:List Expr}{k n:Nat}{t:TGs}{pos:Pos}(b:X.K=K)(d:X.calm=true)(h:PGs X es t)(c:(C12 es X.env).length=n)(a:(C12 es X.env).findIdx? (·.1)=none):PG X (.Tuple es k pos) (gTup K n t):=by
 subst b c;exact qL9 d h rfl a
theorem qPT {X:Cx}{K:PySem.W.Frag}{d l:Expr}{a:TE}(b:X.K=K)(c:PE X l a):PI X d l (iTup K a):=by subst b;exact qC7 c
theorem qHV {X:Cx}{K:PySem.W.Frag}(a:X.K=K):IxR X (rIxT K):=by subst a;exact qBI
theorem qYC {X:Cx}{K:PySem.W.Frag}(a:X.K=K):IxR X (rIxL K):=by subst a;exact qCS
theorem qIA {X:Cx}{K:PySem.W.Frag}(a:X.K=K):OpR X (B80 .In) (rIn K false):=by subst a;exact qGY
theorem qWQ {X:Cx} {K:PySem.W.Frag} (a:X.K=K):qCG X (.builtin "len") (λxs H Q=>∃p ys,xs=[.ref p]/\(SqL K H p ys\/SqT K H p ys)/\Q (.int ys.length) H):=by subst a;exact qAC
theorem qGL {X:Cx} {K:PySem.W.Frag} (a:X.K=K):qCG X (.type "tuple") (λxs H Q=>∃p ys,xs=[.ref p]/\((SqL K H p ys/\∀l,H l=none->Q (.ref l) (Ag H l (.tup ys)))\/(SqT K H p ys/\Q (.ref p) H))):=by subst a;exact qAH
theorem qNG {xs:Array Nat}{j:Nat}(up:∀a b,a<b->b<xs.size->xs.getD a j<xs.getD b j):∀(fuel lo hi:Nat),lo<=hi->hi<=xs.size->hi-lo<=fuel->(∀i,i<lo->xs.getD i j<j)->(∀i,hi<=i->i<xs.size->j<=xs.getD i j)->
  j6 xs j fuel lo hi<=xs.size/\(∀i,i<j6 xs j fuel lo hi->xs.getD i j<j)/\(∀i,j6 xs j fuel lo hi<=i->i<xs.size->j<=xs.getD i j)
 |0,lo,hi,h1,h2,h3,a,b=>by
  have e:lo=hi:=by lia
  subst e;exact⟨h2,a,b⟩
 |fuel+1,lo,hi,h1,h2,h3,a,b=>by
  unfold j6;by_cases hlt:lo<hi
  ·rw[if_pos hlt];dsimp only;have hm1:lo<=(lo+hi)/2:=by lia
   have hm2:(lo+hi)/2<hi:=by lia
   by_cases hc:xs.getD ((lo+hi)/2) j<j
   ·rw[if_pos hc];refine qNG up fuel _ _ (by lia) h2 (by lia) (λi hi'=>?_) b
    by_cases e:i=(lo+hi)/2
    ·rw[e];exact hc
    ·exact X3 (up i ((lo+hi)/2) (by lia) (by lia)) hc
   ·rw[if_neg hc];refine qNG up fuel _ _ (by lia) (by lia) (by lia) a (λi hi' hs=>?_)
    by_cases e:i=(lo+hi)/2
    ·rw[e];lia
    ·have:=up ((lo+hi)/2) i (by lia) hs
     lia
  ·rw[if_neg hlt];have e:lo=hi:=by lia
   subst e;exact⟨h2,a,b⟩
theorem qZV {xs:Array Nat}(j:Nat)(h:xs.toList.Pairwise (·<·)):∀a b,a<b->b<xs.size->xs.getD a j<xs.getD b j:=λa b c d=>by
 have:=F8.mp h a b (by simpa using X3 c d) (by simpa using d) c
 rw[F1,F1,C4 (X3 c d),C4 d];simpa using this
theorem qI3 {xs:Array Nat}{j:Nat}(h:xs.toList.Pairwise (·<·)):E9 xs j<=xs.size/\(∀i,i<E9 xs j->xs.getD i j<j)/\(∀i,E9 xs j<=i->i<xs.size->j<=xs.getD i j):=by
 unfold E9;exact qNG (qZV j h) xs.size 0 xs.size (F3 _) (A7 _) (by lia) (λi a=>absurd a (by lia)) (λi a b=>absurd b (by lia))
theorem qDM {α:Type}(xs:Array α)(p:Nat)(x:α):(F6 xs p x).toList=xs.toList.take p++x::xs.toList.drop p:=by
 unfold F6;simp[Array.toList_extract,D0]
structure T7 (byText:Bool)(t:B91)(n:Nat):Prop where
 mask:t.mask=7
 dum:t.dummies=#[]
 plain:t.plain=true
 led:t.led=!byText
 size:t.place.size=n
 up:t.place.toList.Pairwise (·<·)
 le:∀j∈t.place.toList,j<=7
section
variable{byText:Bool}{t:B91}{n:Nat}
def pr (i pt:Nat):SetTable.Probe:={j:=i,more:=0,i:=i,perturb:=pt,dummy:=none}
end
theorem qLQ {α:Type}:∀(l:List α) (i:Nat) (h:i<l.length),(l[i]::l.eraseIdx i).Perm l
 |[],i,h=>absurd h (by simp)
 |a::r,0,h=>.refl _
 |a::r,i+1,h=>by
  have hi:i<r.length:=by simpa using h
  have ih:=qLQ r i hi;show(r[i]::a::r.eraseIdx i).Perm (a::r);exact(List.Perm.swap _ _ _).trans (ih.cons a)
theorem qUJ {α:Type}(next:Nat->Nat):∀(fuel k:Nat) (left:List α) (out:Array α),fuel=left.length->(A98 next fuel k left out).toList.Perm (out.toList++left)
 |0,k,left,out,h=>by
  have:left=[]:=O3.mp h.symm;subst this;unfold A98;simp
 |fuel+1,k,left,out,h=>by
  have hl:0<left.length:=by lia
  have hm:next k%left.length<left.length:=Z7 _ hl;unfold A98;rw[A4 hm];dsimp only;refine(qUJ next fuel (k+1) _ _ (by rw[List.length_eraseIdx_of_lt hm];lia)).trans ?_
  rw[V7,P3];exact l7 _ (qLQ left _ hm)
theorem qUI {α:Type}(next:Nat->Nat)(xs:Array α):(pickOrder next xs).toList.Perm xs.toList:=by
 unfold pickOrder;have:=qUJ next xs.size 0 xs.toList #[] (by simp)
 simpa using this
abbrev Ents:List Int->List (Int×Value)->Prop:=Paired λk e=>∃tk,e=(hashInt k,R5 k tk)
theorem Ents.perm:∀{es es':List (Int×Value)} {ks:List Int},Ents ks es->es'.Perm es->∃ks',Ents ks' es'/\ks'.Perm ks:=by
 intro es es' ks h p;have c:∀{a b:List (Int×Value)},a.Perm b->∀ks,Ents ks b->∃ks',Ents ks' a/\ks'.Perm ks:=by
  intro a b p
  induction p with
  |nil=>intro ks h;exact⟨ks,h,.refl _⟩
  |cons x p ih=>
   intro ks h;cases h with
   |cons r t=>
    obtain⟨ks',d,e⟩:=ih _ t;exact⟨_::ks',.cons r d,e.cons _⟩
  |swap x y l=>
   intro ks h;cases h with
   |cons r t=>
    cases t with
    |cons r' t'=>exact⟨_,.cons r' (.cons r t'),.swap _ _ _⟩
  |trans p q ih1 ih2=>
   intro ks h;obtain⟨g,d,e⟩:=ih2 ks h;obtain⟨j,i,f⟩:=ih1 g d;exact⟨j,i,f.trans e⟩
 exact c p ks h
theorem Ents.elems {prog:B66}{w:World}{es:List (Int×Value)}{ks:List Int}(h:Ents ks es):ElemsOf (C10 prog w) es:=by
 intro e a;have b:∀{ks:List Int} {es:List (Int×Value)},Ents ks es->∀e∈es,∃k tk,e=(hashInt k,R5 k tk):=by
  intro ks es h
  induction h with
  |nil=>intro e a;cases a
  |cons r t ih=>
   intro e a;rcases B6.mp a with z|z
   ·subst z;obtain⟨tk,e⟩:=r;exact⟨_,tk,e⟩
   ·exact ih e z
 obtain⟨k,tk,rfl⟩:=b h e a;exact⟨⟨k,by simp[C10,A16],rfl⟩,rfl⟩
theorem Ents.find {prog:B66}{w:World}{k:Int}:∀{es:List (Int×Value)} {ks:List Int},Ents ks es->((B44 (λe=>(C10 prog w).is k e.2) es).isSome=true↔k∈ks)
 |_,_,.nil=>by simp
 |_,_,.cons r t=>by
  obtain⟨tk,rfl⟩:=r
  rename_i k' ks' es'
  have ih:=Ents.find (prog:=prog) (w:=w) (k:=k) t;rw[List.findIdx?_cons,B6];have hi:(C10 prog w).is k (R5 k' tk)=decide (k=k'):=by
   by_cases e:k=k'
   ·simp[C10,A16,e]
   ·have e':¬k'=k:=λz=>e z.symm;simp[C10,A16,e,e']
  dsimp only;rw[hi];by_cases e:k=k'
  ·simp[e]
  ·simp only[e,decide_false,G6,if_false,false_or,j4];exact ih
noncomputable def byT (w:World):Bool:=w.params.followText "set-order"
def SetI (w:World)(a:Addr)(zs:List Int)(h:Heap):Prop:=
 ∃(es:Array (Int×Value)) (ep:Nat) (t:B91) (ks:List Int),h.get? a=some {cls:=.type "set",data:=.set es ep t}/\T7 (byT w) t es.size/\Ents ks es.toList/\ks.Perm zs/\zs.Nodup/\zs.length<=4
noncomputable def addI (zs:List Int)(k:Int):List Int:=if k∈zs then zs else zs++[k]
section
variable{prog:B66}{w:World}{A:Around}{E:Value->Shared->Prop}{s:Shared}
theorem SetI.size {a:Addr}{zs:List Int}{h:Heap}{es:Array (Int×Value)}{ks:List Int}(c:Ents ks es.toList)(b:ks.Perm zs):es.size=zs.length:=by
 rw[<- b.length_eq,C1 c,C2]
end
noncomputable def dedI:List Int->List Int:=λl=>l.foldl addI []
theorem qZ0 (zs:List Int)(k:Int):(addI zs k).length<=zs.length+1:=by
 unfold addI
 split<;>simp
theorem qE5:∀(l zs:List Int),(l.foldl addI zs).length<=zs.length+l.length
 |[],zs=>by simp
 |k::r,zs=>by
  have h1:=qE5 r (addI zs k);have h2:=qZ0 zs k;rw[V5,D3]
  lia
section
variable{prog:B66}{w:World}{A:Around}{R:Result->Shared->Prop}{I:Addr}{fp wr:List Addr}{G:Array C18->Array C18->Prop}{n:Nat}{P:Nat->Value->Prop}{St:Nat->Shared->Prop}
end
noncomputable abbrev freshSet (w:World):Obj:={cls:=.type "set",dict:=none,data:=.set #[] 0 (.fresh 0 0 (!byT w))}
section
variable{prog:B66}{w:World}{A:Around}{E:Value->Shared->Prop}{s:Shared}
theorem qNY (a:Value){Q₁:Value->Shared->Prop}(h:Q₁ (.ref s.heap.objs.size) {s with heap:=s.heap.push (freshSet w)}):
  B97 (model prog w) A (.call (.builtin "set.__new__") ⟨[.type "set",a],[]⟩) (wants Q₁ E) s:=by
 refine C41 ?_;show wpAny _ A.in1 (do checkBuiltinCall "set.__new__" ⟨[.type "set",a],[]⟩;again (.builtin "set.__new__" ⟨[.type "set",a],[]⟩)) _ _ s
 refine B62 (C08 (F.newCall_set_1 a) (B63 ⟨B83 F.plain_set_new _,B73 F.entry_set_new ?_⟩));rw[F4 F.plain_set_new _];unfold Builtin.«set.__new__» B29;have b:=sub_set_self;obtain⟨e,g,d,c,f⟩:=s;dsimp only
 wp_walk
 refine C14 (B63 ?_);dsimp only;simp only[newObj];refine B62 (wpAny_alloc (B63 ?_));exact B63 h
set_option maxHeartbeats 3200000 in
end
theorem slot_si_next:Slot "set_iterator" "__next__" "set_iterator.__next__":=
 .of (owner:="set_iterator") (n:="__next__") (by rw[typeLookup_type,C35];kernel_rfl) (by decide +kernel) (by decide +kernel) (by decide +kernel)
  (by first|exact .inl (by decide +kernel)|exact .inr (by decide +kernel)) (by rw[isSubtype_type];kernel_rfl)
theorem qI6:Slot "set_iterator" "__iter__" "set_iterator.__iter__":=
 .of (owner:="set_iterator") (n:="__iter__") (by rw[typeLookup_type,C35];kernel_rfl) (by decide +kernel) (by decide +kernel) (by decide +kernel)
  (by first|exact .inl (by decide +kernel)|exact .inr (by decide +kernel)) (by rw[isSubtype_type];kernel_rfl)
theorem qHE:entryFor table "set_iterator.__next__" = some Builtin.«set_iterator.__next__»:=entryFor_of_tree (by kernel_rfl)
theorem qN5:entryFor table "set_iterator.__iter__" = some Builtin.«dict_keyiterator.__iter__»:=
 entryFor_alias (id':="dict_keyiterator.__iter__") (by kernel_rfl) rfl (by decide +kernel) (by kernel_rfl)
theorem qKY:entryFor table "set.__iter__" = some Builtin.«frozenset.__iter__»:=
 entryFor_alias (id':="frozenset.__iter__") (by kernel_rfl) rfl (by decide +kernel) (by kernel_rfl)
theorem qRJ:Manifest.owners.lookup (String.ofList "set_iterator".toList.reverse.reverse)=some Manifest.sig_set_iterator:=by kernel_rfl
theorem qIH (a:Value):argsOk "set_iterator.__next__" ⟨[a],[]⟩:=by
 unfold argsOk;rw[signature?_of (id:="set_iterator.__next__") (n:="__next__".toList.reverse) (o:="set_iterator".toList.reverse) (by kernel_rfl) qRJ];kernel_rfl
theorem qP9 (a:Value):argsOk "set_iterator.__iter__" ⟨[a],[]⟩:=by
 unfold argsOk;rw[signature?_of (id:="set_iterator.__iter__") (n:="__iter__".toList.reverse) (o:="set_iterator".toList.reverse) (by kernel_rfl) qRJ];kernel_rfl
noncomputable def qF5 (w:World)(a:Addr)(ep:Nat)(es:Array (Int×Value)):List (Int×Value):=if byT w=true then(pickOrder (w.params.setOrder a ep) es).toList else es.toList
noncomputable def qF6 (w:World)(t:B91)(i:Nat):Nat:=if byT w=true then 0 else if i=0 then 0 else t.place.getD (i-1) 0+1
theorem qF4 (w:World)(a:Addr)(ep:Nat)(es:Array (Int×Value)):(qF5 w a ep es).Perm es.toList:=by
 unfold qF5
 split
 ·exact qUI _ _
 ·exact .refl _
def SetIt (w:World)(a I:Addr)(es:Array (Int×Value))(ep:Nat)(t:B91)(i:Nat)(h:Heap):Prop:=
 (∃o,h.get? I=some o/\o.cls=.type "set_iterator"/\o.data=.fields #[.int (qF6 w t i) 0,.int i 0,.ref a,.int es.size 0,.int ep 0])/\h.get? a=some {cls:=.type "set",data:=.set es ep t}
section
variable{prog:B66}{w:World}{A:Around}{E:Value->Shared->Prop}{s:Shared}{a I:Addr}{es:Array (Int×Value)}{ep:Nat}{t:B91}{i:Nat}
theorem SetIt.typeIs (x:SetIt w a I es ep t i s.heap):s.TypeIs (.ref I) "set_iterator":=let⟨⟨o,h1,h2,_⟩,_⟩:=x;⟨o,h1,h2⟩
theorem qa4 {Q:Value->Shared->Prop}(b:SetIt w a I es ep t i s.heap)(h:Q (.ref I) s):wpAny (model prog w) A (pyIter (.ref I)) Q E s:=by
 refine wpAny_pyIter_slot b.typeIs qI6 (B79 qI6 b.typeIs qN5 ?_ (qP9 _));show wpAny _ _ (ret (.ref I)) _ _ s;exact B63 ⟨_,rfl,"set_iterator",_,b.typeIs,slot_si_next.lookup,h⟩
theorem qa5 {Q:Bool->Shared->Prop} (e:s.TypeIs (.ref a) "set") (h:Q false s):wpAny (model prog w) A (p9 (.ref a)) Q E s:=by
 unfold p9;refine B62 (wpAny_specialOf e PySem.F.slot_set_len.lookup ?_);generalize hid:("set.__len__" : String)=d
 wp_delta
 rw[show splitId d=some ("set","__len__") from by subst hid;decide +kernel]
 subst hid;refine B62 (wpAny_isInstance (T:="set") (b:=true) e (by rw[isSubtype_type];kernel_rfl) ?_)
 refine wpAny_ite_split (λc=>absurd c (by decide)) (λ_=>?_)
 refine wpAny_ite_split (λ_=>?_) (λc=>absurd (by decide +kernel) c)
 refine B62 (wpAny_typeOf e ?_);exact B63 h
end
theorem qCB {ns:List Int}:∀{us:List Value},Vals (ns.map V.int) us->B71 us ns:=by
 induction ns with
 |nil=>intro us h;cases h;exact .nil
 |cons n r ih=>
  intro us h;cases h with
  |cons r1 r2=>
   obtain⟨t,rfl⟩:=r1;exact IntsAre.cons _ _ (ih r2)
theorem qI5:∀{us:List Value} {ns:List Int},B71 us ns->Vals (ns.map V.int) us:=qJA
section
variable{X:Cx}
def SetO (w:World)(a:Addr)(zs:List Int):HO:=.ext (SetI w a zs)
theorem Inv.track {Ab:List (Addr×Obj)}{s:Shared}{σ:St}{H:Hp}{T:Addr}{o:HO}(I:Inv X Ab σ H s)(k:H T=none)(m:X.s₀.heap.objs.size<=T)(h2:T≠X.env.locals)(l:∀x c,X.env.cells.lookup x=some c->c≠T)(j:∀p∈X.pn++Ab,p.1≠T)
  (f:ObjOk X.prog X.w (Ag H T o) s.heap T o):Inv X Ab σ (Ag H T o) s:=by
 have d:∀b ob,X.s₀.heap.get? b=some ob->b≠T:=λb ob e=>C6 (E3 (B7 e) m);have a:∀b u,H b=some u->(Ag H T o) b=some u:=λb u e=>by rw[qA9 (qA6 e k)];exact e
 refine⟨I.ok,I.os,I.bare,⟨I.base.keep,I.base.slot,λb ob e n i=>?_,I.base.there,λb y e=>a _ _ (I.base.tups b y e),λb ob u e=>a _ _ (I.base.frzs b ob u e),λb ps e=>?_⟩,I.loc,I.cell,?_,λx c e=>?_,λp g=>?_,λb u e=>?_,I.len⟩
 ·rw[qA9 (d b ob e)];exact I.base.free b ob e n i
 ·exact a _ _ (I.base.tbls b ps e)
 ·rw[qA9 (J8 h2)];exact I.free
 ·rw[qA9 (l x c e)];exact I.freeC x c e
 ·obtain⟨z,n,r⟩:=I.pin p g;exact⟨z,by rw[qA9 (j p g)];exact n,r⟩
 ·by_cases h:b=T
  ·subst h;rw[qA1] at e;cases e;exact f
  ·rw[qA9 h] at e;exact(I.hok b u e).stay (λc v _ q=>q) (λc q=>a _ _ q) (λc ys q=>a _ _ q) λc t q=>a _ _ q
theorem qLA {Ab:List (Addr×Obj)}{s:Shared}{σ:St}{H:Hp}{vs:List Value}{ns:List Int}(I:Inv X Ab σ H s)(a:B71 vs ns)(b:ns.length<=B64):
  Inv X Ab σ (Ag H s.heap.objs.size (.lst (ns.map V.int))) {s with heap:=s.heap.push {cls:=.type "list",data:=.seq vs.toArray}}:=
 I.lnew (t':=s.toks) (qI5 a) (by rw[A0];exact b)
noncomputable def qE9 (lo hi:Int):List V:=(F2 (hi-lo).toNat).map λ(i:Nat)=>V.int (lo+i)
theorem qOZ:qCG X (.type "range") (λxs H Q=>∃i j,xs=[.int i,.int j]/\∀p,H p=none->Q (.ref p) (Ag H p (.rng i j))):=by
 intro d s σ H xs a Q I r h;obtain⟨i,j,rfl,q⟩:=h;obtain⟨u,v,rfl,⟨t,rfl⟩,⟨c,rfl⟩⟩:=qNJ r;refine call_range_2 ⟨.ref s.heap.objs.size,_,I.laid (λb o e=>A5 _ e) (A7 _) ?_,rfl,q _ (I.hok.fresh (A7 _))⟩;exact⟨_,_,_,B5 _ rfl⟩
theorem qR6 {lo hi:Int}{n:Nat}{acc:List Value}(f:n=(hi-lo).toNat)(a:acc.length=n)(h:∀(i:Nat) (v:Value),acc[i]?=some v->∃t,v=.int (lo+i*1) t):Vals (qE9 lo hi) acc:=by
 have b:∀(m:Nat) (acc:List Value),acc.length=m->∀lo:Int,(∀(i:Nat) (v:Value),acc[i]?=some v->∃t,v=.int (lo+i) t)->Vals ((F2 m).map λ(i:Nat)=>V.int (lo+i)) acc:=by
  intro m
  induction m with
  |zero=>
   intro acc a lo h;have:acc=[]:=O3.mp a;subst this;exact .nil
  |succ m ih=>
   intro acc a lo h;cases acc with
   |nil=>simp at a
   |cons v acc=>
    rw[A32,C7,Z8];have c:=h 0 v rfl;refine .cons c ?_;have d:=ih acc (by simpa using a) (lo+1) λi v hi=>by
     have:=h (i+1) v (by simpa using hi)
     obtain⟨t,e⟩:=this;refine⟨t,?_⟩;rw[e];congr 1
     push_cast
     lia
    have e:((λ(i:Nat)=>V.int (lo+i)) ∘ Nat.succ)=λ(i:Nat)=>V.int (lo+1+i):=by
     funext i
     simp only[Function.comp];congr 1
     push_cast
     lia
    rw[e];exact d
 unfold qE9;rw[<- f];refine b n acc a lo λi v hi=>?_;obtain⟨t,e⟩:=h i v hi;exact⟨t,by rw[e,Int.mul_one]⟩
theorem qL7 (lo hi:Int):(qE9 lo hi).length=(hi-lo).toNat:=by unfold qE9;simp
theorem qcC {lo hi:Int}:S0 lo hi 1=((hi-lo).toNat:Nat):=by rw[rangeSize_one];split<;>lia
theorem qND (j:X.calm=true):qCG X (.type "list") (λxs H Q=>∃p lo hi,xs=[.ref p]/\H p=some (.rng lo hi)/\-1000000<=lo/\lo<=1000000/\-1000000<=hi/\hi<=1000000/\∀l,H l=none->Q (.ref l) (Ag H l (.lst (qE9 lo hi)))):=by
 intro Ab s σ H xs z Q I r h;obtain⟨p,lo,hi,rfl,g,l1,l2,l3,l4,q⟩:=h;obtain⟨u,rfl,y⟩:=qE1 r;cases y;obtain⟨t,u,v,e⟩:=(show∃t u v,s.heap.get? p=some {cls:=.type "range",data:=.fields #[.int lo t,.int hi u,.int 1 v]} from I.hok p _ g);refine call_list_range (n:=(hi-lo).toNat) (I.ok.hd j) (show IsRange s.heap p lo hi 1 t u v from e) (small_one (by lia) (by lia) (by lia) (by lia)) qcC (by lia) λc k b d m o a=>?_
 obtain⟨f,x⟩:=a;refine⟨.ref s.heap.objs.size,_,I.laid (t':=k) m (A7 _) (show ObjOk X.prog X.w _ c _ (.lst (qE9 lo hi)) from⟨?_,b.toList,d,qR6 rfl (by simpa using f) λi v hi=>x i v (by rw[<- F0];exact hi),by simpa using o⟩),rfl,q _ (I.hok.fresh (A7 _))⟩
 rw[qL7,B77]
 lia
theorem qN9 {prog:B66}{w:World}{A:Around}{E:Value->Shared->Prop}{s:Shared}{R:List Value->Shared->Prop}{r:Addr}{a b:Int}{t u v:Tok}{n:Nat}(hh:A.handled=none)(hr:IsRange s.heap r a b 1 t u v)(g:A65 a b 1=true)
  (hn:S0 a b 1=n) (j:n<=2^24)
  (h:∀(h':Heap) (tk:Nat) (acc:Array Value),(∀b o,s.heap.get? b=some o->h'.get? b=some o)->ItemsOf (λi v=>∃t,v=.int (a+i*1) t) acc n->R acc.toList {s with heap:=h',toks:=tk}):
  wpAny (model prog w) A (collect (.ref r)) R E s:=by
 unfold collect;refine B62 (wpAny_runValue (B73 entry_proto_collect' ?_));rw[F4 PySem.F.plain_proto_collect _];show wpAny _ A.in1 (newList [] >>= λl=>again (.builtin "list.__iadd__" ⟨[l,.ref r],[]⟩)) _ _ s;refine B62 (B74 ?_);refine B63 ⟨B83 A17 _,B73 entry_list_iadd' ?_⟩;rw[F4 A17 _];have m:(s.heap.push {cls:=.type "list",data:=.seq ([]:List Value).toArray}).get? s.heap.objs.size=some {cls:=.type "list",data:=.seq #[]}:=B5 _ rfl;show wpAny _ A.in1 (Builtin.List.listExtendWith (.ref s.heap.objs.size) (.ref r) (.ref s.heap.objs.size)) _ _ _;have z:=wpAny_extend_range (prog:=prog) (w:=w) (A:=A) (s:={s with heap:=s.heap.push {cls:=.type "list",data:=.seq ([]:List Value).toArray}})
  (R:=fun (q:Result) (s':Shared)=>∃ (h':Heap) (tk:Nat) (acc':Array Value) (c':Nat),q=.ok (.ret (.ref s.heap.objs.size))/\s'={ s with heap:=h',toks:=tk }/\
   (∀b o,s.heap.get? b=some o->h'.get? b=some o)/\h'.get? s.heap.objs.size=some {cls:=.type "list",dict:=none,data:=.seq acc' c',slots:=#[]}/\ItemsOf (λi v=>∃t,v=.int (a+i*1) t) acc' n)
  hh (A5 _ hr) g hn j s.heap.objs.size (.ref s.heap.objs.size) 0 m
  (λh' tk acc' c' k d c=>⟨h',tk,acc',c',rfl,rfl,λb o e=>k b o (C6 (B7 e)) (A5 _ e),d,c⟩)
 refine B76 z (λp s' x=>?_) λe s' x=>?_
 ·cases p with
  |done f=>
   obtain⟨h',tk,acc',c',e,rfl,k,d,c⟩:=x;cases e;show wpAny _ A (load s.heap.objs.size >>= _) _ _ _;refine B62 (wpAny_load d ?_);exact B63 (h h' tk acc' k c)
  |again c₁=>
   refine⟨x.1,B94 x.2 λq s₂ y=>?_⟩;obtain⟨h',tk,acc',c',rfl,rfl,k,d,c⟩:=y;show wpAny _ A (load s.heap.objs.size >>= _) _ _ _;refine B62 (wpAny_load d ?_);exact B63 (h h' tk acc' k c)
 ·obtain⟨_,_,_,_,e',_⟩:=x;cases e'
theorem qPE {prog:B66}{w:World}{A:Around}{E:Value->Shared->Prop}{s:Shared}{Q:Value->Shared->Prop}{r:Addr}{a b:Int}{t u v:Tok}{n:Nat}(hh:A.handled=none)(q:IsRange s.heap r a b 1 t u v)(d:A65 a b 1=true)
  (z:S0 a b 1=n) (k:n<=2^24)
  (h:∀(h':Heap) (tk:Nat) (acc:Array Value),(∀b o,s.heap.get? b=some o->h'.get? b=some o)->ItemsOf (λi v=>∃t,v=.int (a+i*1) t) acc n->Q (.ref h'.objs.size) {s with heap:=h'.push {cls:=.type "tuple",data:=.seq acc},toks:=tk}):
  wpAny (model prog w) A (call (.type "tuple") [.ref r]) Q E s:=by
 have g:B97 (model prog w) A.in1 (.call (.builtin "tuple.__new__") ⟨[.type "tuple",.ref r],[]⟩) (wants (λc j=>j.TypeIs c "tuple"/\Q c j) E) s:=by
  refine C41 ?_;show wpAny _ A.in1.in1 (do checkBuiltinCall "tuple.__new__" ⟨[.type "tuple",.ref r],[]⟩;again (.builtin "tuple.__new__" ⟨[.type "tuple",.ref r],[]⟩)) _ _ s
  refine B62 (C08 (F.newCall_tuple_1 _) (B63 ⟨B83 A91 _,B73 F.entry_tuple_new ?_⟩));rw[F4 A91 _];have x:=sub_tuple_self;have l:=init_tuple_lookup;have y:=madeHere_tuple;have m:s.TypeIs (.ref r) "range":=⟨_,q,rfl⟩
  wp_walk using wpAny_typeOf m,qN9 (prog:=prog) (w:=w) (A:=A.in1.in1) hh q d z k
  intro h' tk acc hk f;show wpAny _ _ (A06 acc.toList.toArray >>= λv=>ret v) _ _ _;unfold A06;refine B62 (B74 ?_ (by show acc.toList.toArray.size<=B64;simp only[Array.toArray_toList];rw[f.1,B77];lia))
  refine B63 ?_;have e:acc.toList.toArray=acc:=by simp
  rw[e];exact⟨⟨_,B5 _ rfl,rfl⟩,h h' tk acc hk f⟩
 refine callType_codes (Q₁:=λc j=>j.TypeIs c "tuple"/\Q c j) A60 (F.typeCall_tuple_1 _) F.entry_object_init g λc j p=>?_;exact⟨p.1,A53 c _,object_init_meets A60.init.lookup A60.made (by decide) prog w A.in1 _ j ⟨p.1,rfl,p.2⟩⟩
theorem qKZ (m:X.calm=true):qCG X (.type "tuple") (λxs H Q=>∃p lo hi,xs=[.ref p]/\H p=some (.rng lo hi)/\-1000000<=lo/\lo<=1000000/\-1000000<=hi/\hi<=1000000/\∀l,H l=none->Q (.ref l) (Ag H l (.tup (qE9 lo hi)))):=by
 intro Ab s σ H xs us Q I r h;obtain⟨p,lo,hi,rfl,k,l1,l2,l3,l4,q⟩:=h;obtain⟨u,rfl,z⟩:=qE1 r;cases z;obtain⟨t,u,v,e⟩:=(show∃t u v,s.heap.get? p=some {cls:=.type "range",data:=.fields #[.int lo t,.int hi u,.int 1 v]} from I.hok p _ k);refine qPE (n:=(hi-lo).toNat) (I.ok.hd m) (show IsRange s.heap p lo hi 1 t u v from e) (small_one (by lia) (by lia) (by lia) (by lia)) qcC (by lia) λd g a x c=>?_
 obtain⟨j,y⟩:=c;have f:Inv X Ab σ H {s with heap:=d,toks:=g}:=I.kept x;refine⟨.ref d.objs.size,_,f.laid (t':=g) (λb o e=>A5 _ e) (A7 _) (show ObjOk X.prog X.w _ _ _ (.tup (qE9 lo hi)) from⟨?_,a.toList,qR6 rfl (by simpa using j) λi v hi=>y i v (by rw[<- F0];exact hi),?_⟩),rfl,q _ (f.hok.fresh (A7 _))⟩
 ·rw[qL7,B77]
  lia
 ·have:=IsTup.new d a;simpa using this
theorem qSS:∀(bs:List Bool),((F2 bs.length).all λi=>(bs[i]?).getD true)=bs.all id:=by
 intro bs;rw[L7,J3,J3]
 constructor
 ·intro h b d;obtain⟨i,c,e⟩:=Y1.mp d;have:=h i (D9.mpr c);rw[A4 c,e] at this;exact this
 ·intro h i c;have a:=D9.mp c;rw[A4 a];exact h _ (W7 a)
theorem qEY (o:X.calm=true):qCG X (.builtin "all") (λxs H Q=>∃(p:Addr) (bs:List Bool),xs=[.ref p]/\SqL X.K H p (bs.map V.bl)/\Q (.bl (bs.all id)) H):=by
 intro Ab s σ H xs us Q I r h;obtain⟨p,bs,rfl,w,q⟩:=h;obtain⟨u,rfl,y⟩:=qE1 r;cases y;obtain⟨c,k,t,hz⟩:=I.list w;have f:=t.isList;have g:p<s.heap.objs.size:=by obtain⟨_,e,_⟩:=f;exact B7 e
 have a:=k.length;rw[A0] at a;refine call_all_walk (B87 f ?_);refine⟨s.heap.objs.size,[s.heap.objs.size,p],[s.heap.objs.size],c.toArray.size,_,_,λi=>(bs[i]?).getD true,rfl,A47 (A:=X.A.in1) (I.ok.hd o) _ p (C6 g) c.toArray,
  ⟨⟨_,B5 _ rfl,rfl,rfl⟩,f.push _⟩,λi v s' Q' E' z j=>?_,λh' tk hk=>?_⟩
 ·have d:c[i]?=some v:=by simpa using z
  have m:i<bs.length:=by rw[a];exact(A3.mp d).1
  obtain⟨u,l,ru⟩:=k.get (i:=i) (x:=.bl bs[i]) (by rw[B9,A4 m];rfl)
  rw[d] at l;cases l;cases ru;dsimp only at j;rw[A4 m,Z1] at j;exact B81 j
 ·have e:((F2 c.toArray.size).all λi=>(bs[i]?).getD true)=bs.all id:=by
   rw[C0,<- a];exact qSS bs
  refine⟨.bl (bs.all id),H,I.kept λb x e=>hk b x (λn=>by rw[A6.mp n] at e;exact R9 _ (B7 e)) (A5 _ e),?_,q⟩
  rw[e]
  rfl
theorem qBH:qCG X (.builtin "isinstance") (λxs H Q=>∃x T t b,xs=[x,.ty T]/\TyOf X.K H x t/\Y4 X.K t (.type T)=some b/\Q (.bl b) H):=by
 intro i s σ H xs f Q I r h;obtain⟨x,T,t,b,rfl,a,d,q⟩:=h;obtain⟨u,v,rfl,e,c⟩:=qNJ r;cases c;exact qVK I e a d λg=>⟨.bl b,H,I.tok _,rfl,q⟩
theorem qOC (g:X.A.units<cLine):OpR X (B80 .Eq) (λx y H Q=>∃p l xs,x=.ref p/\y=.ref l/\SqL X.K H p xs/\SqL X.K H l []/\Q (.bl xs.isEmpty) H):=by
 intro z s σ H x y v u Q I o k h;obtain⟨p,l,xs,rfl,rfl,n,t,q⟩:=h;cases o;cases k;obtain⟨i,f,d,z1⟩:=I.list n;obtain⟨b,m,c,w⟩:=I.list t;cases m;cases xs with
 |nil=>
  cases f;exact SeqAt.eq_listAt (e:=λ_=>true) d.isList c.isList rfl g (λj h _=>absurd h (by simp)) ⟨.bl true,H,I,rfl,q⟩
 |cons a r=>
  cases f;exact SeqAt.eq_list_lengthsAt d.isList c.isList (by simp) g ⟨.bl false,H,I,rfl,q⟩
end
def Ite (K:PySem.W.Frag)(l:Addr):It:=
 ⟨λi H=>∃xs x,SqL K H l xs/\xs[i]?=some x,λi H v H'=>∃T x,H T=none/\v=.ref T/\H'=Ag H T (.tup [.int (i:Int),x])/\∀xs,SqL K H l xs->xs[i]?=some x,λi H=>∃xs,SqL K H l xs/\xs.length<=i⟩
section
variable{X:Cx}
theorem Inv.turnedL {Ab:List (Addr×Obj)}{s:Shared}{σ:St}{H:Hp}{h':Heap}{t':Nat}{ch:List Addr}(I:Inv X Ab σ H s)(k:∀b o,b∉ch->s.heap.get? b=some o->h'.get? b=some o)(d:∀b∈ch,FpOk X Ab H b):Inv X Ab σ H {s with heap:=h',toks:=t'}:=by
 have f:∀b u,H b=some u->b∉ch:=λb u e z=>by rw[(d b z).1] at e;cases e
 refine I.step (g':=s.gens) (d':=s.drawn) (ch:=ch) (λb g=>⟨(d b g).2.2.2.1,(d b g).2.1,(d b g).2.2.2.2.1,(d b g).2.2.2.2.2⟩) (λb o _ _ a e _=>k b o a e) (λb o _ _ a e _=>⟨o.slots,k b o a e⟩) (λ_ _ _ _ n=>n)
  (λb o a e=>⟨o,k b o a e⟩) (λ_ _ e=>e) (λ_ _ _ e=>e) (λ_ _ e=>e) (λm h=>?_) (λb u e=>?_) I.bare
 ·obtain⟨o,j,l,i,r⟩:=h;exact⟨o,j,l,k _ o (λz=>(d _ z).2.1 rfl) i,r⟩
 ·refine(I.hok b u e).stay (λc v a q=>k c v ?_ q) (λ_ q=>q) λ_ _ q=>q;rcases a with z|z
  ·rw[z];exact f b u e
  ·exact f c _ z
theorem qTP {P:B66}{w:World}{K:PySem.W.Frag}{r:List Expr}{k:Nat}{pos:Pos}(l c e:Addr)(j:e≠c):Turn P w K (.Tuple r k pos) (Ite K l) [e,c] e (λi h=>(∃old,IsEnum h e c i old)/\h.IsListIter c l i) where
 mem:=by simp
 obj:=λi h g b f=>by
  obtain⟨⟨old,d⟩,o,a,_,h4⟩:=g;have e':b=e\/b=c:=by simpa using f
  rcases e' with rfl|rfl
  ·exact⟨_,d,λv z=>by
    have z':A63 _=B15 v:=z;cases z'⟩
  ·exact⟨o,a,λv z=>by rw[h4] at z;cases z⟩
 keep:=λi h h' g kk=>by
  obtain⟨⟨old,d⟩,a⟩:=g;exact⟨⟨old,kk e (by simp) _ d⟩,a.at λo q=>kk c (by simp) o q⟩
 item:=by
  intro X hP hw hK hc i Ab s σ H E I t g hg;subst hP hw hK;obtain⟨xs,x,y,hx⟩:=hg;obtain⟨a0,rv,p,hz⟩:=I.list y;obtain⟨u,hu,ru⟩:=rv.get hx;obtain⟨⟨old,d⟩,a⟩:=g;refine wpAny_pyNext_enum_item d a p.isList (x:=u) (by simpa using hu) j λh' a1 a2 a3 a4 a5=>?_
  refine ⟨_,rfl,wpAny_letOwnedTupleGo_enum a1 fun a b1 b2=>?_⟩;have m:e<s.heap.objs.size:=B7 d;have I1:Inv X Ab σ H { s with heap:=a,toks:=s.toks+1 }:=I.turnedL (ch:=[e,c]) (fun b o f q=>by
   have n:b≠e:=λz=>f (by simp[z])
   have a7:b≠c:=λz=>f (by simp[z])
   exact(b2.2 b n).trans (a5 b o n a7 q)) t
  have hT:H s.heap.objs.size=none:=I.hok.fresh (A7 _);have fT:=I.fpOk (H':=H) (b:=s.heap.objs.size) (A7 _) hT;have gT:a.get? s.heap.objs.size=some {cls:=.type "tuple",data:=.seq #[.int i s.toks,u]}:=(b2.2 _ (V9 m)).trans a3;refine⟨.ref s.heap.objs.size,Ag H s.heap.objs.size (.tup [.int (i:Int),x]),I1.track hT I.sz fT.2.1 fT.2.2.2.2.1 fT.2.2.2.2.2 ⟨by simp only[D3,O9];rw[B77];decide,[.int (i:Int) s.toks,u],.cons ⟨_,rfl⟩ (.cons ru .nil),⟨_,gT,rfl,_,rfl⟩⟩,rfl,
   ⟨_,x,hT,rfl,rfl,λys hy=>by rw[I.list_inj hy y];exact hx⟩,⟨⟨_,b1⟩,a2.at λo q=>(b2.2 c (J8 j)).trans q⟩,λb f=>?_⟩
  have a6:b<s.heap.objs.size:=by
   have e':b=e\/b=c:=by simpa using f
   rcases e' with rfl|rfl
   ·exact m
   ·obtain⟨o,q,_⟩:=a;exact B7 (by assumption)
  rw[qA9 (C6 a6)];exact(t b f).1
 done:=by
  intro X hP hw hK hc i Ab s σ H E I t g hg;subst hP hw hK;obtain⟨xs,y,hx⟩:=hg;obtain⟨a0,rv,p,hz⟩:=I.list y;have hl:=rv.length;obtain⟨⟨old,d⟩,a⟩:=g;exact wpAny_pyNext_enum_end (I.ok.hd hc) d a p.isList (by simp;lia) λh' eb=>⟨rfl,I.turnedL (t':=s.toks) (ch:=[e,c]) (λb o f q=>eb b o (λz=>f (by simp[z])) q) t⟩
 self:=λ_ _ _ _ _ g h=>by
  obtain⟨⟨old,d⟩,a⟩:=g;exact C25 d h
def qeQ (K:PySem.W.Frag)(ta:TA):TI:=λσ H R=>ta σ H λvs H1=>∃l,vs=[.ref l]/\(∃xs,SqL K H1 l xs)/\R (Ite K l) H1
theorem qaD {d:List Expr} {k:Nat} {c:Pos} {a:Expr} {g:TA} {p pos:Pos} (m:Gl X "enumerate") (r:X.mg "enumerate" = none) (t:B70 "enumerate" = some (.type "enumerate")) (z:PA X [a] g) (hs:B69 [a] X.env=[(false,eval a X.env)]:=by rfl):
  PI X (.Tuple d k c) (.Call (.Name "enumerate" p) [a] [] pos) (qeQ X.K g):=by
 intro i s σ H R I h;refine Call_ (qIB I m r t (P6 (thn (z pos i s σ H _ I h) λus s1 ⟨vs,H1,I1,r1,q1⟩=>?_) hs rfl));obtain⟨l,e,⟨xs,x⟩,q⟩:=q1;subst e;obtain⟨u,rfl,y⟩:=qE1 r1;cases y;obtain⟨j,rv,w,hz⟩:=I1.list x;refine call_enumerate_list w.isList λo f hi a0 hk=>?_;refine C25 f ?_;have I2:Inv X i σ H1 {s1 with heap:=o}:=I1.kept (t':=s1.toks) hk;refine⟨s1.heap.objs.size+1,[s1.heap.objs.size+1,s1.heap.objs.size],_,_,H1,rfl,I2,qTP l s1.heap.objs.size (s1.heap.objs.size+1) (m5 _),⟨⟨_,f⟩,hi⟩,λb v=>?_,q⟩;have n:b=s1.heap.objs.size+1\/b=s1.heap.objs.size:=by simpa using v
 rcases n with rfl|rfl
 ·exact I1.fpOk (Z2 _) (I1.hok.fresh (Z2 _))
 ·exact I1.fpOk (A7 _) (I1.hok.fresh (A7 _))
end
theorem qaT {K:PySem.W.Frag}{a:Addr}{xs:List V}{g:TG}{h:TT}{f:TE}{Kf:Hp->Prop}{σ0:St}{H0:Hp}{p:Addr}(Pv:Nat->St->Hp->Prop)(k:Pv 0 σ0 H0)(n:∀i σ H,i<=xs.length->Pv i σ H->SqL K H a xs)
  (hs:∀i x σ H T,xs[i]?=some x->Pv i σ H->H T=none->g (.ref T) σ (Ag H T (.tup [.int (i:Int),x])) λσ2 H2=>h σ2 H2 λb H3=>if b=true then f σ2 H3 λy H4=>∃ys,H4 p=some (.lst ys)/\ys.length<B64/\Pv (i+1) σ2 (Ag H4 p (.lst (ys++[y]))) else Pv (i+1) σ2 H3)
  (j:∀σ H,Pv xs.length σ H->Kf H):
  LcG (Ite K a) g h f Kf σ0 H0 p:=by
 refine⟨λi m σ H=>m=xs.length-i/\i<=xs.length/\Pv i σ H,⟨xs.length,by simp,F3 _,k⟩,?_⟩
 rintro i m σ H ⟨rfl,hi,q⟩;have d:=n i σ H hi q;by_cases c:i<xs.length
 ·refine .inr ⟨⟨xs,xs[i],d,by simp[c]⟩,Pv (i+1),λσ' s l=>⟨xs.length-(i+1),by lia,rfl,c,l⟩,λv s y=>?_⟩
  obtain⟨T,x,o,r,t,y⟩:=y;subst r t;exact hs i x σ H T (y xs d) q o
 ·have e:i=xs.length:=by lia
  subst e;exact .inl ⟨⟨xs,d,A7 _⟩,j σ H q⟩
theorem qHR {prog:B66}{w:World}{A:Around}{E:Value->Shared->Prop}{s:Shared}{c t:Addr}{i:Nat}{a:Array Value}{x:Value}{Q:Value->Shared->Prop}(b:s.heap.IsTupleIter c t i)(k:s.heap.IsTuple t a)(j:a[i]?=some x)
  (h:∀h':Heap,h'.IsTupleIter c t (i+1)->Heap.SameBut c s.heap h'->Q x {s with heap:=h'}):wpAny (model prog w) A (y8 (.ref c)) Q E s:=by
 obtain⟨o,e,l,d⟩:=id b;obtain⟨m,g,_,n,f⟩:=k;refine B62 (wpAny_callSpecial?_slot b.typeIs U3 (B79 U3 b.typeIs q5 ?_ (n6 _)));show wpAny _ _ (field (.ref c) 0 >>= _) _ _ _;refine B62 (wpAny_field e d rfl ?_);refine C42 rfl ?_;show wpAny _ _ (field (.ref c) 1 >>= _) _ _ _;refine B62 (wpAny_field e d rfl ?_);show wpAny _ _ (seqItems? (.ref t) >>= _) _ _ _;refine B62 (B93 g f ?_);show wpAny _ _ (match a[i]? with|some x=>_|none=>_) _ _ _
 rw[j];refine B62 (C03 e d (by simp) ?_)
 refine B63 ⟨x,rfl,B63 (h _ ⟨_,G8 _ e (l8 (U6 d _)),(A07 o _).trans l,?_⟩ (Q2 _ _ _))⟩;rw[U6 d];simp
 rfl
theorem qIQ {prog:B66}{w:World}{A:Around}{E:Value->Shared->Prop}{s:Shared}{d t:Addr}{i:Nat}{b:Array Value}{Q:Value->Shared->Prop}(p:A.handled=none)(c:s.heap.IsTupleIter d t i)(l:s.heap.IsTuple t b)(k:b[i]?=none)
  (n:∀(h':Heap) (e:Addr),Heap.ExtBut d s.heap h'->(∃o,h'.get? e=some o/\o.cls=.type "StopIteration")->E (.ref e) {s with heap:=h'}):wpAny (model prog w) A (y8 (.ref d)) Q E s:=by
 obtain⟨o,g,r,f⟩:=id c;obtain⟨q,h,_,u,j⟩:=l;refine B62 (wpAny_callSpecial?_slot c.typeIs U3 (B79 U3 c.typeIs q5 ?_ (n6 _)));show wpAny _ _ (field (.ref d) 0 >>= _) _ _ _;refine B62 (wpAny_field g f rfl ?_);refine C42 rfl ?_;show wpAny _ _ (field (.ref d) 1 >>= _) _ _ _;refine B62 (wpAny_field g f rfl ?_);show wpAny _ _ (seqItems? (.ref t) >>= _) _ _ _;refine B62 (B93 h j ?_);show wpAny _ _ (match b[i]? with|some x=>_|none=>_) _ _ _
 rw[k];refine B62 (B99 ?_);refine B62 (C03 g f (by simp) ?_)
 show wpAny _ _ (newExc (.type "StopIteration") [] >>= _) _ _ _;refine B62 ?_;simp only[newExc,newTuple];refine B62 (B74 ?_ (by size_fits))
 refine B62 (m:=C11 _ _) (C08 (a:=Q0) (by first|rfl|(simp only[C11];rfl)) ?_)
 refine B74 ?_ (by size_fits)
 simp only[raiseNew];refine B62 (wpAny_handled ?_);rw[show A.in1.handled=none from p];refine B62 (B63 (wpAny_throw ?_));exact n _ _ (((Q2 ..).extBut.push _).push _) ⟨_,B5 _ rfl,rfl⟩
def SIt (b:Bool)(h:Heap)(it l:Addr)(i:Nat):Prop:=match b with|true=>h.IsTupleIter it l i|false=>h.IsListIter it l i
def SSq (b:Bool)(h:Heap)(l:Addr)(xs:Array Value):Prop:=match b with|true=>h.IsTuple l xs|false=>h.IsList l xs
section
variable{b:Bool}{prog:B66}{w:World}{A:Around}{E:Value->Shared->Prop}{s:Shared}{z TI TO i1 i2 l1 l2:Addr}{k1 k2:Nat}{xs ys:Array Value}
end
noncomputable abbrev itObj (b:Bool) (l:Addr):Obj:={cls:=.type (match b with|true=>"tuple_iterator" |false=>"list_iterator"),data:=.fields #[.ref l,.int 0 0]}
theorem qST {b:Bool}{prog:B66}{w:World}{A:Around}{E:Value->Shared->Prop}{s:Shared}{l:Addr}{xs:Array Value}{Q:Value->Shared->Prop}(h:SSq b s.heap l xs)(a:Q (.ref s.heap.objs.size) {s with heap:=s.heap.push (itObj b l)}):wpAny (model prog w) A (pyIter (.ref l)) Q E s:=by
 cases b
 ·exact B87 h a
 ·exact C19 h a
section
variable{X:Cx}
end
theorem qTE {M:Model}{A:Around}{E:Value->Shared->Prop}{s:Shared}{c:Value}{Q:Bool->Shared->Prop}(h:∀b,Q b s):wpAny M A (Y5 c) Q E s:=by
 unfold Y5;exact B62 (wpAny_stack_any λa=>B63 (h _))
theorem qW8 (l:Addr) (a:Array Value):Meets (Builtin.«enumerate.__new__» {pos:=[.type "enumerate",.ref l]}) λ_ R s=>
  s.heap.IsTuple l a/\R (.ok (.ret (.ref (s.heap.push (itObj true l)).objs.size))) {s with heap:=(s.heap.push (itObj true l)).push {cls:=.type "enumerate",data:=.fields #[.none,.bool false,.ref s.heap.objs.size,rawInt 0,.none,.none]}}:=by
 refine Meets.of_wp λc w A R s h=>?_;obtain⟨i,h⟩:=h;refine B62 ?_;refine B62 (B63 ?_);refine C42 rfl ?_;refine B62 (C08 sub_enumerate ?_);refine C42 rfl ?_;refine B63 ?_;refine wpAny_ite_true rfl ?_;refine B62 (qTE λk=>?_);have g:wpAny (model c w) A.in1 (pyIter (.ref l) >>= λj=>n8 (.type "enumerate") (A66++[j,rawInt 0,.none,.none]) >>= λv=>ret v) (λd f=>∃v,d=.done (.ret v)/\R (.ok (.ret v)) f) (λe f=>R (.error e) f) s:=by
  refine B62 (qST (b:=true) i ?_);refine B62 ?_;unfold n8;dsimp only;refine B74 ?_ (by first|rfl|(show(6:Nat)<=B64+2;rw[B77];decide))
  exact B63 ⟨_,rfl,h⟩
 cases k
 ·exact g
 ·exact g
theorem qTH {prog:B66}{w:World}{A:Around}{E:Value->Shared->Prop}{s:Shared}{l:Addr}{a:Array Value}{Q:Value->Shared->Prop}(f:s.heap.IsTuple l a)
  (h:∀h':Heap,IsEnum h' (s.heap.objs.size+1) s.heap.objs.size 0 .none->h'.IsTupleIter s.heap.objs.size l 0->h'.objs.size=s.heap.objs.size+2->(∀(b:Addr) (o:Obj),s.heap.get? b=some o->h'.get? b=some o)->Q (.ref (s.heap.objs.size+1)) {s with heap:=h'}):
  wpAny (model prog w) A (call (.type "enumerate") [.ref l]) Q E s:=by
 refine callType_new F.called_enumerate (by decide) (F.typeCall_enumerate_1 _) (F.newCall_enumerate_1 _) (λd=>A53 d _) F.entry_enumerate_new (qW8 l a) ⟨f,?_⟩
 have c:(s.heap.push (itObj true l)).objs.size=s.heap.objs.size+1:=N9 ..;rw[c];have g:((s.heap.push (itObj true l)).push {cls:=.type "enumerate",data:=.fields #[.none,.bool false,.ref s.heap.objs.size,rawInt 0,.none,.none]}).get? (s.heap.objs.size+1)=some {cls:=.type "enumerate",data:=.fields #[.none,.bool false,.ref s.heap.objs.size,rawInt 0,.none,.none]}:=by
  rw[<- c];exact B5 _ rfl
 exact⟨⟨_,g,rfl⟩,h _ g ⟨_,A5 _ (B5 _ rfl),rfl,rfl⟩ ((N9 ..).trans (by rw[c])) λb o e=>A5 _ (A5 _ e)⟩
theorem qZM {prog:B66}{w:World}{A:Around}(g:A.handled=none)(d l:Addr)(f:l≠d)(c:Array Value):Draws prog w A d [d,l] c.size (λi v=>c[i]?=some v) λi h=>h.IsTupleIter d l i/\h.IsTuple l c where
 live:=λi h ⟨⟨o,e,_⟩,_⟩=>⟨o,e⟩
 frame:=λi h h' ⟨⟨o,e,r⟩,⟨o2,e2,r2⟩⟩ k=>⟨⟨o,k d (by simp) _ e,r⟩,⟨o2,k l (by simp) _ e2,r2⟩⟩
 item:=λi s Q E hi ⟨h1,h2⟩ hQ=>qHR h1 h2 (C4 hi) λh' a b=>hQ _ h' s.toks (C4 hi) ⟨a,by obtain⟨o,e,r⟩:=h2;exact⟨o,(b.2 l f).trans e,r⟩⟩ b
 done:=λs Q E ⟨h1,h2⟩ hE=>qIQ g h1 h2 (by simp) hE
def IteT (K:PySem.W.Frag)(l:Addr):It:=
 ⟨λi H=>∃xs x,SqT K H l xs/\xs[i]?=some x,λi H v H'=>∃T x,H T=none/\v=.ref T/\H'=Ag H T (.tup [.int (i:Int),x])/\∀xs,SqT K H l xs->xs[i]?=some x,λi H=>∃xs,SqT K H l xs/\xs.length=i⟩
section
variable{X:Cx}
theorem qSJ {P:B66}{w:World}{K:PySem.W.Frag}{a6:List Expr}{k:Nat}{pos:Pos}(l a e:Addr)(m:e≠a)(hl:l≠a)(a9:l≠e):Turn P w K (.Tuple a6 k pos) (IteT K l) [e,a] e (λi h=>(∃old,IsEnum h e a i old)/\h.IsTupleIter a l i) where
 mem:=by simp
 obj:=λi h j b g=>by
  obtain⟨⟨old,d⟩,o,f,_,h4⟩:=j;have e':b=e\/b=a:=by simpa using g
  rcases e' with rfl|rfl
  ·exact⟨_,d,λv z=>by
    have z':A63 _=B15 v:=z;cases z'⟩
  ·exact⟨o,f,λv z=>by rw[h4] at z;cases z⟩
 keep:=λi h h' j kk=>by
  obtain⟨⟨old,d⟩,f⟩:=j;exact⟨⟨old,kk e (by simp) _ d⟩,f.at λo q=>kk a (by simp) o q⟩
 item:=by
  intro X hP hw hK hc i Ab s σ H E I hf j hg;subst hP hw hK;obtain⟨xs,x,hq,hx⟩:=hg;obtain⟨c,rv,p,hz⟩:=I.tuple hq;obtain⟨u,hu,ru⟩:=rv.get hx;obtain⟨⟨old,d⟩,f⟩:=j;have n:i<c.toArray.size:=by have:=(A3.mp hu).1;simpa using this
  refine wpAny_pyNext_enum_itemD (qZM (A:=X.A.in1) (I.ok.hd hc) a l hl c.toArray) d ⟨f,p⟩ n m (by simp[m,J8 a9]) λu' h' tk a0 a1 a2 a3 a4 a5=>?_
  have eu:u'=u:=by
   have:c[i]?=some u':=by simpa using a0
   rw[hu] at this;exact(D5 this).symm
  subst eu;refine ⟨_,rfl,wpAny_letOwnedTupleGo_enum a1 fun t b1 b2=>?_⟩;have r:e<s.heap.objs.size:=B7 d;have I1:Inv X Ab σ H { s with heap:=t,toks:=tk+1 }:=I.turnedL (ch:=[e,a]) (fun b o g q=>by
   have y:b≠e:=λz=>g (by simp[z])
   have a8:b≠a:=λz=>g (by simp[z])
   exact(b2.2 b y).trans (a5 b o y a8 q)) hf
  have hT:H s.heap.objs.size=none:=I.hok.fresh (A7 _);have fT:=I.fpOk (H':=H) (b:=s.heap.objs.size) (A7 _) hT;have gT:t.get? s.heap.objs.size=some {cls:=.type "tuple",data:=.seq #[.int i tk,u']}:=(b2.2 _ (V9 r)).trans a3;refine⟨.ref s.heap.objs.size,Ag H s.heap.objs.size (.tup [.int (i:Int),x]),I1.track hT I.sz fT.2.1 fT.2.2.2.2.1 fT.2.2.2.2.2 ⟨by simp only[D3,O9];rw[B77];decide,[.int (i:Int) tk,u'],.cons ⟨_,rfl⟩ (.cons ru .nil),⟨_,gT,rfl,_,rfl⟩⟩,rfl,
   ⟨_,x,hT,rfl,rfl,λys hy=>by rw[I.tuple_inj hy hq];exact hx⟩,⟨⟨_,b1⟩,a2.1.at λo q=>(b2.2 a (J8 m)).trans q⟩,λb g=>?_⟩
  have a7:b<s.heap.objs.size:=by
   have e':b=e\/b=a:=by simpa using g
   rcases e' with rfl|rfl
   ·exact r
   ·obtain⟨o,q,_⟩:=f;exact B7 q
  rw[qA9 (C6 a7)];exact(hf b g).1
 done:=by
  intro X hP hw hK hc i Ab s σ H E I hf j hg;subst hP hw hK;obtain⟨xs,hq,hx⟩:=hg;obtain⟨c,rv,p,hz⟩:=I.tuple hq;have aa:=rv.length;obtain⟨⟨old,d⟩,f⟩:=j;have n:i=c.toArray.size:=by simp;lia
  subst n;exact wpAny_pyNext_enum_endD (qZM (A:=X.A.in1) (I.ok.hd hc) a l hl c.toArray) d ⟨f,p⟩ λh' eb=>⟨rfl,I.turnedL (t':=s.toks) (ch:=[e,a]) (λb o g q=>eb b o (λz=>g (by simp[z])) q) hf⟩
 self:=λ_ _ _ _ _ j h=>by
  obtain⟨⟨old,d⟩,f⟩:=j;exact C25 d h
def qd4 (K:PySem.W.Frag)(ta:TA):TI:=λσ H R=>ta σ H λvs H1=>∃l,vs=[.ref l]/\(∃xs,SqT K H1 l xs)/\R (IteT K l) H1
theorem qXU {f:List Expr} {k:Nat} {d:Pos} {a:Expr} {i:TA} {p pos:Pos} (r:Gl X "enumerate") (w:X.mg "enumerate" = none) (x:B70 "enumerate" = some (.type "enumerate")) (ha:PA X [a] i) (hs:B69 [a] X.env=[(false,eval a X.env)]:=by rfl):
  PI X (.Tuple f k d) (.Call (.Name "enumerate" p) [a] [] pos) (qd4 X.K i):=by
 intro m s σ H R I h;refine Call_ (qIB I r w x (P6 (thn (ha pos m s σ H _ I h) λus s1 ⟨vs,H1,I1,r1,q1⟩=>?_) hs rfl));obtain⟨l,e,⟨xs,z⟩,q⟩:=q1;subst e;obtain⟨u,rfl,rx⟩:=qE1 r1;cases rx;obtain⟨n,rv,j,hz⟩:=I1.tuple z;have c:l<s1.heap.objs.size:=by obtain⟨o,e,_⟩:=j;exact B7 e
 refine qTH j λv g hi a0 hk=>?_;refine C25 g ?_;have I2:Inv X m σ H1 {s1 with heap:=v}:=I1.kept (t':=s1.toks) hk;refine⟨s1.heap.objs.size+1,[s1.heap.objs.size+1,s1.heap.objs.size],_,_,H1,rfl,I2,qSJ l s1.heap.objs.size (s1.heap.objs.size+1) (m5 _) (C6 c) (C6 (L5 c)),⟨⟨_,g⟩,hi⟩,λb y=>?_,q⟩;have t:b=s1.heap.objs.size+1\/b=s1.heap.objs.size:=by simpa using y
 rcases t with rfl|rfl
 ·exact I1.fpOk (Z2 _) (I1.hok.fresh (Z2 _))
 ·exact I1.fpOk (A7 _) (I1.hok.fresh (A7 _))
end
theorem qVY {K:PySem.W.Frag}{a:Addr}{xs:List V}{g:TG}{d:TS}{D:Ends}{σ0:St}{H0:Hp}(Pv:Nat->St->Hp->Prop)(h:Pv 0 σ0 H0)(k:∀i σ H,i<=xs.length->Pv i σ H->SqT K H a xs)
  (hs:∀i x σ H T,xs[i]?=some x->Pv i σ H->H T=none->g (.ref T) σ (Ag H T (.tup [.int (i:Int),x])) λσ2 H2=>d {D with nx:=Pv (i+1),ct:=Pv (i+1),bk:=D.nx} σ2 H2)
  (f:∀σ H,Pv xs.length σ H->D.nx σ H):
  ∃W:Nat->Nat->St->Hp->Prop,(∃m,W 0 m σ0 H0)/\∀i m σ H,W i m σ H->
   ((IteT K a).stop i H/\D.nx σ H)\/((IteT K a).go i H/\∃N:St->Hp->Prop,(∀σ' H',N σ' H'->∃m',m'<m/\W (i+1) m' σ' H')/\∀x H',(IteT K a).yld i H x H'->g x σ H' λσ2 H2=>d {D with nx:=N,ct:=N,bk:=D.nx} σ2 H2):=by
 refine⟨λi m σ H=>m=xs.length-i/\i<=xs.length/\Pv i σ H,⟨xs.length,by simp,F3 _,h⟩,?_⟩
 rintro i m σ H ⟨rfl,hi,q⟩;have c:=k i σ H hi q;by_cases b:i<xs.length
 ·refine .inr ⟨⟨xs,xs[i],c,by simp[b]⟩,Pv (i+1),λσ' H' j=>⟨xs.length-(i+1),by lia,rfl,b,j⟩,λv H' y=>?_⟩
  obtain⟨T,x,l,n,o,y⟩:=y;subst n o;exact hs i x σ H T (y xs c) q l
 ·have e:i=xs.length:=by lia
  subst e;exact .inl ⟨⟨xs,c,rfl⟩,f σ H q⟩
open PySem
section
variable{es:List Expr}{env:Env}{p:Pos}
theorem qd7 {v a:Expr}:B69 (.Subscript v a p::es) env=(false,eval (.Subscript v a p) env)::B69 es env:=rfl
end
@[irreducible] def cst (i:Int)(p:Pos):Expr:=.Constant (.int i) 0 p
theorem qZR (i:Int)(p:Pos):cst i p=.Constant (.int i) 0 p:=by unfold cst;rfl
theorem qK4 {es:List Expr}{env:Env}{i:Int}{p:Pos}:B69 (cst i p::es) env=(false,eval (cst i p) env)::B69 es env:=by rw[qZR];rfl
theorem qJR {X:Cx}{i:Int}{p:Pos}:PE X (cst i p) (tC (.int i)):=by rw[qZR];exact qA7
def forB:Stmt->List Stmt
 |.For _ _ b _ _=>b
 |_=>[]
theorem qV0 {P:(St->Hp->Prop)->Prop}{B:St->Hp->Prop}(h:∀N:St->Hp->Prop,(∀σ H,B σ H->N σ H)->P N):∃N:St->Hp->Prop,(∀σ' H',N σ' H'->B σ' H')/\P N:=⟨B,λ_ _ z=>z,h B λ_ _ z=>z⟩
theorem qK9 {K:PySem.W.Frag}{a:Addr}{xs:List V}{g:TG}{b:TS}{D:Ends}{σ:St}{H:Hp}(Pv:Nat->St->Hp->Prop)(e:Pv 0 σ H)(f:∀i σ H,i<=xs.length->Pv i σ H->SqL K H a xs)
  (hs:∀i x σ H,xs[i]?=some x->Pv i σ H->∀N:St->Hp->Prop,(∀σ H,Pv (i+1) σ H->N σ H)->g x σ H λσ2 H2=>b {D with nx:=N,ct:=N,bk:=D.nx} σ2 H2) (c:∀σ H,Pv xs.length σ H->D.nx σ H):
  ForG (Itl K a) g b D σ H:=
 qH9 Pv e f (λi x σ H d h=>hs i x σ H d h _ λ_ _ z=>z) c
theorem qLL {lo:Int}{n:Nat}{g:TG}{a:TS}{D:Ends}{σ:St}{H:Hp}(Pv:Nat->St->Hp->Prop)(c:Pv 0 σ H)
  (hs:∀i σ H,i<n->Pv i σ H->∀N:St->Hp->Prop,(∀σ H,Pv (i+1) σ H->N σ H)->g (.int (lo+i)) σ H λσ2 H2=>a {D with nx:=N,ct:=N,bk:=D.nx} σ2 H2) (b:∀σ H,Pv n σ H->D.nx σ H):
  ForG (Itr lo n) g a D σ H:=
 qEC Pv c (λi σ H e d=>hs i σ H e d _ λ_ _ z=>z) b
@[elab_as_elim] theorem us0 {α:Type}{P:List α->Prop}(a:List α)(b:a.length=0)(h:P []):P a:=by
 match a,b with
 |[],_=>exact h
@[elab_as_elim] theorem us1 {α:Type}{P:List α->Prop}(b:List α)(c:b.length=1)(h:∀a,P [a]):P b:=by
 match b,c with
 |[a],_=>exact h a
@[elab_as_elim] theorem us2 {α:Type}{P:List α->Prop}(c:List α)(d:c.length=2)(h:∀a b,P [a,b]):P c:=by
 match c,d with
 |[a,b],_=>exact h a b
@[elab_as_elim] theorem us3 {α:Type}{P:List α->Prop}(d:List α)(e:d.length=3)(h:∀a b c,P [a,b,c]):P d:=by
 match d,e with
 |[a,b,c],_=>exact h a b c
@[elab_as_elim] theorem us4 {α:Type}{P:List α->Prop}(e:List α)(f:e.length=4)(h:∀a b c d,P [a,b,c,d]):P e:=by
 match e,f with
 |[a,b,c,d],_=>exact h a b c d
end L2
namespace L2.G
open PySem PyProof.Rows
abbrev gSM:=StateT SortSt Sem
class NM where
 nm:Value->Int
 good:Value->Prop
variable[NM]
def gkv (p:Keyed):Int:=NM.nm p.1
def gIK (p:Keyed):Prop:=NM.good p.1
class LtOk (prog:B66)(w:World)(A:Around)(s:Shared)(κ0:B98):Prop where
 lt:∀{x y:Value} {Q:Bool->Shared->Prop} {E:Value->Shared->Prop},NM.good x->NM.good y->Q (decide (NM.nm x<NM.nm y)) s->wpAny (model prog w) A (keyLt' κ0 x y) Q E s
noncomputable def gK (xs:Array Keyed)(i:Nat):Int:=match xs[i]? with
 |some p=>NM.nm p.1
 |none=>0
def gSortedTo (xs:Array Keyed)(k:Nat):Prop:=∀i j,i<=j->j<k->gK xs i<=gK xs j
def qC8 (xs:Array Keyed):Prop:=∀p,p∈xs.toList->NM.good p.1
theorem qb2 {xs:Array Keyed}{i:Nat}(hi:i<xs.size):gK xs i=NM.nm xs[i].1:=by unfold gK;rw[getElem?_pos xs i hi]
theorem qG2 {xs a:Array Keyed}{i j:Nat}(h:xs[i]?=a[j]?):gK xs i=gK a j:=by unfold gK;rw[h]
theorem qK8 {xs:Array Keyed}{a d:Nat}(hs:a<xs.size)(f:d<=a)(k:Nat):
  gK (bubble xs a d) k=if k=a-d then gK xs a else if a-d<k/\k<=a then gK xs (k-1) else gK xs k:=by
 have e:=getElem?_bubble hs d f k;by_cases c:k=a-d
 ·rw[if_pos c] at e ⊢;exact qG2 e
 ·rw[if_neg c] at e ⊢;by_cases b:a-d<k/\k<=a
  ·rw[if_pos b] at e ⊢;exact qG2 e
  ·rw[if_neg b] at e ⊢;exact qG2 e
theorem qH8 {xs:Array Keyed}{i j:Nat}(b:j<=xs.size)(k:Nat):
  gK (mirror xs i j ((j-i)/2)) k=if i<=k/\k<j then gK xs (i+j-1-k) else gK xs k:=by
 have e:=getElem?_mirror_all (i:=i) b k;by_cases a:i<=k/\k<j
 ·rw[if_pos a] at e ⊢;exact qG2 e
 ·rw[if_neg a] at e ⊢;exact qG2 e
theorem qB3 {xs:Array Keyed}{i j:Nat}(c:j<=xs.size)(a:∀k,i<=k->k<j->gK xs k=gK xs (j-1))(k:Nat):
  gK (mirror xs i j ((j-i)/2)) k=gK xs k:=by
 rw[qH8 c]
 split
 ·rw[a _ (by omega) (by omega),a k (by omega) (by omega)]
 ·rfl
noncomputable def qYP:Bool->Keyed->Array Keyed->Nat->Nat->Nat->gSM (Option Nat):=sortPriv% PySem.Builtin.gallop
noncomputable def gbey (left:Bool)(key:Keyed)(arr:Array Keyed)(base i:Nat):gSM (Option Bool):=do
 let x <- elem' arr (base+i)
 if left=true then lt' x key else do
  let r <- lt' key x
  pure (r.map λb=>!b)
section
variable{prog:B66}{w:World}{A:Around}{E:Value->Shared->Prop}{s:Shared}{κ0:B98}[LtOk prog w A s κ0]
theorem qH5 {st:SortSt}{x y:Keyed}{Q:Option Bool->SortSt->Prop}(b:kindOf st=κ0)(c:gIK x)(a:gIK y)(h:Q (some (decide (gkv x<gkv y))) st):wpS (model prog w) A E s (lt' x y) Q st:=by
 rw[lt'_eq];refine B65 (C05 ?_);rw[b];refine B65 (wpS_lift (C31 (LtOk.lt c a ⟨rfl,?_⟩)));exact B67 h
theorem qB8 {st:SortSt}{a:Array Keyed}{i:Nat}{x:Keyed}{Q:Keyed->SortSt->Prop}(h:a[i]?=some x)(b:Q x st):wpS (model prog w) A E s (elem' a i) Q st:=by
 rw[elem'_eq,h];exact B67 b
noncomputable def qAQ (left:Bool)(key:Keyed)(a:Array Keyed)(base i:Nat):Bool:=match a[base+i]? with
 |some x=>if left=true then decide (gkv x<gkv key) else decide (gkv x<=gkv key)
 |none=>false
theorem qH6 {st:SortSt}{left:Bool}{b:Keyed}{a:Array Keyed}{base i:Nat}{Q:Option Bool->SortSt->Prop}(f:kindOf st=κ0)(c:gIK b)(g:∀x∈a.toList,gIK x)(hi:base+i<a.size)(h:Q (some (qAQ left b a base i)) st):
  wpS (model prog w) A E s (gbey left b a base i) Q st:=by
 unfold gbey;have e:a[base+i]?=some (a[base+i]'hi):=C4 hi;have d:gIK (a[base+i]'hi):=g _ (by simp)
 unfold qAQ at h;rw[e] at h;refine B65 (qB8 e ?_);cases left with
 |true=>exact qH5 f d c h
 |false=>
  refine B65 (qH5 f c d ?_);refine B67 ?_;have:(!decide (gkv b<gkv a[base+i]))=decide (gkv a[base+i]<=gkv b):=by
   by_cases q:gkv b<gkv a[base+i]
   ·rw[decide_eq_true q,decide_eq_false (by omega)];rfl
   ·rw[decide_eq_false q,decide_eq_true (by omega)];rfl
  show Q (some (!decide (gkv b<gkv a[base+i]))) st;rw[this];exact h
theorem qG0 {st:SortSt}{left:Bool}{b:Keyed}{a:Array Keyed}{base n hint:Nat}{Q:Option Nat->SortSt->Prop}(hk:kindOf st=κ0)(t:gIK b)(ha:∀x∈a.toList,gIK x)(hn:base+n<=a.size)(hh:hint<n)
  (p:∀i j,i<=j->j<n->qAQ left b a base j=true->qAQ left b a base i=true)
  (h:∀k,k<=n->(∀i,i<k->qAQ left b a base i=true)->(∀i,k<=i->i<n->qAQ left b a base i=false)->Q (some k) st):
  wpS (model prog w) A E s (qYP left b a base n hint) Q st:=by
 have m:∀i j,i<=j->j<n->qAQ left b a base i=false->qAQ left b a base j=false:=λi j a0 hj e=>by
  cases q:qAQ left b a base j with
  |false=>rfl
  |true=>rw[p i j a0 hj q] at e;cases e
 unfold qYP;show wpS _ _ _ _ (gbey left b a base hint >>= _) _ _;refine B65 (qH6 hk t ha (by omega) ?_)
 dsimp only;cases e:qAQ left b a base hint with
 |true=>
  rw [if_pos rfl];refine B65 (B92 (B78 (I:=fun x c f=>f=st/\∃ l o,c=(none,l,o)/\l<o/\x+1<=o/\hint+l<n/\qAQ left b a base (hint+l)=true)
   (Q:=λc f=>f=st/\∃l o,c=(none,l,o)/\l<o/\hint+l<n/\qAQ left b a base (hint+l)=true/\(o>=n-hint\/qAQ left b a base (hint+o)=false)) ?step ?fin ⟨rfl,0,1,rfl,by omega,by omega,by omega,e⟩) ?post)
  case fin=>
   rintro c f ⟨rfl,l,o,rfl,h1,h2,h3,h4⟩;exact⟨rfl,l,o,rfl,h1,h3,h4,.inl (by omega)⟩
  case step=>
   rintro x c f _ hx ⟨rfl,l,o,rfl,h1,h2,h3,h4⟩;dsimp only;by_cases g:o>=n-hint
   ·rw[if_pos g];exact B67 ⟨rfl,l,o,rfl,h1,h3,h4,.inl g⟩
   ·rw[if_neg g];show wpS _ _ _ _ (gbey left b a base (hint+o) >>= _) _ _;refine B65 (qH6 hk t ha (by omega) ?_)
    dsimp only;cases e2:qAQ left b a base (hint+o) with
    |false=>
     rw[if_pos (by rfl)]
     exact B67 ⟨rfl,l,o,rfl,h1,h3,h4,.inr e2⟩
    |true=>
     rw[if_neg (by simp)]
     exact B67 ⟨rfl,o,2*o+1,rfl,by omega,by omega,by omega,e2⟩
  case post=>
   rintro c f ⟨rfl,l,o,rfl,h1,h3,h4,h5⟩;dsimp only;have y:∀i,i<hint+l+1->qAQ left b a base i=true:=λi v=>p i (hint+l) (by omega) h3 h4
   have z:∀i,hint+min o (n-hint)<=i->i<n->qAQ left b a base i=false:=λi v u=>by
    rcases h5 with h5|h5
    ·omega
    ·exact m (hint+o) i (by omega) u h5
   refine B65 (B92 (B78 (I:=fun x c d=>d=f/\∃ l r,c=(none,l,r)/\l<=r/\r<=n/\r - l<=n - x/\(∀ i,i<l->qAQ left b a base i=true)/\∀ i,r<=i->i<n->qAQ left b a base i=false)
    (Q:=λc d=>d=f/\∃l,c=(none,l,l)/\l<=n/\(∀i,i<l->qAQ left b a base i=true)/\∀i,l<=i->i<n->qAQ left b a base i=false) ?bstep ?bfin ⟨rfl,hint+l+1,hint+min o (n-hint),rfl,by omega,by omega,by omega,y,z⟩) ?bpost)
   case bfin=>
    rintro c d ⟨rfl,l,r,rfl,h1,h2,h3,h4,h5⟩;have:l=r:=by omega
    subst this;exact⟨rfl,l,rfl,h2,h4,h5⟩
   case bpost=>
    rintro c d ⟨rfl,l,rfl,h1,h2,h3⟩;exact B67 (h l h1 h2 h3)
   case bstep=>
    rintro x c d _ hx ⟨rfl,l,r,rfl,h1,h2,h3,h4,h5⟩;dsimp only;by_cases g:l>=r
    ·rw[if_pos g];have:l=r:=by omega
     subst this;exact B67 ⟨rfl,l,rfl,h2,h4,h5⟩
    ·rw[if_neg g];show wpS _ _ _ _ (gbey left b a base (l+(r-l)/2) >>= _) _ _;refine B65 (qH6 hk t ha (by omega) ?_)
     dsimp only;cases e9:qAQ left b a base (l+(r-l)/2) with
     |true=>
      rw[if_pos rfl];exact B67 ⟨rfl,_,_,rfl,by omega,h2,by omega,λi v=>p i _ (by omega) (by omega) e9,h5⟩
     |false=>
      rw[if_neg B4];exact B67 ⟨rfl,_,_,rfl,by omega,by omega,by omega,h4,λi v u=>m _ i v u e9⟩
 |false=>
  rw [if_neg B4];refine B65 (B92 (B78 (I:=fun x c f=>f=st/\∃ l o,c=(none,l,o)/\l<o/\x+1<=o/\l<=hint/\qAQ left b a base (hint - l)=false)
   (Q:=λc f=>f=st/\∃l o,c=(none,l,o)/\l<o/\l<=hint/\qAQ left b a base (hint-l)=false/\(o>=hint+1\/qAQ left b a base (hint-o)=true)) ?step ?fin ⟨rfl,0,1,rfl,by omega,by omega,by omega,e⟩) ?post)
  case fin=>
   rintro c f ⟨rfl,l,o,rfl,h1,h2,h3,h4⟩;exact⟨rfl,l,o,rfl,h1,h3,h4,.inl (by omega)⟩
  case step=>
   rintro x c f _ hx ⟨rfl,l,o,rfl,h1,h2,h3,h4⟩;dsimp only;by_cases g:o>=hint+1
   ·rw[if_pos g];exact B67 ⟨rfl,l,o,rfl,h1,h3,h4,.inl g⟩
   ·rw[if_neg g];show wpS _ _ _ _ (gbey left b a base (hint-o) >>= _) _ _;refine B65 (qH6 hk t ha (by omega) ?_)
    dsimp only;cases e2:qAQ left b a base (hint-o) with
    |true=>
     rw[if_pos rfl];exact B67 ⟨rfl,l,o,rfl,h1,h3,h4,.inr e2⟩
    |false=>
     rw[if_neg B4];exact B67 ⟨rfl,o,2*o+1,rfl,by omega,by omega,by omega,e2⟩
  case post=>
   rintro c f ⟨rfl,l,o,rfl,h1,h3,h4,h5⟩;dsimp only;have y:∀i,i<hint+1-min o (hint+1)->qAQ left b a base i=true:=λi v=>by
    rcases h5 with h5|h5
    ·omega
    ·exact p i (hint-o) (by omega) (by omega) h5
   have z:∀ i,hint - l<=i->i<n->qAQ left b a base i=false:=fun i v u=>m (hint - l) i v u h4;refine B65 (B92 (B78 (I:=fun x c d=>d=f/\∃ l r,c=(none,l,r)/\l<=r/\r<=n/\r - l<=n - x/\(∀ i,i<l->qAQ left b a base i=true)/\∀ i,r<=i->i<n->qAQ left b a base i=false)
    (Q:=λc d=>d=f/\∃l,c=(none,l,l)/\l<=n/\(∀i,i<l->qAQ left b a base i=true)/\∀i,l<=i->i<n->qAQ left b a base i=false) ?bstep ?bfin ⟨rfl,hint+1-min o (hint+1),hint-l,rfl,by omega,by omega,by omega,y,z⟩) ?bpost)
   case bfin=>
    rintro c d ⟨rfl,l,r,rfl,h1,h2,h3,h4,h5⟩;have:l=r:=by omega
    subst this;exact⟨rfl,l,rfl,h2,h4,h5⟩
   case bpost=>
    rintro c d ⟨rfl,l,rfl,h1,h2,h3⟩;exact B67 (h l h1 h2 h3)
   case bstep=>
    rintro x c d _ hx ⟨rfl,l,r,rfl,h1,h2,h3,h4,h5⟩;dsimp only;by_cases g:l>=r
    ·rw[if_pos g];have:l=r:=by omega
     subst this;exact B67 ⟨rfl,l,rfl,h2,h4,h5⟩
    ·rw[if_neg g];show wpS _ _ _ _ (gbey left b a base (l+(r-l)/2) >>= _) _ _;refine B65 (qH6 hk t ha (by omega) ?_)
     dsimp only;cases e9:qAQ left b a base (l+(r-l)/2) with
     |true=>
      rw[if_pos rfl];exact B67 ⟨rfl,_,_,rfl,by omega,h2,by omega,λi v=>p i _ (by omega) (by omega) e9,h5⟩
     |false=>
      rw[if_neg B4];exact B67 ⟨rfl,_,_,rfl,by omega,by omega,by omega,h4,λi v u=>m _ i v u e9⟩
end
end L2.G
namespace L2.G
open PySem PyProof.Rows
variable[NM]
structure gMR (R:Keyed->Keyed->Prop)(all out ra rb:List Keyed):Prop where
 perm:(out++(ra++rb)).Perm all
 up:out.Pairwise R
 ua:ra.Pairwise R
 ub:rb.Pairwise R
 la:∀x∈out,∀y∈ra,R x y
 lb:∀x∈out,∀y∈rb,R x y
section
variable{R:Keyed->Keyed->Prop}{all out ra rb xs:List Keyed}
theorem gMR.symm (h:gMR R all out ra rb):gMR R all out rb ra:=⟨((List.Perm.refl out).append (A38)).trans h.perm,h.up,h.ub,h.ua,h.lb,h.la⟩
theorem gMR.takeA (h:gMR R all out (xs++ra) rb)(c:∀x∈xs,∀y∈rb,R x y):gMR R all (out++xs) ra rb:=by
 have ua:=P9.mp h.ua;refine⟨?_,P9.mpr ⟨h.up,ua.1,λx hx y a=>h.la x hx y (A8.mpr (.inl a))⟩,ua.2.1,h.ub,λx hx y a=>?_,λx hx y a=>?_⟩
 ·have e:out++xs++(ra++rb)=out++((xs++ra)++rb):=by simp[P3]
  rw[e];exact h.perm
 ·rcases A8.mp hx with hx|hx
  ·exact h.la x hx y (A8.mpr (.inr a))
  ·exact ua.2.2 x hx y a
 ·rcases A8.mp hx with hx|hx
  ·exact h.lb x hx y a
  ·exact c x hx y a
theorem gMR.takeB (h:gMR R all out ra (xs++rb))(c:∀x∈xs,∀y∈ra,R x y):gMR R all (out++xs) ra rb:=(gMR.takeA h.symm c).symm
theorem gMR.allA (h:gMR R all out ra []):(out++ra).Perm all/\(out++ra).Pairwise R:=by
 have a:gMR R all out (ra++[]) []:=by rw[P7];exact h
 have q:=a.takeA λ_ _ _ z=>nomatch z;exact⟨by have:=q.perm;simpa using this,q.up⟩
theorem gMR.allB (h:gMR R all out [] rb):(out++rb).Perm all/\(out++rb).Pairwise R:=h.symm.allA
theorem gMR.lastA {z:Keyed}(h:gMR R all out [z] rb)(c:∀y∈rb,R y z):(out++rb++[z]).Perm all/\(out++rb++[z]).Pairwise R:=by
 have b:gMR R all out [z] (rb++[]):=by rw[P7];exact h
 exact(b.takeB λx d y a=>by rw[A6.mp a];exact c x d).allA
end
abbrev grUp (x y:Keyed):Prop:=gkv x<=gkv y
abbrev grDn (x y:Keyed):Prop:=gkv y<=gkv x
def gRes (all r:List Keyed):Prop:=r.Perm all/\r.Pairwise grUp
def gSE (st st':SortSt):Prop:=kindOf st'=kindOf st/\arrOf st'=arrOf st/\B68 st'=B68 st/\failedOf st'=failedOf st
theorem gSE.refl (st:SortSt):gSE st st:=⟨rfl,rfl,rfl,rfl⟩
def gmLo:Array Keyed->Array Keyed->gSM (Array Keyed):=sortPriv% PySem.Builtin.mergeLo
def gmHi:Array Keyed->Array Keyed->gSM (Array Keyed):=sortPriv% PySem.Builtin.mergeHi
theorem qDF {l:List Keyed}{i:Nat}{x:Keyed}(h:l[i]?=some x):l.drop i=[x]++l.drop (i+1):=by
 obtain⟨a,e⟩:=A3.mp h;rw[G3 a,e]
 rfl
theorem qC5 {a:Array Keyed}{i:Nat}(h:i<a.size):∃x,a[i]?=some x/\a.toList[i]?=some x/\x∈a.toList:=⟨a[i],C4 h,by simp[h],by simp⟩
theorem qAX (a:Array Keyed)(i j:Nat):(a.extract i j).toList=(a.toList.drop i).take (j-i):=by simp
theorem qGG {l:List Keyed}{i k:Nat}:l.drop i=(l.drop i).take k++l.drop (i+k):=by
 rw[<- y9,X4]
theorem qEQ {left:Bool}{b:Keyed}{a:Array Keyed}{base n:Nat}(l:base+n<=a.size)(u:(a.toList.drop base).Pairwise grUp):∀i j,i<=j->j<n->qAQ left b a base j=true->qAQ left b a base i=true:=by
 intro i j h k e;by_cases c:i=j
 ·subst c;exact e
 have d:base+j<a.size:=by omega
 have g:base+i<a.size:=by omega
 have m:gkv a[base+i]<=gkv a[base+j]:=by
  have:=F8.mp u i j (by simp;omega) (by simp;omega) (by omega)
  simpa using this
 unfold qAQ at e ⊢;rw[C4 d] at e;rw[C4 g];cases left with
 |true=>
  have f:decide (gkv a[base+j]<gkv b)=true:=e;show decide (gkv a[base+i]<gkv b)=true;have:=of_decide_eq_true f;exact decide_eq_true (by omega)
 |false=>
  have f:decide (gkv a[base+j]<=gkv b)=true:=e;show decide (gkv a[base+i]<=gkv b)=true;have:=of_decide_eq_true f;exact decide_eq_true (by omega)
theorem qOO {b:Keyed}{a:Array Keyed}{base n k:Nat}(j:k<=n)(g:base+n<=a.size)(h:∀i,i<k->qAQ true b a base i=true):∀x∈(a.toList.drop base).take k,gkv x<gkv b:=by
 intro x c;obtain⟨i,d,rfl⟩:=M7 c;simp only[C5,M9,C2] at d;have e:=h i (by omega)
 unfold qAQ at e;rw[C4 (show base+i<a.size by omega)] at e
 have f:decide (gkv a[base+i]<gkv b)=true:=e;simpa using of_decide_eq_true f
theorem qOP {b:Keyed}{a:Array Keyed}{base n k:Nat}(j:k<=n)(g:base+n<=a.size)(h:∀i,i<k->qAQ false b a base i=true):∀x∈(a.toList.drop base).take k,gkv x<=gkv b:=by
 intro x c;obtain⟨i,d,rfl⟩:=M7 c;simp only[C5,M9,C2] at d;have e:=h i (by omega)
 unfold qAQ at e;rw[C4 (show base+i<a.size by omega)] at e
 have f:decide (gkv a[base+i]<=gkv b)=true:=e;simpa using of_decide_eq_true f
theorem qLJ {b:Keyed}{a:Array Keyed}{base n k:Nat}(g:base+n<=a.size)(h:∀i,k<=i->i<n->qAQ true b a base i=false):∀x∈((a.toList.drop base).take n).drop k,gkv b<=gkv x:=by
 intro x c;obtain⟨i,d,rfl⟩:=M7 c;simp only[C5,M9,C2] at d;have e:=h (k+i) (by omega) (by omega)
 unfold qAQ at e;rw[C4 (show base+(k+i)<a.size by omega)] at e
 have f:decide (gkv a[base+(k+i)]<gkv b)=false:=e;have:=of_decide_eq_false f;simp only[A08,A09,A54];omega
theorem qLI {b:Keyed}{a:Array Keyed}{base n k:Nat}(g:base+n<=a.size)(h:∀i,k<=i->i<n->qAQ false b a base i=false):∀x∈((a.toList.drop base).take n).drop k,gkv b<gkv x:=by
 intro x c;obtain⟨i,d,rfl⟩:=M7 c;simp only[C5,M9,C2] at d;have e:=h (k+i) (by omega) (by omega)
 unfold qAQ at e;rw[C4 (show base+(k+i)<a.size by omega)] at e
 have f:decide (gkv a[base+(k+i)]<=gkv b)=false:=e;have:=of_decide_eq_false f;simp only[A08,A09,A54];omega
end L2.G
namespace L2.G
open PySem PyProof.Rows
variable[NM]
theorem gifT {prog:B66}{w:World}{A:Around}{E:Value->Shared->Prop}{s:Shared}{α:Type}{c:Prop}[Decidable c]{x y:gSM α}{Q:α->SortSt->Prop}{st:SortSt}(h:c)(k:wpS (model prog w) A E s x Q st):wpS (model prog w) A E s (if c then x else y) Q st:=by rw[if_pos h];exact k
theorem gifF {prog:B66}{w:World}{A:Around}{E:Value->Shared->Prop}{s:Shared}{α:Type}{c:Prop}[Decidable c]{x y:gSM α}{Q:α->SortSt->Prop}{st:SortSt}(h:¬c)(k:wpS (model prog w) A E s y Q st):wpS (model prog w) A E s (if c then x else y) Q st:=by rw[if_neg h];exact k
theorem gtwo {α:Type}{A:Prop}{M G:α->Prop}(b:(∀o,M o->G o)->A)(a:∀o,M o->G o):A:=b a
section
variable{prog:B66}{w:World}{A:Around}{E:Value->Shared->Prop}{s:Shared}{κ0:B98}[LtOk prog w A s κ0]
theorem qYJ {st:SortSt}{a b:Array Keyed}{Q:Array Keyed->SortSt->Prop}(hk:kindOf st=κ0)(ka:∀x∈a.toList,gIK x)(kb:∀x∈b.toList,gIK x)(ua:a.toList.Pairwise grUp)(ub:b.toList.Pairwise grUp)(na:0<a.size)(nb:0<b.size)
  (first:∀y,b.toList[0]?=some y->∀x∈a.toList,gkv y<=gkv x) (a9:∀z,a.toList[a.size-1]?=some z->∀y∈b.toList,gkv y<=gkv z)
  (h:∀r st',gSE st st'->gRes (a.toList++b.toList) r.toList->Q r st'):wpS (model prog w) A E s (gmLo a b) Q st:=by
 have tl:(a.toList++b.toList).length=a.size+b.size:=by simp
 -- ways out
 have t:∀(out:Array Keyed) (ia:Nat),gMR grUp (a.toList++b.toList) out.toList (a.toList.drop ia) (b.toList.drop b.size)->gRes (a.toList++b.toList) (out++a.extract ia a.size++b.extract b.size b.size).toList:=by
  intro out ia m;have e:b.toList.drop b.size=[]:=d8 (by simp)
  rw[e] at m;have q:=m.allA;have e2:(out++a.extract ia a.size++b.extract b.size b.size).toList=out.toList++a.toList.drop ia:=by
   rw[E6,E6,qAX,qAX,e,B45,P7,D0 (by simp)]
  rw[e2];exact q
 have a7:∀(out:Array Keyed) (ib:Nat),gMR grUp (a.toList++b.toList) out.toList (a.toList.drop a.size) (b.toList.drop ib)->gRes (a.toList++b.toList) (out++a.extract a.size a.size++b.extract ib b.size).toList:=by
  intro out ib m;have e:a.toList.drop a.size=[]:=d8 (by simp)
  rw[e] at m;have q:=m.allB;have e2:(out++a.extract a.size a.size++b.extract ib b.size).toList=out.toList++b.toList.drop ib:=by
   rw[E6,E6,qAX,qAX,e,B45,P7,D0 (by simp)]
  rw[e2];exact q
 have v:∀(out:Array Keyed) (ia ib:Nat),ia+1=a.size->gMR grUp (a.toList++b.toList) out.toList (a.toList.drop ia) (b.toList.drop ib)->gRes (a.toList++b.toList) (out++b.extract ib b.size++a.extract ia a.size).toList:=by
  intro out ia ib ak m;obtain⟨z,_,hz,_⟩:=qC5 (a:=a) (i:=ia) (by lia)
  have e:a.toList.drop ia=[z]:=by rw[qDF hz,d8 (by simp;lia)];rfl
  rw[e] at m;have q:=m.lastA λy hy=>a9 z (by rw[show a.size-1=ia by lia];exact hz) y (R7 hy)
  have e2:(out++b.extract ib b.size++a.extract ia a.size).toList=out.toList++b.toList.drop ib++[z]:=by
   rw[E6,E6,qAX,qAX,e,D0 (by simp),D0 (by simp;lia)]
  rw[e2];exact q
 -- the first of b
 obtain⟨y0,af,a4,_⟩:=qC5 (a:=b) (i:=0) nb;have m0:gMR grUp (a.toList++b.toList) #[y0].toList (a.toList.drop 0) (b.toList.drop 1):=by
  have m:gMR grUp (a.toList++b.toList) [] a.toList ([y0]++b.toList.drop 1):=by
   rw[<- qDF a4];exact⟨.refl _,.nil,ua,ub,(λ_ z=>nomatch z),(λ_ z=>nomatch z)⟩
  exact m.takeB λx f y hy=>by rw[A6.mp f];exact first y0 a4 y hy
 -- a step of b,a step of a
 have a2:∀{out:Array Keyed} {ia ib:Nat} {y:Keyed},gMR grUp (a.toList++b.toList) out.toList (a.toList.drop ia) (b.toList.drop ib)->b.toList[ib]?=some y->(∀x∈a.toList.drop ia,gkv y<=gkv x)->gMR grUp (a.toList++b.toList) (out.push y).toList (a.toList.drop ia) (b.toList.drop (ib+1)):=by
  intro out ia ib y m hy c;rw[qDF hy] at m;rw[V7];exact m.takeB λx f z hz=>by rw[A6.mp f];exact c z hz
 have a1:∀{out:Array Keyed} {ia ib:Nat} {x:Keyed},gMR grUp (a.toList++b.toList) out.toList (a.toList.drop ia) (b.toList.drop ib)->a.toList[ia]?=some x->(∀y∈b.toList.drop ib,gkv x<=gkv y)->gMR grUp (a.toList++b.toList) (out.push x).toList (a.toList.drop (ia+1)) (b.toList.drop ib):=by
  intro out ia ib x m f c;rw[qDF f] at m;rw[V7];exact m.takeA λz hz y hy=>by rw[A6.mp hz];exact c y hy
 have d:∀{l:List Keyed} {i:Nat} {x:Keyed},l.Pairwise grUp->l[i]?=some x->∀y∈l.drop i,gkv x<=gkv y:=by
  intro l i x u f y hy;have u':=u.sublist (V8 i l);rw[qDF f] at u' hy;rcases A8.mp hy with hy|hy
  ·rw[A6.mp hy];exact O4 _
  ·exact(P9.mp u').2.2 x (by simp) y hy
 have aj:∀{out:Array Keyed} {ia ib:Nat},gMR grUp (a.toList++b.toList) out.toList (a.toList.drop ia) (b.toList.drop ib)->ia<a.size->ib<b.size->ia+ib<a.size+b.size:=λ_ _ _=>by lia
 unfold gmLo;show wpS _ _ _ _ (liftM (rule "list.sort.merge-lo") >>= _) _ _;refine B65 (wpS_lift (B99 ⟨rfl,?_⟩));refine B65 (qB8 af ?_);dsimp only;by_cases a6:b.size=1
 ·refine gifT (by simp[a6]) ?_
  refine B67 (h _ _ (.refl st) ?_);have:=t #[y0] 0 (by rw[a6];exact m0)
  rw[a6] at this ⊢;exact this
 refine gifF (by simp;lia) ?_
 by_cases ah:a.size=1
 ·refine gifT (by simp[ah]) ?_
  exact B67 (h _ _ (.refl st) (v #[y0] 0 1 (by lia) m0))
 refine gifF (by simp;lia) ?_
 refine B65 (C05 ?_);refine B65 (B92 (B78
  (I:=λx c st'=>gSE st st'/\∃(out:Array Keyed) (ia ib mg:Nat),c=(none,out,ia,ib,mg)/\gMR grUp (a.toList++b.toList) out.toList (a.toList.drop ia) (b.toList.drop ib)/\ia+1<a.size/\ib<b.size/\x+1<=ia+ib)
  (Q:=λc st'=>gSE st st'/\∃r rest,c=(some r,rest)/\gRes (a.toList++b.toList) r.toList) ?ostep ?ofin ⟨.refl st,_,0,1,_,rfl,m0,by lia,by lia,by lia⟩) ?opost)
 case opost=>
  rintro c st' ⟨se,r,rest,rfl,hr⟩;exact B67 (h r st' se hr)
 case ofin=>
  rintro c st' ⟨se,out,ia,ib,mg,rfl,m,h1,h2,h3⟩
  lia
 case ostep=>
  rintro x c st1 _ f ⟨se,out,ia,ib,mg,rfl,m,h1,h2,h3⟩;dsimp only;refine B65 (B92 (B78
   (I:=λy c st'=>gSE st st'/\∃(out:Array Keyed) (ia' ib' ac bc:Nat),c=(none,out,ia',ib',ac,bc)/\gMR grUp (a.toList++b.toList) out.toList (a.toList.drop ia') (b.toList.drop ib')/\ia'+1<a.size/\ib'<b.size/\ia+ib+y<=ia'+ib')
   (Q:=λc st'=>gSE st st'/\((∃r rest,c=(some r,rest)/\gRes (a.toList++b.toList) r.toList)\/∃(out:Array Keyed) (ia' ib' ac bc:Nat),c=(none,out,ia',ib',ac,bc)/\gMR grUp (a.toList++b.toList) out.toList (a.toList.drop ia') (b.toList.drop ib')/\ia'+1<a.size/\ib'<b.size/\ia+ib+1<=ia'+ib')) ?istep ?ifin ⟨se,out,ia,ib,0,0,rfl,m,h1,h2,by lia⟩) ?ipost)
  case ifin=>
   rintro c st' ⟨se,out,ia',ib',ac,bc,rfl,m,g1,g2,g3⟩
   lia
  case istep=>
   rintro y c st' _ hy ⟨se,out,ia',ib',ac,bc,rfl,m,g1,g2,g3⟩;dsimp only;obtain⟨yb,e1,a0,mb⟩:=qC5 (a:=b) (i:=ib') g2;obtain⟨xa,e2,a3,ma⟩:=qC5 (a:=a) (i:=ia') (by lia)
   have ae:kindOf st'=κ0:=se.1.trans hk;refine B65 (qB8 e1 (B65 (qB8 e2 (B65 (qH5 ae (kb _ mb) (ka _ ma) ?_)))));dsimp only;by_cases hw:gkv yb<gkv xa
   ·rw[decide_eq_true hw,if_pos rfl];refine B65 (qB8 e1 ?_);have m':=a2 m a0 λx f=>by have:=d ua a3 x f;lia
    by_cases p:ib'+1=b.size
    ·refine gifT (by simp[p]) ?_
     refine B67 ⟨se,.inl ⟨_,_,rfl,?_⟩⟩;rw[p] at m' ⊢;exact t _ _ m'
    ·refine gifF (by simp;exact p) ?_
     split
     ·exact B67 ⟨se,.inr ⟨_,_,_,_,_,rfl,m',g1,by lia,by lia⟩⟩
     ·exact B67 ⟨se,_,_,_,_,_,rfl,m',g1,by lia,by lia⟩
   ·rw[decide_eq_false hw,if_neg B4];refine B65 (qB8 e2 ?_);have m':=a1 m a3 λy hy=>by have:=d ub a0 y hy;lia
    by_cases g:ia'+1+1=a.size
    ·refine gifT (by simp[g]) ?_
     exact B67 ⟨se,.inl ⟨_,_,rfl,v _ _ _ g m'⟩⟩
    ·refine gifF (by simp;exact g) ?_
     split
     ·exact B67 ⟨se,.inr ⟨_,_,_,_,_,rfl,m',by lia,g2,by lia⟩⟩
     ·exact B67 ⟨se,_,_,_,_,_,rfl,m',by lia,g2,by lia⟩
  case ipost=>
   rintro c st2 ⟨se,⟨r,rest,rfl,hr⟩|⟨out,ia1,ib1,ac,bc,rfl,m,g1,g2,g3⟩⟩
   ·exact B67 ⟨se,r,_,rfl,hr⟩
   dsimp only;refine B65 (wpS_lift (B99 ⟨rfl,?_⟩));refine B65 (B92 (B78
    (I:=λy c st'=>gSE st st'/\∃(out:Array Keyed) (ia' ib' mg ac bc:Nat),c=(none,out,ia',ib',mg,ac,bc)/\gMR grUp (a.toList++b.toList) out.toList (a.toList.drop ia') (b.toList.drop ib')/\ia'+1<a.size/\ib'<b.size/\ia1+ib1+y<=ia'+ib')
    (Q:=λc st'=>gSE st st'/\((∃r rest,c=(some r,rest)/\gRes (a.toList++b.toList) r.toList)\/∃(out:Array Keyed) (ia' ib' mg ac bc:Nat),c=(none,out,ia',ib',mg,ac,bc)/\gMR grUp (a.toList++b.toList) out.toList (a.toList.drop ia') (b.toList.drop ib')/\ia'+1<a.size/\ib'<b.size/\ia1+ib1<=ia'+ib')) ?gstep ?gfin ⟨se,out,ia1,ib1,_,ac,bc,rfl,m,g1,g2,by lia⟩) ?gpost)
   case gfin=>
    rintro c st' ⟨se,out,ia',ib',mg,ac,bc,rfl,m,q1,q2,q3⟩
    lia
   case gpost=>
    rintro c st3 ⟨se,⟨r,rest,rfl,hr⟩|⟨out,ia',ib',mg,ac,bc,rfl,m,q1,q2,q3⟩⟩
    ·exact B67 ⟨se,r,_,rfl,hr⟩
    dsimp only;refine B65 (B82 (B67 ?_));exact⟨⟨se.1,se.2.1,se.2.2.1,se.2.2.2⟩,out,ia',ib',_,rfl,m,q1,q2,by lia⟩
   case gstep=>
    rintro y c st0 _ hy ⟨se,out,ia',ib',mg,ac,bc,rfl,m,q1,q2,q3⟩;dsimp only;obtain⟨yb,e1,a0,mb⟩:=qC5 (a:=b) (i:=ib') q2;have hm:b.toList.drop ib'=[yb]++b.toList.drop (ib'+1):=qDF a0;apply gtwo (α:=Nat) (M:=λ_=>True)
    ·intro J;by_cases aa:mg>1
     ·refine gifT aa ?_;refine B65 (B82 ?_);generalize mg-1=n;exact J n trivial
     ·refine gifF aa ?_;refine B65 (B82 ?_);generalize mg=n;exact J n trivial
    ·intro n _;have j:gSE st st0:=se;refine B65 (qB8 e1 ?_);refine B65 (qG0 (left:=false) (n:=a.size-ia') (hint:=0) (se.1.trans hk) (kb _ mb) ka (by lia) (by lia) (qEQ (by lia) (ua.sublist (V8 _ _))) λk k1 k2 k3=>?_)
     dsimp only;have ad:∀x∈a.toList.drop (ia'+k),gkv yb<=gkv x:=λx f=>by
      have q:=qLI (base:=ia') (n:=a.size-ia') (by lia) k3 x
      rw[D0 (by simp),y9] at q
      exact u8 (q f)
     apply gtwo (α:=Array Keyed) (M:=λo=>gMR grUp (a.toList++b.toList) o.toList (a.toList.drop (ia'+k)) (b.toList.drop ib')/\ia'+k+1<a.size)
     ·intro J;by_cases k0:k>0
      ·refine gifT k0 ?_;have mk:gMR grUp (a.toList++b.toList) (out++a.extract ia' (ia'+k)).toList (a.toList.drop (ia'+k)) (b.toList.drop ib'):=by
        rw[E6,qAX,show ia'+k-ia'=k by lia]
        rw[qGG (l:=a.toList) (i:=ia') (k:=k)] at m;exact m.takeA λx f z hz=>by
         have q1:=qOP k1 (by lia) k2 x f
         have q2:=d ub a0 z hz;show gkv x<=gkv z
         lia
       by_cases c1:ia'+k+1=a.size
       ·refine gifT (by simp[c1]) ?_
        exact B67 ⟨j,.inl ⟨_,_,rfl,v _ _ _ c1 mk⟩⟩
       refine gifF (by simp;exact c1) ?_
       by_cases c2:ia'+k=a.size
       ·refine gifT (by simp[c2]) ?_
        refine B67 ⟨j,.inl ⟨_,_,rfl,?_⟩⟩;rw[c2] at mk ⊢;exact a7 _ _ mk
       refine gifF (by simp;exact c2) ?_
       generalize out++a.extract ia' (ia'+k)=o at mk ⊢;exact J o ⟨mk,by lia⟩
      ·refine gifF k0 ?_;have ag:k=0:=by lia
       subst ag;exact J out ⟨m,by lia⟩
     ·rintro o ⟨mk,kp⟩;refine B65 (qB8 e1 ?_);have m1:=a2 mk a0 ad;by_cases p:ib'+1=b.size
      ·refine gifT (by simp[p]) ?_
       refine B67 ⟨j,.inl ⟨_,_,rfl,?_⟩⟩;rw[p] at m1 ⊢;exact t _ _ m1
      refine gifF (by simp;exact p) ?_
      obtain⟨xa,e2,a3,ma⟩:=qC5 (a:=a) (i:=ia'+k) (by lia)
      refine B65 (qB8 e2 ?_);refine B65 (qG0 (left:=true) (n:=b.size-(ib'+1)) (hint:=0) (se.1.trans hk) (ka _ ma) kb (by lia) (by lia) (qEQ (by lia) (ub.sublist (V8 _ _))) λk' j1 j2 j3=>?_)
      dsimp only;have ai:∀y∈b.toList.drop (ib'+1+k'),gkv xa<=gkv y:=λy hy=>by
       have q:=qLJ (base:=ib'+1) (n:=b.size-(ib'+1)) (by lia) j3 y
       rw[D0 (by simp),y9] at q
       exact q hy
      generalize o.push yb=o1 at m1 ⊢;apply gtwo (α:=Array Keyed) (M:=λo=>gMR grUp (a.toList++b.toList) o.toList (a.toList.drop (ia'+k)) (b.toList.drop (ib'+1+k'))/\ib'+1+k'<b.size)
      ·intro J;by_cases ab:k'>0
       ·rw[if_pos ab];have m2:gMR grUp (a.toList++b.toList) (o1++b.extract (ib'+1) (ib'+1+k')).toList (a.toList.drop (ia'+k)) (b.toList.drop (ib'+1+k')):=by
         rw[E6,qAX,show ib'+1+k'-(ib'+1)=k' by lia]
         rw[qGG (l:=b.toList) (i:=ib'+1) (k:=k')] at m1;exact m1.takeB λx f z hz=>by
          have q1:=qOO j1 (by lia) j2 x f
          have q2:=d ua a3 z hz;show gkv x<=gkv z
          lia
        by_cases a5:ib'+1+k'=b.size
        ·refine gifT (by simp[a5]) ?_
         refine B67 ⟨j,.inl ⟨_,_,rfl,?_⟩⟩;rw[a5] at m2 ⊢;exact t _ _ m2
        refine gifF (by simp;exact a5) ?_
        generalize o1++b.extract (ib'+1) (ib'+1+k')=o2 at m2 ⊢;exact J o2 ⟨m2,by lia⟩
       ·rw[if_neg ab];have a8:k'=0:=by lia
        subst a8;exact J o1 ⟨m1,by lia⟩
      ·rintro o2 ⟨m2,kp'⟩;refine B65 (qB8 e2 ?_);have m3:=a1 m2 a3 ai;by_cases g:ia'+k+1+1=a.size
       ·refine gifT (by simp[g]) ?_
        exact B67 ⟨j,.inl ⟨_,_,rfl,v _ _ _ g m3⟩⟩
       refine gifF (by simp;exact g) ?_
       split
       ·exact B67 ⟨j,.inr ⟨_,_,_,_,_,_,rfl,m3,by lia,by lia,by lia⟩⟩
       ·exact B67 ⟨j,_,_,_,_,_,_,rfl,m3,by lia,by lia,by lia⟩
end
end L2.G
namespace L2.G
open PySem PyProof.Rows
variable[NM]
theorem qDO {l:List Keyed}{i:Nat}{x:Keyed}(b:0<i)(h:l[i-1]?=some x):(l.take i).reverse=[x]++(l.take (i-1)).reverse:=by
 obtain⟨j,rfl⟩:∃j,i=j+1:=⟨i-1,by lia⟩
 have a:l[j]?=some x:=h;rw[C8,a,C9,W5]
 rfl
theorem qK5 {l:List Keyed}{i j:Nat}(h:i<=j):(l.take j).reverse=((l.drop i).take (j-i)).reverse++(l.take i).reverse:=by
 rw[<- W5];congr 1;have e:=B46 (l:=l) (i:=i) (j:=j-i);rw[show i+(j-i)=j by lia] at e
 exact e
section
variable{prog:B66}{w:World}{A:Around}{E:Value->Shared->Prop}{s:Shared}{κ0:B98}[LtOk prog w A s κ0]
theorem qYK {st:SortSt}{a b:Array Keyed}{Q:Array Keyed->SortSt->Prop}(hk:kindOf st=κ0)(ka:∀x∈a.toList,gIK x)(kb:∀x∈b.toList,gIK x)(ua:a.toList.Pairwise grUp)(ub:b.toList.Pairwise grUp)(na:0<a.size)(nb:0<b.size)
  (first:∀y,b.toList[0]?=some y->∀x∈a.toList,gkv y<=gkv x) (ab:∀z,a.toList[a.size-1]?=some z->∀y∈b.toList,gkv y<=gkv z)
  (h:∀r st',gSE st st'->gRes (a.toList++b.toList) r.toList->Q r st'):wpS (model prog w) A E s (gmHi a b) Q st:=by
 have a0:∀{l:List Keyed},l.Perm (a.toList++b.toList)/\l.Pairwise grDn->gRes (a.toList++b.toList) l.reverse:=λ{l} q=>⟨(A10 l).trans q.1,X5.mpr q.2⟩;have f:∀(out:Array Keyed) (nb':Nat),gMR grDn (a.toList++b.toList) out.toList (a.toList.take 0).reverse (b.toList.take nb').reverse->gRes (a.toList++b.toList) (a.extract 0 0++b.extract 0 nb'++out.reverse).toList:=by
  intro out nb' m;have q:=a0 (gMR.allB m);have e2:(a.extract 0 0++b.extract 0 nb'++out.reverse).toList=(out.toList++(b.toList.take nb').reverse).reverse:=by
   rw[E6,E6,qAX,qAX,V2,W5,A55];simp
  rw[e2];exact q
 have ag:∀(out:Array Keyed) (na':Nat),gMR grDn (a.toList++b.toList) out.toList (a.toList.take na').reverse (b.toList.take 0).reverse->gRes (a.toList++b.toList) (a.extract 0 na'++b.extract 0 0++out.reverse).toList:=by
  intro out na' m;have q:=a0 (gMR.allA m);have e2:(a.extract 0 na'++b.extract 0 0++out.reverse).toList=(out.toList++(a.toList.take na').reverse).reverse:=by
   rw[E6,E6,qAX,qAX,V2,W5,A55];simp
  rw[e2];exact q
 obtain⟨y0,an,a8,_⟩:=qC5 (a:=b) (i:=0) nb;have g:∀(out:Array Keyed) (na':Nat),gMR grDn (a.toList++b.toList) out.toList (a.toList.take na').reverse (b.toList.take 1).reverse->gRes (a.toList++b.toList) (b.extract 0 1++a.extract 0 na'++out.reverse).toList:=by
  intro out na' m;have e:(b.toList.take 1).reverse=[y0]:=by rw[qDO (by decide) a8];simp
  rw[e] at m;have q:=a0 (m.symm.lastA λy hy=>first y0 a8 y (O5 (m7.mp hy)));have e1:b.toList.take 1=[y0]:=by have:=congrArg List.reverse e;simpa using this
  have e2:(b.extract 0 1++a.extract 0 na'++out.reverse).toList=(out.toList++(a.toList.take na').reverse++[y0]).reverse:=by
   rw[E6,E6,qAX,qAX,V2];simp only[z8,A99,e1];simp
  rw[e2];exact q
 obtain⟨z0,ak,a9,_⟩:=qC5 (a:=a) (i:=a.size-1) (by lia)
 have m0:gMR grDn (a.toList++b.toList) #[z0].toList (a.toList.take (a.size-1)).reverse (b.toList.take b.size).reverse:=by
  have m:gMR grDn (a.toList++b.toList) [] ([z0]++(a.toList.take (a.size-1)).reverse) (b.toList.take b.size).reverse:=by
   rw[<- qDO na a9,D0 (by simp),D0 (by simp)]
   refine⟨?_,.nil,X5.mpr ua,X5.mpr ub,(λ_ z=>nomatch z),(λ_ z=>nomatch z)⟩;exact(A10 _).append (A10 _)
  exact m.takeA λx p y hy=>by rw[A6.mp p];exact ab z0 a9 y (O5 (m7.mp hy))
 have a3:∀{out:Array Keyed} {na' nb':Nat} {y:Keyed},gMR grDn (a.toList++b.toList) out.toList (a.toList.take na').reverse (b.toList.take nb').reverse->0<nb'->b.toList[nb'-1]?=some y->(∀x∈(a.toList.take na').reverse,gkv x<=gkv y)->gMR grDn (a.toList++b.toList) (out.push y).toList (a.toList.take na').reverse (b.toList.take (nb'-1)).reverse:=by
  intro out na' nb' y m h0 hy c;rw[qDO h0 hy] at m;rw[V7];exact m.takeB λx p z hz=>by rw[A6.mp p];exact c z hz
 have a1:∀{out:Array Keyed} {na' nb':Nat} {x:Keyed},gMR grDn (a.toList++b.toList) out.toList (a.toList.take na').reverse (b.toList.take nb').reverse->0<na'->a.toList[na'-1]?=some x->(∀y∈(b.toList.take nb').reverse,gkv y<=gkv x)->gMR grDn (a.toList++b.toList) (out.push x).toList (a.toList.take (na'-1)).reverse (b.toList.take nb').reverse:=by
  intro out na' nb' x m h0 p c;rw[qDO h0 p] at m;rw[V7];exact m.takeA λz hz y hy=>by rw[A6.mp hz];exact c y hy
 have t:∀{l:List Keyed} {i:Nat} {x:Keyed},l.Pairwise grUp->0<i->l[i-1]?=some x->∀y∈(l.take i).reverse,gkv y<=gkv x:=by
  intro l i x u h0 p y hy;have u':((l.take i).reverse).Pairwise grDn:=X5.mpr (u.sublist (V4 i l));rw[qDO h0 p] at u' hy;rcases A8.mp hy with hy|hy
  ·rw[A6.mp hy];exact O4 _
  ·exact(P9.mp u').2.2 x (by simp) y hy
 unfold gmHi;show wpS _ _ _ _ (liftM (rule "list.sort.merge-hi") >>= _) _ _;refine B65 (wpS_lift (B99 ⟨rfl,?_⟩));refine B65 (qB8 ak ?_);dsimp only;by_cases ad:a.size-1=0
 ·refine gifT (by simp[ad]) ?_
  refine B67 (h _ _ (.refl st) ?_);rw[ad] at m0 ⊢;exact f _ _ m0
 refine gifF (by simp;lia) ?_
 by_cases ah:b.size=1
 ·refine gifT (by simp[ah]) ?_
  refine B67 (h _ _ (.refl st) ?_);rw[ah] at m0 ⊢;exact g _ _ m0
 refine gifF (by simp;lia) ?_
 refine B65 (C05 ?_);refine B65 (B92 (B78
  (I:=λx c st'=>gSE st st'/\∃(na' nb':Nat) (out:Array Keyed) (mg:Nat),c=(none,na',nb',out,mg)/\gMR grDn (a.toList++b.toList) out.toList (a.toList.take na').reverse (b.toList.take nb').reverse/\(0<na'/\na'<=a.size)/\(1<nb'/\nb'<=b.size)/\na'+nb'+x+1<=a.size+b.size)
  (Q:=λc st'=>gSE st st'/\∃r rest,c=(some r,rest)/\gRes (a.toList++b.toList) r.toList) ?ostep ?ofin ⟨.refl st,_,_,_,_,rfl,m0,by lia,by lia,by lia⟩) ?opost)
 case opost=>
  rintro c st' ⟨se,r,rest,rfl,hr⟩;exact B67 (h r st' se hr)
 case ofin=>
  rintro c st' ⟨se,na',nb',out,mg,rfl,m,h1,h2,h3⟩
  lia
 case ostep=>
  rintro x c st1 _ p ⟨se,na1,nb1,out,mg,rfl,m,h1,h2,h3⟩;dsimp only;refine B65 (B92 (B78
   (I:=λy c st'=>gSE st st'/\∃(na' nb':Nat) (out:Array Keyed) (ac bc:Nat),c=(none,na',nb',out,ac,bc)/\gMR grDn (a.toList++b.toList) out.toList (a.toList.take na').reverse (b.toList.take nb').reverse/\(0<na'/\na'<=a.size)/\(1<nb'/\nb'<=b.size)/\na'+nb'+y<=na1+nb1)
   (Q:=λc st'=>gSE st st'/\((∃r rest,c=(some r,rest)/\gRes (a.toList++b.toList) r.toList)\/∃(na' nb':Nat) (out:Array Keyed) (ac bc:Nat),c=(none,na',nb',out,ac,bc)/\gMR grDn (a.toList++b.toList) out.toList (a.toList.take na').reverse (b.toList.take nb').reverse/\(0<na'/\na'<=a.size)/\(1<nb'/\nb'<=b.size)/\na'+nb'+1<=na1+nb1)) ?istep ?ifin ⟨se,na1,nb1,out,0,0,rfl,m,h1,h2,by lia⟩) ?ipost)
  case ifin=>
   rintro c st' ⟨se,na',nb',out,ac,bc,rfl,m,g1,g2,g3⟩
   lia
  case istep=>
   rintro y c st' _ hy ⟨se,na',nb',out,ac,bc,rfl,m,g1,g2,g3⟩;dsimp only;obtain⟨yb,e1,a4,mb⟩:=qC5 (a:=b) (i:=nb'-1) (by lia)
   obtain⟨xa,e2,a6,ma⟩:=qC5 (a:=a) (i:=na'-1) (by lia)
   have aj:kindOf st'=κ0:=se.1.trans hk;refine B65 (qB8 e1 (B65 (qB8 e2 (B65 (qH5 aj (kb _ mb) (ka _ ma) ?_)))));dsimp only;by_cases hw:gkv yb<gkv xa
   ·rw[decide_eq_true hw,if_pos rfl];refine B65 (qB8 e2 ?_);have m':=a1 m (by lia) a6 λz hz=>by have:=t ub (by lia) a4 z hz;lia
    by_cases v:na'-1=0
    ·refine gifT (by simp[v]) ?_
     refine B67 ⟨se,.inl ⟨_,_,rfl,?_⟩⟩;rw[v] at m' ⊢;exact f _ _ m'
    ·refine gifF (by simp;lia) ?_
     split
     ·exact B67 ⟨se,.inr ⟨_,_,_,_,_,rfl,m',by lia,by lia,by lia⟩⟩
     ·exact B67 ⟨se,_,_,_,_,_,rfl,m',by lia,by lia,by lia⟩
   ·rw[decide_eq_false hw,if_neg B4];refine B65 (qB8 e1 ?_);have m':=a3 m (by lia) a4 λz hz=>by have:=t ua (by lia) a6 z hz;lia
    by_cases a7:nb'-1=1
    ·refine gifT (by simp[a7]) ?_
     refine B67 ⟨se,.inl ⟨_,_,rfl,?_⟩⟩;rw[a7] at m' ⊢;exact g _ _ m'
    ·refine gifF (by simp;lia) ?_
     split
     ·exact B67 ⟨se,.inr ⟨_,_,_,_,_,rfl,m',by lia,by lia,by lia⟩⟩
     ·exact B67 ⟨se,_,_,_,_,_,rfl,m',by lia,by lia,by lia⟩
  case ipost=>
   rintro c st2 ⟨se,⟨r,rest,rfl,hr⟩|⟨na2,nb2,out,ac,bc,rfl,m,g1,g2,g3⟩⟩
   ·exact B67 ⟨se,r,_,rfl,hr⟩
   dsimp only;refine B65 (wpS_lift (B99 ⟨rfl,?_⟩));refine B65 (B92 (B78
    (I:=λy c st'=>gSE st st'/\∃(na' nb':Nat) (out:Array Keyed) (mg ac bc:Nat),c=(none,na',nb',out,mg,ac,bc)/\gMR grDn (a.toList++b.toList) out.toList (a.toList.take na').reverse (b.toList.take nb').reverse/\(0<na'/\na'<=a.size)/\(1<nb'/\nb'<=b.size)/\na'+nb'+y<=na2+nb2)
    (Q:=λc st'=>gSE st st'/\((∃r rest,c=(some r,rest)/\gRes (a.toList++b.toList) r.toList)\/∃(na' nb':Nat) (out:Array Keyed) (mg ac bc:Nat),c=(none,na',nb',out,mg,ac,bc)/\gMR grDn (a.toList++b.toList) out.toList (a.toList.take na').reverse (b.toList.take nb').reverse/\(0<na'/\na'<=a.size)/\(1<nb'/\nb'<=b.size)/\na'+nb'<=na2+nb2)) ?gstep ?gfin ⟨se,na2,nb2,out,_,ac,bc,rfl,m,g1,g2,by lia⟩) ?gpost)
   case gfin=>
    rintro c st' ⟨se,na',nb',out,mg,ac,bc,rfl,m,q1,q2,q3⟩
    lia
   case gpost=>
    rintro c st3 ⟨se,⟨r,rest,rfl,hr⟩|⟨na',nb',out,mg,ac,bc,rfl,m,q1,q2,q3⟩⟩
    ·exact B67 ⟨se,r,_,rfl,hr⟩
    dsimp only;refine B65 (B82 (B67 ?_));exact⟨⟨se.1,se.2.1,se.2.2.1,se.2.2.2⟩,na',nb',out,_,rfl,m,q1,q2,by lia⟩
   case gstep=>
    rintro y c st0 _ hy ⟨se,na',nb',out,mg,ac,bc,rfl,m,q1,q2,q3⟩;dsimp only;obtain⟨yb,e1,a4,mb⟩:=qC5 (a:=b) (i:=nb'-1) (by lia)
    apply gtwo (α:=Nat) (M:=λ_=>True)
    ·intro J;by_cases ae:mg>1
     ·refine gifT ae ?_;refine B65 (B82 ?_);generalize mg-1=n;exact J n trivial
     ·refine gifF ae ?_;refine B65 (B82 ?_);generalize mg=n;exact J n trivial
    ·intro n _;have d:gSE st st0:=se;refine B65 (qB8 e1 ?_);refine B65 (qG0 (left:=false) (base:=0) (n:=na') (hint:=na'-1) (se.1.trans hk) (kb _ mb) ka (by lia) (by lia) (qEQ (by lia) ua) λk k1 k2 k3=>?_)
     dsimp only;have ai:∀x∈(a.toList.take k).reverse,gkv x<=gkv yb:=λx p=>qOP (base:=0) k1 (by lia) k2 x (by simpa using p)
     apply gtwo (α:=Array Keyed) (M:=λo=>gMR grDn (a.toList++b.toList) o.toList (a.toList.take k).reverse (b.toList.take nb').reverse/\0<k)
     ·intro J;by_cases k0:na'-k>0
      ·refine gifT k0 ?_;have mk:gMR grDn (a.toList++b.toList) (out++(a.extract k na').reverse).toList (a.toList.take k).reverse (b.toList.take nb').reverse:=by
        rw[E6,V2,qAX];rw[qK5 (l:=a.toList) (i:=k) (j:=na') (by lia)] at m
        exact m.takeA λx p z hz=>by
         have q1:=qLI (base:=0) (n:=na') (by lia) k3 x (by rw[z8,B30];exact m7.mp p)
         have q2:=t ub (by lia) a4 z hz
         show gkv z<=gkv x
         lia
       by_cases c1:k=0
       ·refine gifT (by simp[c1]) ?_
        refine B67 ⟨d,.inl ⟨_,_,rfl,?_⟩⟩;subst c1;exact f _ _ mk
       refine gifF (by simp;exact c1) ?_
       generalize out++(a.extract k na').reverse=o at mk ⊢;exact J o ⟨mk,by lia⟩
      ·refine gifF k0 ?_;have am:k=na':=by lia
       subst am;exact J out ⟨m,by lia⟩
     ·rintro o ⟨mk,kp⟩;refine B65 (qB8 e1 ?_);have m1:=a3 mk (by lia) a4 ai
      by_cases a7:nb'-1=1
      ·refine gifT (by simp[a7]) ?_
       refine B67 ⟨d,.inl ⟨_,_,rfl,?_⟩⟩;rw[a7] at m1 ⊢;exact g _ _ m1
      refine gifF (by simp;lia) ?_
      obtain⟨xa,e2,a6,ma⟩:=qC5 (a:=a) (i:=k-1) (by lia)
      refine B65 (qB8 e2 ?_);refine B65 (qG0 (left:=true) (base:=0) (n:=nb'-1) (hint:=nb'-1-1) (se.1.trans hk) (ka _ ma) kb (by lia) (by lia) (qEQ (by lia) ub) λk' j1 j2 j3=>?_)
      dsimp only;have al:∀y∈(b.toList.take k').reverse,gkv y<=gkv xa:=λy hy=>by
       have q:=qOO (base:=0) j1 (by lia) j2 y (by simpa using hy)
       lia
      generalize o.push yb=o1 at m1 ⊢;apply gtwo (α:=Array Keyed) (M:=λo=>gMR grDn (a.toList++b.toList) o.toList (a.toList.take k).reverse (b.toList.take k').reverse/\1<k')
      ·intro J;by_cases af:nb'-1-k'>0
       ·rw[if_pos af];have m2:gMR grDn (a.toList++b.toList) (o1++(b.extract k' (nb'-1)).reverse).toList (a.toList.take (k)).reverse (b.toList.take k').reverse:=by
         rw[E6,V2,qAX];rw[qK5 (l:=b.toList) (i:=k') (j:=nb'-1) (by lia)] at m1
         exact m1.takeB λx p z hz=>by
          have q1:=qLJ (base:=0) (n:=nb'-1) (by lia) j3 x (by rw[z8,B30];exact m7.mp p)
          have q2:=t ua (by lia) a6 z hz
          show gkv z<=gkv x
          lia
        by_cases a2:k'=1
        ·refine gifT (by simp[a2]) ?_
         refine B67 ⟨d,.inl ⟨_,_,rfl,?_⟩⟩;subst a2;exact g _ _ m2
        refine gifF (by simp;exact a2) ?_
        by_cases a5:k'=0
        ·refine gifT (by simp[a5]) ?_
         refine B67 ⟨d,.inl ⟨_,_,rfl,?_⟩⟩;subst a5;exact ag _ _ m2
        refine gifF (by simp;exact a5) ?_
        generalize o1++(b.extract k' (nb'-1)).reverse=o2 at m2 ⊢;exact J o2 ⟨m2,by lia⟩
       ·rw[if_neg af];have aa:k'=nb'-1:=by lia
        subst aa;exact J o1 ⟨m1,by lia⟩
      ·rintro o2 ⟨m2,kp'⟩;refine B65 (qB8 e2 ?_);have m3:=a1 m2 (by lia) a6 al
       by_cases v:k-1=0
       ·refine gifT (by simp[v]) ?_
        refine B67 ⟨d,.inl ⟨_,_,rfl,?_⟩⟩;rw[v] at m3 ⊢;exact f _ _ m3
       refine gifF (by simp;lia) ?_
       split
       ·exact B67 ⟨d,.inr ⟨_,_,_,_,_,_,rfl,m3,by lia,by lia,by lia⟩⟩
       ·exact B67 ⟨d,_,_,_,_,_,_,rfl,m3,by lia,by lia,by lia⟩
end
end L2.G
namespace L2.G
open PySem PyProof.Rows
variable[NM]
theorem qON (b:Nat):∀(r:List Keyed) (k:Nat) (xs:Array Keyed),b+k+r.length<=xs.size->((r.zipIdx k).foldl (λa (p:Keyed×Nat)=>a.setIfInBounds (b+p.2) p.1) xs).toList=xs.toList.take (b+k)++r++xs.toList.drop (b+k+r.length)
 |[],k,xs,_=>by simp
 |p::r,k,xs,h=>by
  have hl:b+k<xs.toList.length:=by simp at h ⊢;lia
  rw[List.zipIdx_cons,V5,qON b r (k+1) _ (by simp at h ⊢;lia)]
  simp only[t5,D3];have e1:(xs.toList.set (b+k) p).take (b+(k+1))=xs.toList.take (b+k)++[p]:=by
   rw[<- A18,C8,List.take_set_of_le (A7 _),c8 hl]
   rfl
  have e2:(xs.toList.set (b+k) p).drop (b+(k+1)+r.length)=xs.toList.drop (b+k+(r.length+1)):=by
   rw[List.drop_set_of_lt (by lia)]
   congr 1
   lia
  rw[e1,e2];simp
def gSeg (xs:Array Keyed)(lo hi:Nat):Prop:=∀i j,lo<=i->i<=j->j<hi->gK xs i<=gK xs j
theorem qVV {xs:Array Keyed}{i:Nat}(h:i<xs.size):gK xs i=gkv (xs[i]'h):=qb2 h
theorem qK7 {xs:Array Keyed}{i:Nat}{x:Keyed}(h:xs[i]?=some x):gK xs i=gkv x:=by
 unfold gK;rw[h]
 rfl
theorem qH7 {left:Bool}{b:Keyed}{a:Array Keyed}{base i:Nat}(h:base+i<a.size):qAQ left b a base i=if left=true then decide (gK a (base+i)<gkv b) else decide (gK a (base+i)<=gkv b):=by
 unfold qAQ;rw[C4 h,qVV h]
theorem qID {left:Bool}{b:Keyed}{a:Array Keyed}{base n:Nat}(f:base+n<=a.size)(u:gSeg a base (base+n)):∀i j,i<=j->j<n->qAQ left b a base j=true->qAQ left b a base i=true:=by
 intro i j c d e;have g:=u (base+i) (base+j) (by lia) (by lia) (by lia)
 rw[qH7 (by lia)] at e ⊢
 cases left with
 |true=>
  have:=of_decide_eq_true e;exact decide_eq_true (by lia)
 |false=>
  have:=of_decide_eq_true e;exact decide_eq_true (by lia)
theorem qOK {xs:Array Keyed}{lo hi:Nat}(h:hi<=xs.size)(u:gSeg xs lo hi):(xs.extract lo hi).toList.Pairwise grUp:=by
 rw[F8];intro i j b a d;have e:(xs.extract lo hi).size=hi-lo:=by simp;lia
 have f:i<hi-lo:=by simp at b;lia
 have c:j<hi-lo:=by simp at a;lia
 have:=u (lo+i) (lo+j) (by lia) (by lia) (by lia)
 rw[qVV (by lia),qVV (by lia)] at this
 simpa using this
theorem qG1 {xs:Array Keyed}{lo hi:Nat}{x:Keyed}(m:x∈(xs.extract lo hi).toList):∃j,lo<=j/\j<hi/\j<xs.size/\gK xs j=gkv x:=by
 obtain⟨i,a,e⟩:=M7 m;have b:i<hi-lo/\i<xs.size-lo:=by simp at a;lia
 refine⟨lo+i,by lia,by lia,by lia,?_⟩
 rw[qVV (by lia),<- e]
 simp
theorem qVT {xs:Array Keyed}{lo hi i:Nat}{x:Keyed}(m:(xs.extract lo hi).toList[i]?=some x):gK xs (lo+i)=gkv x:=by
 obtain⟨a,e⟩:=A3.mp m;have b:i<hi-lo/\i<xs.size-lo:=by simp at a;lia
 rw[qVV (by lia),<- e]
 simp
theorem qd8 {xs a:Array Keyed}{b:Nat}{r:List Keyed}(e:a.toList=xs.toList.take b++r++xs.toList.drop (b+r.length))(f:b+r.length<=xs.size)(j:Nat):
  (j<b\/b+r.length<=j->gK a j=gK xs j)/\(b<=j->j<b+r.length->∃x,r[j-b]?=some x/\gK a j=gkv x):=by
 have c:(xs.toList.take b).length=b:=by simp;lia
 constructor
 ·intro hj;apply qG2;rw[<- F0,<- F0,e,P3];rcases hj with hj|hj
  ·rw[J2 (by lia),Q8 hj]
  ·rw[G1 (by lia),c,G1 (by lia),A77]
   congr 1
   lia
 ·intro d g;refine⟨r[j-b]'(by lia),A4 _,qK7 ?_⟩
  rw[<- F0,e,P3,G1 (by lia),c,J2 (by lia)]
  exact A4 _
section
variable{prog:B66}{w:World}{A:Around}{E:Value->Shared->Prop}{s:Shared}{κ0:B98}[LtOk prog w A s κ0]
theorem qYI {st a:SortSt}{Q:PUnit->SortSt->Prop}(h:Q ⟨⟩ a):wpS (model prog w) A E s (set a:StateT SortSt Sem PUnit) Q st:=by
 unfold wpS;rw[StateT.run_set];exact B63 ⟨rfl,h⟩
structure gSG (κ0:B98)(a₀:Array Keyed)(st:SortSt):Prop where
 perm:(arrOf st).Perm a₀
 kind:kindOf st=κ0
 failed:failedOf st=none
theorem gSG.size {a₀:Array Keyed}{st:SortSt}(h:gSG κ0 a₀ st):(arrOf st).size=a₀.size:=h.perm.size_eq
theorem gSG.ik {a₀:Array Keyed}{st:SortSt}(h:gSG κ0 a₀ st)(b:qC8 a₀):∀x∈(arrOf st).toList,gIK x:=λx a=>b x ((Y0.mp h.perm).mem_iff.mp a)
theorem qYL {a₀:Array Keyed}{st:SortSt}{i b d p t q:Nat}{o u:List (Nat×Nat×Nat)}{Q:Bool->SortSt->Prop}(h0:qC8 a₀)(g:gSG κ0 a₀ st)
  (hp:(B68 st).toList=o++(b,d,p)::(b+d,t,q)::u) (hi:i=o.length) (ae:0<d) (af:0<t) (hsz:b+d+t<=a₀.size)
  (ua:gSeg (arrOf st) b (b+d)) (ub:gSeg (arrOf st) (b+d) (b+d+t))
  (h:∀st',gSG κ0 a₀ st'->(B68 st').toList=o++(b,d+t,p)::u->gSeg (arrOf st') b (b+d+t)->(∀k,k<b\/b+d+t<=k->gK (arrOf st') k=gK (arrOf st) k)->Q true st'):
  wpS (model prog w) A E s (mergeAt' i) Q st:=by
 have p1:(B68 st)[i]?=some (b,d,p):=by
  rw[<- F0,hp,hi,G1 (A7 _),B00]
  rfl
 have p2:(B68 st)[i+1]?=some (b+d,t,q):=by
  rw[<- F0,hp,hi,G1 (by lia),show o.length+1-o.length=1 by lia]
  rfl
 have p3:(((B68 st).setIfInBounds i (b,d+t,p)).eraseIdxIfInBounds (i+1)).toList=o++(b,d+t,p)::u:=by
  rw[Array.toList_eraseIdxIfInBounds,t5,hp,hi];rw[List.set_append_right _ _ (A7 _),B00,List.eraseIdx_append_of_length_le (by lia),show o.length+1-o.length=1 by lia]
  rfl
 have size:=g.size;have ik:=g.ik h0;unfold mergeAt';refine B65 (C05 ?_);dsimp only;rw[p1,p2];dsimp only;obtain⟨kb,aa,_,ac⟩:=qC5 (a:=arrOf st) (i:=b+d) (by lia)
 have ah:gK (arrOf st) (b+d)=gkv kb:=qK7 aa;refine B65 (qYI (B65 (qB8 aa ?_)));have g1:gSG κ0 a₀ (setPending st (((B68 st).setIfInBounds i (b,d+t,p)).eraseIdxIfInBounds (i+1))):=⟨g.perm,g.kind,g.failed⟩;show wpS _ _ _ _ (qYP false kb (arrOf st) b d 0 >>= _) _ _;refine B65 (qG0 g1.kind (ik kb ac) ik (by lia) ae (qID (by lia) ua) λk hk h1 h2=>?_)
 have a1:∀j,b<=j->j<b+k->gK (arrOf st) j<=gkv kb:=λj n l=>by
  have e:=h1 (j-b) (by lia)
  rw[qH7 (by lia),show b+(j-b)=j by lia] at e
  exact of_decide_eq_true e
 have a2:∀j,b+k<=j->j<b+d->gkv kb<gK (arrOf st) j:=λj n l=>by
  have e:=h2 (j-b) (by lia) (by lia)
  rw[qH7 (by lia),show b+(j-b)=j by lia] at e
  have:=of_decide_eq_false e
  lia
 dsimp only;by_cases ek:d-k=0
 ·refine gifT (by simpa using ek) ?_
  refine B67 (h _ g1 p3 (λi j n f l=>?_) λ_ _=>rfl);show gK (arrOf st) i<=gK (arrOf st) j;by_cases c1:j<b+d
  ·exact ua i j n f c1
  ·by_cases c2:i<b+d
   ·have q1:=a1 i n (by lia)
    have q2:=ub (b+d) j (by lia) (by lia) l
    lia
   ·exact ub i j (by lia) f l
 refine gifF (by simpa using ek) ?_
 rw[show b+k+(d-k)-1=b+d-1 by lia]
 obtain⟨kz,a8,_,ab⟩:=qC5 (a:=arrOf st) (i:=b+d-1) (by lia)
 have ag:gK (arrOf st) (b+d-1)=gkv kz:=qK7 a8;refine B65 (qB8 a8 ?_);show wpS _ _ _ _ (qYP true kz (arrOf st) (b+d) t (t-1) >>= _) _ _;refine B65 (qG0 g1.kind (ik kz ab) ik (by lia) (by lia) (qID (by lia) ub) λm hm h3 h4=>?_)
 have b1:∀j,b+d<=j->j<b+d+m->gK (arrOf st) j<gkv kz:=λj n l=>by
  have e:=h3 (j-(b+d)) (by lia)
  rw[qH7 (by lia),show b+d+(j-(b+d))=j by lia] at e
  exact of_decide_eq_true e
 have b2:∀j,b+d+m<=j->j<b+d+t->gkv kz<=gK (arrOf st) j:=λj n l=>by
  have e:=h4 (j-(b+d)) (by lia) (by lia)
  rw[qH7 (by lia),show b+d+(j-(b+d))=j by lia] at e
  have:=of_decide_eq_false e
  lia
 dsimp only;by_cases em:m=0
 ·refine gifT (by simpa using em) ?_
  refine B67 (h _ g1 p3 (λi j n f l=>?_) λ_ _=>rfl);show gK (arrOf st) i<=gK (arrOf st) j;by_cases c1:j<b+d
  ·exact ua i j n f c1
  ·by_cases c2:i<b+d
   ·have q1:=ua i (b+d-1) n (by lia) (by lia)
    have q2:=b2 j (by lia) l
    lia
   ·exact ub i j (by lia) f l
 refine gifF (by simpa using em) ?_
 have sx:((arrOf st).extract (b+k) (b+d)).size=d-k:=by simp;lia
 have sy:((arrOf st).extract (b+d) (b+d+m)).size=m:=by simp;lia
 have ux:=qOK (xs:=arrOf st) (lo:=b+k) (hi:=b+d) (by lia) λi j n f l=>ua i j (by lia) f l
 have uy:=qOK (xs:=arrOf st) (lo:=b+d) (hi:=b+d+m) (by lia) λi j n f l=>ub i j n f (by lia)
 have kx:∀x∈((arrOf st).extract (b+k) (b+d)).toList,gIK x:=λx hx=>ik x (by rw[qAX] at hx;exact R7 (O5 hx))
 have ky:∀x∈((arrOf st).extract (b+d) (b+d+m)).toList,gIK x:=λx hx=>ik x (by rw[qAX] at hx;exact R7 (O5 hx))
 have a5:∀y,((arrOf st).extract (b+d) (b+d+m)).toList[0]?=some y->∀x∈((arrOf st).extract (b+k) (b+d)).toList,gkv y<=gkv x:=by
  intro y hy x hx;have e:=qVT hy;obtain⟨j,v,j2,_,ej⟩:=qG1 hx;have:=a2 j v j2;rw[l9] at e
  lia
 have a6:∀z,((arrOf st).extract (b+k) (b+d)).toList[((arrOf st).extract (b+k) (b+d)).size-1]?=some z->∀y∈((arrOf st).extract (b+d) (b+d+m)).toList,gkv y<=gkv z:=by
  intro z hz y hy;have e:=qVT hz;obtain⟨j,v,j2,_,ej⟩:=qG1 hy;have:=b1 j v j2;rw[sx,show b+k+(d-k-1)=b+d-1 by lia] at e
  lia
 have a7:∀(r:Array Keyed) (st2:SortSt),gSE (setPending st (((B68 st).setIfInBounds i (b,d+t,p)).eraseIdxIfInBounds (i+1))) st2->gRes (((arrOf st).extract (b+k) (b+d)).toList++((arrOf st).extract (b+d) (b+d+m)).toList) r.toList->
   Q true (setArr st2 (r.toList.zipIdx.foldl (λa (p:Keyed×Nat)=>a.setIfInBounds (b+k+p.2) p.1) (arrOf st2))):=by
  rintro r st2 ⟨q1,q2,q3,q4⟩ ⟨rp,ru⟩;have a4:arrOf st2=arrOf st:=q2;have rl:r.toList.length=d-k+m:=by
   rw[rp.length_eq,B0,C2,C2,sx,sy]
  have e:=qON (b+k) r.toList 0 (arrOf st2) (by rw[a4,rl];lia)
  rw[l9,a4] at e;have LK:=qd8 e (by rw[rl];lia)
  have e0:(arrOf st).toList=(arrOf st).toList.take (b+k)++(((arrOf st).extract (b+k) (b+d)).toList++((arrOf st).extract (b+d) (b+d+m)).toList)++(arrOf st).toList.drop (b+k+r.toList.length):=by
   rw[qAX,qAX,rl,show b+d-(b+k)=d-k by lia,show b+d+m-(b+d)=m by lia]
   have t1:(arrOf st).toList.drop (b+d)=((arrOf st).toList.drop (b+k)).drop (d-k):=by rw[y9];congr 1;lia
   have t2:(arrOf st).toList.drop (b+k)=((arrOf st).toList.drop (b+k)).take (d-k+m)++(arrOf st).toList.drop (b+k+(d-k+m)):=qGG;rw[t1,<- B46,P3,<- t2,X4]
  have gp:(r.toList.zipIdx.foldl (λa (p:Keyed×Nat)=>a.setIfInBounds (b+k+p.2) p.1) (arrOf st)).Perm (arrOf st):=by
   rw[Y0,e]
   conv=>rhs;rw[e0]
   exact(l7 _ rp).append_right _
  have a9:∀x∈r.toList,∀i,b<=i->i<b+k->gK (arrOf st) i<=gkv x:=by
   intro x hx i n hi;rcases A8.mp (rp.mem_iff.mp hx) with hx|hx
   ·obtain⟨j,v,j2,_,ej⟩:=qG1 hx;rw[<- ej];exact ua i j n (by lia) j2
   ·obtain⟨j,v,j2,_,ej⟩:=qG1 hx;have z1:=a1 i n hi;have z2:=ub (b+d) j (by lia) v (by lia)
    lia
  have a3:∀x∈r.toList,∀j,b+d+m<=j->j<b+d+t->gkv x<=gK (arrOf st) j:=by
   intro x hx j n l;rcases A8.mp (rp.mem_iff.mp hx) with hx|hx
   ·obtain⟨i,v,j2,_,ej⟩:=qG1 hx;have z1:=ua i (b+d-1) (by lia) (by lia) (by lia)
    have z2:=b2 j n l
    lia
   ·obtain⟨i,v,j2,_,ej⟩:=qG1 hx;rw[<- ej];exact ub i j v (by lia) l
  rw[a4];refine h _ ⟨gp.trans g.perm,q1.trans g.kind,q4.trans g.failed⟩ ((congrArg A97 q3).trans p3) ?_ λj l=>(LK j).1 (by rw[rl];lia)
  intro i j n f l;show gK (r.toList.zipIdx.foldl (λa (p:Keyed×Nat)=>a.setIfInBounds (b+k+p.2) p.1) (arrOf st)) i<=gK (r.toList.zipIdx.foldl (λa (p:Keyed×Nat)=>a.setIfInBounds (b+k+p.2) p.1) (arrOf st)) j;have K1:∀j,j<b+k\/b+k+(d-k+m)<=j->gK (r.toList.zipIdx.foldl (λa (p:Keyed×Nat)=>a.setIfInBounds (b+k+p.2) p.1) (arrOf st)) j=gK (arrOf st) j:=λj l=>(LK j).1 (by rw[rl];exact l)
  have K2:∀j,b+k<=j->j<b+k+(d-k+m)->∃x,r.toList[j-(b+k)]?=some x/\gK (r.toList.zipIdx.foldl (λa (p:Keyed×Nat)=>a.setIfInBounds (b+k+p.2) p.1) (arrOf st)) j=gkv x:=λj h1 h2=>(LK j).2 h1 (by rw[rl];exact h2)
  by_cases c1:i<b+k
  ·rw[K1 i (.inl c1)];by_cases c2:j<b+k
   ·rw[K1 j (.inl c2)];exact ua i j n f (by lia)
   ·by_cases c3:j<b+k+(d-k+m)
    ·obtain⟨x,ex,a0⟩:=K2 j (by lia) c3
     rw[a0];exact a9 x (A9 ex) i n c1
    ·rw[K1 j (.inr (by lia))]
     have z1:=a1 i n c1;have z2:=ub (b+d) j (by lia) (by lia) l
     lia
  ·by_cases c2:i<b+k+(d-k+m)
   ·obtain⟨x,ex,a0⟩:=K2 i (by lia) c2
    rw[a0];by_cases c3:j<b+k+(d-k+m)
    ·obtain⟨y,ey,ad⟩:=K2 j (by lia) c3
     rw[ad];by_cases c4:i=j
     ·rw[c4] at ex;rw[ex] at ey;cases ey;exact O4 _
     ·obtain⟨x1,x2⟩:=A3.mp ex;obtain⟨y1,y2⟩:=A3.mp ey;have:=F8.mp ru (i-(b+k)) (j-(b+k)) x1 y1 (by lia)
      rw[x2,y2] at this;exact this
    ·rw[K1 j (.inr (by lia))]
     exact a3 x (A9 ex) j (by lia) l
   ·rw[K1 i (.inr (by lia)),K1 j (.inr (by lia))]
    exact ub i j (by lia) f l
 by_cases c:d-k<=m
 ·refine gifT c ?_;show wpS _ _ _ _ (gmLo ((arrOf st).extract (b+k) (b+d)) ((arrOf st).extract (b+d) (b+d+m)) >>= _) _ _;refine B65 (qYJ g1.kind kx ky ux uy (by rw[sx];lia) (by rw[sy];lia) a5 a6 λr st2 se rs=>?_)
  refine B65 (B82 (B65 (C05 (B67 ?_))));have e:(failedOf st2).isNone=true:=by rw[se.2.2.2,g1.failed];rfl
  show Q (failedOf st2).isNone _;rw[e];exact a7 r st2 se rs
 ·refine gifF c ?_;show wpS _ _ _ _ (gmHi ((arrOf st).extract (b+k) (b+d)) ((arrOf st).extract (b+d) (b+d+m)) >>= _) _ _;refine B65 (qYK g1.kind kx ky ux uy (by rw[sx];lia) (by rw[sy];lia) a5 a6 λr st2 se rs=>?_)
  refine B65 (B82 (B65 (C05 (B67 ?_))));have e:(failedOf st2).isNone=true:=by rw[se.2.2.2,g1.failed];rfl
  show Q (failedOf st2).isNone _;rw[e];exact a7 r st2 se rs
end
end L2.G
namespace L2.G
open PySem PyProof.Rows
variable[NM]
def gOut (xs ys:Array Keyed)(lo hi:Nat):Prop:=∀k,k<lo\/hi<=k->gK ys k=gK xs k
theorem gOut.refl (xs:Array Keyed)(lo hi:Nat):gOut xs xs lo hi:=λ_ _=>rfl
theorem gOut.trans {xs a zs:Array Keyed}{lo hi:Nat}(d:gOut xs a lo hi)(c:gOut a zs lo hi):gOut xs zs lo hi:=λk b=>(c k b).trans (d k b)
theorem gOut.wide {xs e:Array Keyed}{lo hi c d:Nat}(h:gOut xs e lo hi)(a:c<=lo)(b:hi<=d):gOut xs e c d:=λk f=>h k (by lia)
theorem gSG.lay {κ0:B98}{a₀:Array Keyed}{st:SortSt}(g:gSG κ0 a₀ st){a:Array Keyed}(p:a.Perm (arrOf st)):gSG κ0 a₀ (setArr st a):=⟨p.trans g.perm,g.kind,g.failed⟩
theorem qQB {xs:Array Keyed}{i j:Nat}(a:j<=xs.size):gOut xs (mirror xs i j ((j-i)/2)) i j:=λk b=>by rw[qH8 a,if_neg (by lia)]
section
variable{prog:B66}{w:World}{A:Around}{E:Value->Shared->Prop}{s:Shared}{κ0:B98}[LtOk prog w A s κ0]{a₀:Array Keyed}
theorem qH4 {st:SortSt}{i j:Nat}{Q:Option Bool->SortSt->Prop}(c:qC8 a₀)(g:gSG κ0 a₀ st)(hi:i<a₀.size)(k:j<a₀.size)(h:Q (some (decide (gK (arrOf st) i<gK (arrOf st) j))) st):wpS (model prog w) A E s (ltAt' i j) Q st:=by
 have b:i<(arrOf st).size:=by rw[g.size];exact hi
 have a:j<(arrOf st).size:=by rw[g.size];exact k
 obtain⟨x,e,_,l⟩:=qC5 b;obtain⟨y,d,_,f⟩:=qC5 a;rw[qK7 e,qK7 d] at h;rw[ltAt'_eq];refine B65 (C05 ?_);exact B65 (qB8 e (B65 (qB8 d (qH5 g.kind (g.ik c x l) (g.ik c y f) h))))
theorem qYO {st:SortSt}{lo n o:Nat}{Q:Bool->SortSt->Prop}(y:qC8 a₀)(g:gSG κ0 a₀ st)(hn:lo+n<=a₀.size)(a0:o<=n)(u:gSeg (arrOf st) lo (lo+o))
  (h:∀st2,gSG κ0 a₀ st2->B68 st2=B68 st->gSeg (arrOf st2) lo (lo+n)->gOut (arrOf st) (arrOf st2) lo (lo+n)->Q true st2):wpS (model prog w) A E s (binarySort' lo n o) Q st:=by
 rw [binarySort'_eq];refine B65 (B92 (B78 (I:=fun k c st2=>c=(none,())/\gSG κ0 a₀ st2/\B68 st2=B68 st/\gSeg (arrOf st2) lo (lo+min k n)/\gOut (arrOf st) (arrOf st2) lo (lo+n))
  (Q:=λc st2=>c=(none,())/\gSG κ0 a₀ st2/\B68 st2=B68 st/\gSeg (arrOf st2) lo (lo+n)/\gOut (arrOf st) (arrOf st2) lo (lo+n)) ?step ?fin ?init) ?post)
 case post=>
  rintro c st2 ⟨rfl,g2,pe,u2,o2⟩;exact B67 (h st2 g2 pe u2 o2)
 case init=>
  refine⟨rfl,g,rfl,λi j q f hj=>?_,.refl _ _ _⟩;by_cases p:o=0
  ·rw[show i=j by lia]
   exact O4 _
  ·exact u i j q f (by lia)
 case fin=>
  rintro c st2 ⟨hc,g2,pe,u2,o2⟩;rw[show min (max (max o 1) n) n=n by lia] at u2
  exact⟨hc,g2,pe,u2,o2⟩
 case step=>
  rintro k c st2 hak hkn ⟨rfl,g2,pe,u2,o2⟩;rw[show min k n=k by lia] at u2
  have t:lo+k<a₀.size:=by lia
  refine B65 (B92 (B78 (I:=fun x c a=>a=st2/\∃ l r,c=(none,l,r)/\l<=r/\r<=k/\r - l<=k - x/\
    (∀i,lo<=i->i<lo+l->gK (arrOf st2) i<=gK (arrOf st2) (lo+k))/\(∀i,lo+r<=i->i<lo+k->gK (arrOf st2) (lo+k)<gK (arrOf st2) i))
   (Q:=fun c a=>a=st2/\∃ l r,c=(none,l,r)/\l<=k/\
    (∀i,lo<=i->i<lo+l->gK (arrOf st2) i<=gK (arrOf st2) (lo+k))/\(∀i,lo+l<=i->i<lo+k->gK (arrOf st2) (lo+k)<gK (arrOf st2) i)) ?istep ?ifin ?iinit) ?ipost)
  case iinit=>exact⟨rfl,0,k,rfl,by lia,by lia,by lia,λi _ hi=>by lia,λi p v=>by lia⟩
  case ifin=>
   rintro c a ⟨rfl,l,r,rfl,hlr,hrk,hm,ha,hb⟩;have e:l=r:=by lia
   rw[<- e] at hb hrk;exact⟨rfl,l,r,rfl,hrk,ha,hb⟩
  case istep=>
   rintro x c a _ hxk ⟨rfl,l,r,rfl,hlr,hrk,hm,ha,hb⟩;dsimp only;by_cases m:l>=r
   ·refine gifT m ?_;have e:l=r:=by lia
    rw[<- e] at hb hrk;exact B67 ⟨rfl,l,r,rfl,hrk,ha,hb⟩
   ·refine gifF m ?_;refine B65 (qH4 y g2 t (by lia) ?_)
    by_cases b:gK (arrOf a) (lo+k)<gK (arrOf a) (lo+(l+r)/2)
    ·rw[decide_eq_true b];dsimp only;refine gifT rfl ?_;refine B67 ⟨rfl,l,(l+r)/2,rfl,by lia,by lia,by lia,ha,λi p v=>?_⟩
     have:=u2 (lo+(l+r)/2) i (by lia) p v
     lia
    ·rw[decide_eq_false b];dsimp only;rw[if_neg B4];refine B67 ⟨rfl,(l+r)/2+1,r,rfl,by lia,by lia,by lia,λi z p=>?_,hb⟩
     have:=u2 i (lo+(l+r)/2) z (by lia) (by lia)
     lia
  case ipost=>
   rintro c a ⟨rfl,l,r,rfl,hlk,ha,hb⟩;have d:lo+k<(arrOf a).size:=by rw[g2.size];exact t
   show wpS _ _ _ _ (moveDown' (lo+k) (lo+l) >>= λ_=>pure (P0 (none,()))) _ _;rw[moveDown'_eq];refine B65 (B82 (B67 ⟨rfl,g2.lay (bubble_perm _ _ _),pe,?_,o2.trans ?_⟩))
   ·rw[show min (k+1) n=k+1 by lia]
    intro i j q f hj;show gK (bubble (arrOf a) (lo+k) (lo+k-(lo+l))) i<=gK (bubble (arrOf a) (lo+k) (lo+k-(lo+l))) j;rw[qK8 d (by lia),qK8 d (by lia),show lo+k-(lo+k-(lo+l))=lo+l by lia]
    repeat' split
    all_goals first
     |(exfalso;lia)
     |exact O4 _
     |exact ha _ (by lia) (by lia)
     |exact u8 (hb _ (by lia) (by lia))
     |exact u2 _ _ (by lia) (by lia) (by lia)
   ·intro i hi;show gK (bubble (arrOf a) (lo+k) (lo+k-(lo+l))) i=gK (arrOf a) i;rw[qK8 d (by lia),if_neg (by lia),if_neg (by lia)]
abbrev gCUp:=Option (Option Nat)×Nat
abbrev gCDn:=Option (Option Nat)×Nat×Nat
noncomputable def gupL (lo a m:Nat):gSM gCUp:=
 forIn [a:m] ((none,a):gCUp) λ_ c=>do
  let t <- ltAt' (lo+c.snd) (lo+c.snd-1)
  match t with
  |some less=>if less=true then pure (k7 (none,c.snd)) else pure (P0 (none,c.snd+1))
  |_=>pure (k7 (some none,c.snd))
noncomputable def qVR (lo n m:Nat):gSM (Option Nat):=do
 reverseSlice' lo (lo+n)
 let c <- gupL lo n m
 match c.fst with
 |some r=>pure r
 |none=>pure (some c.snd)
noncomputable def gdnL (lo n m:Nat):gSM gCDn:=
 forIn [n:m] ((none,n,0):gCDn) λ_ c=>do
  let t <- ltAt' (lo+c.snd.fst) (lo+c.snd.fst-1)
  match t with
  |some less=>
   if less=true then
    if c.snd.snd>0 then do
     reverseSlice' (lo+c.snd.fst-(c.snd.snd+1)) (lo+c.snd.fst)
     pure (P0 (none,c.snd.fst+1,0))
    else pure (P0 (none,c.snd.fst+1,0))
   else do
    let t <- ltAt' (lo+c.snd.fst-1) (lo+c.snd.fst)
    match t with
    |some more=>
     if more=true then pure (k7 (none,c.snd.fst,c.snd.snd))
     else pure (P0 (none,c.snd.fst+1,c.snd.snd+1))
    |_=>pure (k7 (some none,c.snd.fst,c.snd.snd))
  |_=>pure (k7 (some none,c.snd.fst,c.snd.snd))
noncomputable def gdnP (lo n m:Nat):gSM (Option Nat):=do
 liftM (rule "list.sort.descending-run")
 let c <- gdnL lo (n+1) m
 match c.fst with
 |some r=>pure r
 |none=>
  if c.snd.snd>0 then do
   reverseSlice' (lo+c.snd.fst-(c.snd.snd+1)) (lo+c.snd.fst)
   qVR lo c.snd.fst m
  else qVR lo c.snd.fst m
theorem qBD {α β:Type}{x y:gSM α}{f g:α->gSM β}(h:x=y)(k:∀a,f a=g a):(x >>= f)=(y >>= g):=by rw[h,show f=g from funext k]
theorem qVS (lo m:Nat):countRun' lo m=(do
  let c <- gupL lo 1 m
  match c.fst with
  |some r=>pure r
  |none=>
   if(c.snd==m)=true then pure (some c.snd)
   else if c.snd>1 then do
    let t <- ltAt' lo (lo+c.snd-1)
    match t with
    |some rose=>if rose=true then pure (some c.snd) else do
      reverseSlice' lo (lo+c.snd)
      gdnP lo c.snd m
    |_=>pure none
   else gdnP lo c.snd m):=by
 rw[countRun'_eq];unfold gdnP qVR gdnL gupL;refine qBD rfl λc=>?_;obtain⟨r,n⟩:=c;cases r with
 |some r=>rfl
 |none=>
  have f:∀c3:gCUp,(match c3.fst with|some r=>pure r|none=>pure (some c3.snd):gSM (Option Nat))=(match c3.fst with|some r=>pure r|none=>pure (some c3.snd)):=λ_=>rfl
  dsimp only
  split
  ·rfl
  ·split
   ·refine qBD rfl λx=>?_;cases x with
    |none=>rfl
    |some rose=>
     dsimp only
     split
     ·rfl
     ·refine qBD rfl λ_=>qBD rfl λ_=>qBD rfl λe=>?_;obtain⟨b,g,h⟩:=e;cases b with
      |some b=>rfl
      |none=>
       dsimp only
       split
       ·refine qBD rfl λ_=>qBD rfl λ_=>qBD rfl λc3=>?_;obtain⟨a,d⟩:=c3;cases a<;>rfl
       ·refine qBD rfl λ_=>qBD rfl λc3=>?_;obtain⟨a,d⟩:=c3;cases a<;>rfl
   ·refine qBD rfl λ_=>qBD rfl λe=>?_;obtain⟨b,g,h⟩:=e;cases b with
    |some b=>rfl
    |none=>
     dsimp only
     split
     ·refine qBD rfl λ_=>qBD rfl λ_=>qBD rfl λc3=>?_;obtain⟨a,d⟩:=c3;cases a<;>rfl
     ·refine qBD rfl λ_=>qBD rfl λc3=>?_;obtain⟨a,d⟩:=c3;cases a<;>rfl
def gFal (xs:Array Keyed)(lo hi:Nat):Prop:=∀i j,lo<=i->i<=j->j<hi->gK xs j<=gK xs i
theorem qRX {st:SortSt}{lo a m:Nat}{Q:gCUp->SortSt->Prop}(o:qC8 a₀)(g:gSG κ0 a₀ st)(r:lo+m<=a₀.size)(v:1<=a)(e:a<=m)(u:gSeg (arrOf st) lo (lo+a))
  (h:∀n,a<=n->n<=m->gSeg (arrOf st) lo (lo+n)->(n=m\/gK (arrOf st) (lo+n)<gK (arrOf st) (lo+n-1))->Q (none,n) st):wpS (model prog w) A E s (gupL lo a m) Q st:=by
 unfold gupL;refine B78 (I:=λx c b=>b=st/\c=(none,x)/\gSeg (arrOf st) lo (lo+x)) ?step ?fin ⟨rfl,rfl,u⟩
 case fin=>
  rintro c b ⟨rfl,rfl,u2⟩;rw[show max a m=m by lia] at u2 ⊢
  exact h m e (A7 _) u2 (.inl rfl)
 case step=>
  rintro x c b hax hxn ⟨rfl,rfl,u2⟩;dsimp only;refine B65 (qH4 o g (by lia) (by lia) ?_)
  by_cases d:gK (arrOf b) (lo+x)<gK (arrOf b) (lo+x-1)
  ·rw[decide_eq_true d];dsimp only;refine gifT rfl ?_;exact B67 (h x hax (by lia) u2 (.inr d))
  ·rw[decide_eq_false d];dsimp only;rw[if_neg B4];refine B67 ⟨rfl,rfl,λi j l f t=>?_⟩;by_cases k:j<lo+x
   ·exact u2 i j l f k
   ·have q:j=lo+x:=by lia
    rw[q];by_cases p:i=lo+x
    ·rw[p];exact O4 _
    ·have:=u2 i (lo+x-1) l (by lia) (by lia)
     lia
theorem qOJ {st:SortSt}{lo n m:Nat}{Q:Option Nat->SortSt->Prop}(l:qC8 a₀)(g:gSG κ0 a₀ st)(o:lo+m<=a₀.size)(p:1<=n)(b:n<=m)(u:gFal (arrOf st) lo (lo+n))
  (h:∀k st2,gSG κ0 a₀ st2->B68 st2=B68 st->1<=k->k<=m->gSeg (arrOf st2) lo (lo+k)->gOut (arrOf st) (arrOf st2) lo (lo+m)->Q (some k) st2):wpS (model prog w) A E s (qVR lo n m) Q st:=by
 unfold qVR;have a:lo+n<=(arrOf st).size:=by rw[g.size];lia
 rw[C33];refine B65 (B82 ?_);have d:gSG κ0 a₀ (setArr st (mirror (arrOf st) lo (lo+n) ((lo+n-lo)/2))):=g.lay (mirror_perm _ _ _ _);refine B65 (qRX l d o p b ?_ λk q c e _=>B67 (h k _ d rfl (by lia) c e ((qQB a).wide (A7 _) (by lia))))
 intro i j r f t;show gK (mirror (arrOf st) lo (lo+n) ((lo+n-lo)/2)) i<=gK (mirror (arrOf st) lo (lo+n) ((lo+n-lo)/2)) j;rw[qH8 a,qH8 a,if_pos (by lia),if_pos (by lia)]
 exact u _ _ (by lia) (by lia) (by lia)
theorem qYM {st:SortSt}{lo n m:Nat}{Q:gCDn->SortSt->Prop}(h0:qC8 a₀)(g:gSG κ0 a₀ st)(hm:lo+m<=a₀.size)(t:1<=n)(v:n<=m)(u:gFal (arrOf st) lo (lo+n))
  (h:∀k e st2,gSG κ0 a₀ st2->B68 st2=B68 st->n<=k->k<=m->gFal (arrOf st2) lo (lo+k)->e+1<=k->(∀i,lo+k-(e+1)<=i->i<lo+k->gK (arrOf st2) i=gK (arrOf st2) (lo+k-1))->gOut (arrOf st) (arrOf st2) lo (lo+m)->Q (none,k,e) st2):
  wpS (model prog w) A E s (gdnL lo n m) Q st:=by
 unfold gdnL;refine B78 (I:=fun x c st2=>∃ e,c=(none,x,e)/\gSG κ0 a₀ st2/\B68 st2=B68 st/\gFal (arrOf st2) lo (lo+x)/\e+1<=x/\
   (∀i,lo+x-(e+1)<=i->i<lo+x->gK (arrOf st2) i=gK (arrOf st2) (lo+x-1))/\gOut (arrOf st) (arrOf st2) lo (lo+m)) ?step ?fin ⟨0,rfl,g,rfl,u,by lia,λi t z=>by congr 1;lia,.refl _ _ _⟩
 case fin=>
  rintro c st2 ⟨e,rfl,g2,pe,u2,hq,he,o2⟩;rw[show max n m=m by lia] at u2 hq he ⊢
  exact h m e st2 g2 pe v (A7 _) u2 hq he o2
 case step=>
  rintro x c st2 hax hxn ⟨e,rfl,g2,pe,u2,hq,he,o2⟩;dsimp only;have q:lo+x<=(arrOf st2).size:=by rw[g2.size];lia
  refine B65 (qH4 h0 g2 (by lia) (by lia) ?_)
  by_cases d:gK (arrOf st2) (lo+x)<gK (arrOf st2) (lo+x-1)
  ·rw[decide_eq_true d];dsimp only;refine gifT rfl ?_;have b:∀ys:Array Keyed,(∀k,gK ys k=gK (arrOf st2) k)->gFal ys lo (lo+(x+1)):=by
    intro ys hk i j p f hj;rw[hk,hk];by_cases l:j<lo+x
    ·exact u2 i j p f l
    ·have y:j=lo+x:=by lia
     rw[y];by_cases r:i=lo+x
     ·rw[r];exact O4 _
     ·have:=u2 i (lo+x-1) p (by lia) (by lia)
      lia
   by_cases a:e>0
   ·rw[if_pos a,C33];refine B65 (B82 (B67 ⟨0,rfl,g2.lay (mirror_perm _ _ _ _),pe,b _ (qB3 q he),by lia,λi t z=>by congr 1;lia,o2.trans ?_⟩))
    exactλk _=>qB3 q he k
   ·refine gifF a ?_;exact B67 ⟨0,rfl,g2,pe,b _ (λ_=>rfl),by lia,λi t z=>by congr 1;lia,o2⟩
  ·rw[decide_eq_false d];dsimp only;rw[if_neg B4];refine B65 (qH4 h0 g2 (by lia) (by lia) ?_)
   by_cases o:gK (arrOf st2) (lo+x-1)<gK (arrOf st2) (lo+x)
   ·rw[decide_eq_true o];dsimp only;refine gifT rfl ?_;exact B67 (h x e st2 g2 pe hax (by lia) u2 hq he o2)
   ·rw[decide_eq_false o];dsimp only;rw[if_neg B4];have ex:gK (arrOf st2) (lo+x)=gK (arrOf st2) (lo+x-1):=by lia
    refine B67 ⟨e+1,rfl,g2,pe,λi j p f hj=>?_,by lia,λi t z=>?_,o2⟩
    ·by_cases l:j<lo+x
     ·exact u2 i j p f l
     ·have y:j=lo+x:=by lia
      rw[y];by_cases r:i=lo+x
      ·rw[r];exact O4 _
      ·rw[ex];exact u2 i (lo+x-1) p (by lia) (by lia)
    ·rw[show lo+(x+1)-1=lo+x by lia]
     by_cases r:i=lo+x
     ·rw[r]
     ·rw[ex];exact he i (by lia) (by lia)
theorem qRY {st:SortSt}{lo n m:Nat}{Q:Option Nat->SortSt->Prop}(v:qC8 a₀)(g:gSG κ0 a₀ st)(x:lo+m<=a₀.size)(l:n+1<=m)(u:gFal (arrOf st) lo (lo+(n+1)))
  (h:∀k st2,gSG κ0 a₀ st2->B68 st2=B68 st->1<=k->k<=m->gSeg (arrOf st2) lo (lo+k)->gOut (arrOf st) (arrOf st2) lo (lo+m)->Q (some k) st2):wpS (model prog w) A E s (gdnP lo n m) Q st:=by
 unfold gdnP;refine B65 (wpS_lift (B99 ⟨rfl,?_⟩));refine B65 (qYM v g x (by lia) l u λk e st2 z pe a0 f u2 hq r o2=>?_)
 dsimp only;have c:lo+k<=(arrOf st2).size:=by rw[z.size];lia
 by_cases a:e>0
 ·rw[if_pos a,C33];refine B65 (B82 (qOJ v (z.lay (mirror_perm _ _ _ _)) x (by lia) f ?_ λk2 d g3 b t y p q=>h k2 d g3 (b.trans pe) t y p ?_))
  ·intro i j hl o hj;show gK (mirror (arrOf st2) _ _ _) j<=gK (mirror (arrOf st2) _ _ _) i;rw[qB3 c r,qB3 c r];exact u2 i j hl o hj
  ·exact o2.trans (gOut.trans (λk _=>qB3 c r k) q)
 ·refine gifF a ?_;exact qOJ v z x (by lia) f u2 λk2 d g3 b t y p q=>h k2 d g3 (b.trans pe) t y p (o2.trans q)
theorem qYN {st:SortSt}{lo m:Nat}{Q:Option Nat->SortSt->Prop}(t:qC8 a₀)(g:gSG κ0 a₀ st)(v:lo+m<=a₀.size)(h1:1<=m)
  (h:∀k st2,gSG κ0 a₀ st2->B68 st2=B68 st->1<=k->k<=m->gSeg (arrOf st2) lo (lo+k)->gOut (arrOf st) (arrOf st2) lo (lo+m)->Q (some k) st2):wpS (model prog w) A E s (countRun' lo m) Q st:=by
 rw[qVS];refine B65 (qRX t g v (A7 1) h1 (λi j c l z=>by rw[show i=j by lia];exact O4 _) λn q r u or=>?_)
 dsimp only;by_cases e:n=m
 ·refine gifT (by simpa using e) ?_
  exact B67 (h n st g rfl q r u (.refl _ _ _))
 ·refine gifF (by simpa using e) ?_
  have d:gK (arrOf st) (lo+n)<gK (arrOf st) (lo+n-1):=or.resolve_left e;by_cases p:n>1
  ·refine gifT p ?_;refine B65 (qH4 t g (by lia) (by lia) ?_)
   by_cases b:gK (arrOf st) lo<gK (arrOf st) (lo+n-1)
   ·rw[decide_eq_true b];dsimp only;refine gifT rfl ?_;exact B67 (h n st g rfl q r u (.refl _ _ _))
   ·rw[decide_eq_false b];dsimp only;rw[if_neg B4,C33];have f:lo+n<=(arrOf st).size:=by rw[g.size];lia
    have a:∀k,lo<=k->k<lo+n->gK (arrOf st) k=gK (arrOf st) (lo+n-1):=by
     intro k c hk;have a1:=u lo k (by lia) c hk
     have a2:=u k (lo+n-1) c (by lia) (by lia)
     lia
    refine B65 (B82 (qRY t (g.lay (mirror_perm _ _ _ _)) v (by lia) ?_ λk st2 g2 pe a1 a2 u2 o2=>h k st2 g2 pe a1 a2 u2 (gOut.trans (λk _=>qB3 f a k) o2)))
    intro i j c l z;show gK (mirror (arrOf st) _ _ _) j<=gK (mirror (arrOf st) _ _ _) i;rw[qB3 f a,qB3 f a];by_cases y:j<lo+n
    ·rw[a i c (by lia),a j (by lia) y]
     exact O4 _
    ·have x:j=lo+n:=by lia
     rw[x];by_cases o:i=lo+n
     ·rw[o];exact O4 _
     ·rw[a i c (by lia)]
      exact u8 d
  ·refine gifF p ?_;have e1:n=1:=by lia
   rw[e1] at d;rw[e1];refine qRY t g v (by lia) ?_ h
   intro i j c l z;by_cases o:i=j
   ·rw[o];exact O4 _
   ·have o:i=lo:=by lia
    have x:j=lo+1:=by lia
    rw[o,x];exact u8 d
end
end L2.G
namespace L2.G
open PySem PyProof.Rows
variable[NM]
def qDD (xs:Array Keyed):List (Nat×Nat×Nat)->Nat->Nat->Prop
 |[],a,b=>a=b
 |r::rs,a,b=>r.1=a/\0<r.2.1/\gSeg xs a (a+r.2.1)/\qDD xs rs (a+r.2.1) b
theorem qJ3 {xs:Array Keyed}:∀{l:List (Nat×Nat×Nat)} {a b:Nat},qDD xs l a b->a+l.length<=b
 |[],a,b,h=>by
  have:a=b:=h;simp
  lia
 |r::rs,a,b,h=>by
  have:=qJ3 h.2.2.2;have:=h.2.1;simp
  lia
theorem gruns_app {xs:Array Keyed}:∀{l m:List (Nat×Nat×Nat)} {a b:Nat},qDD xs (l++m) a b↔∃c,qDD xs l a c/\qDD xs m c b
 |[],m,a,b=>⟨λh=>⟨a,rfl,h⟩,λ⟨c,e,h⟩=>by cases(show a=c from e);exact h⟩
 |r::rs,m,a,b=>by
  constructor
  ·rintro⟨h1,h2,h3,h4⟩;obtain⟨c,q1,q2⟩:=gruns_app.mp h4;exact⟨c,⟨h1,h2,h3,q1⟩,q2⟩
  ·rintro⟨c,⟨h1,h2,h3,q1⟩,q2⟩;exact⟨h1,h2,h3,gruns_app.mpr ⟨c,q1,q2⟩⟩
theorem qK6 {xs ys:Array Keyed}:∀{l:List (Nat×Nat×Nat)} {a b:Nat},(∀k,a<=k->k<b->gK ys k=gK xs k)->qDD xs l a b->qDD ys l a b
 |[],a,b,_,h=>h
 |r::rs,a,b,e,h=>by
  have le:=qJ3 h.2.2.2;refine⟨h.1,h.2.1,λi j hl hij hj=>?_,qK6 (λk h1 h2=>e k (by lia) h2) h.2.2.2⟩
  rw[e i hl (by lia),e j (by lia) (by lia)]
  exact h.2.2.1 i j hl hij hj
theorem qVQ {α:Type}:∀{l:List α} {i:Nat},i+1<l.length->∃pre x y post,l=pre++x::y::post/\pre.length=i
 |[],_,h=>by simp at h
 |[x],_,h=>by simp at h
 |x::y::r,0,_=>⟨[],x,y,r,rfl,rfl⟩
 |x::y::r,i+1,h=>by
  obtain⟨pre,a,b,post,e,el⟩:=qVQ (l:=y::r) (i:=i) (by simp at h ⊢;lia)
  exact⟨x::pre,a,b,post,by rw[e];rfl,by simp[el]⟩
section
variable{prog:B66}{w:World}{A:Around}{E:Value->Shared->Prop}{s:Shared}{κ0:B98}[LtOk prog w A s κ0]{a₀:Array Keyed}
theorem qHW {st:SortSt}{i b:Nat}{Q:Bool->SortSt->Prop}(h0:qC8 a₀)(g:gSG κ0 a₀ st)(r:qDD (arrOf st) (B68 st).toList 0 b)(hb:b<=a₀.size)(hi:i+1<(B68 st).size)
  (h:∀st2,gSG κ0 a₀ st2->qDD (arrOf st2) (B68 st2).toList 0 b->(B68 st2).size+1=(B68 st).size->(∀k,b<=k->gK (arrOf st2) k=gK (arrOf st) k)->Q true st2):wpS (model prog w) A E s (mergeAt' i) Q st:=by
 obtain⟨a0,⟨d,n,p⟩,⟨sb,j,q⟩,a,e,el⟩:=qVQ (l:=(B68 st).toList) (i:=i) (by simpa using hi)
 rw[e] at r;obtain⟨c,r1,r2⟩:=gruns_app.mp r;obtain⟨y,z,v,t,x,y3,m⟩:=r2;dsimp only at y z v t x y3 m;subst y;subst t;have le:=qJ3 m;refine qYL h0 g e el.symm z x (by lia) v y3 λst2 g2 pe u o=>h st2 g2 ?_ ?_ λk f=>o k (.inr (by lia))
 ·rw[pe];refine gruns_app.mpr ⟨d,qK6 (λk _ f=>o k (.inl f)) r1,rfl,by show 0<n+j;lia,?_,?_⟩
  ·show gSeg _ d (d+(n+j));rw[<- A18];exact u
  ·show qDD _ a (d+(n+j)) b;rw[<- A18];exact qK6 (λk f _=>o k (.inr f)) m
 ·have l1:=congrArg T3 pe;have l2:=congrArg T3 e;simp at l1 l2
  lia
theorem qOM (f:Nat×Nat×Nat->Nat×Nat×Nat)(y:Nat×Nat×Nat):∀l:List (Nat×Nat×Nat),(l++[y]).modify l.length f=l++[f y]
 |[]=>rfl
 |z::l=>by
  show z::(l++[y]).modify l.length f=z::(l++[f y]);rw[qOM f y l]
theorem qOL {xs:Array Keyed}{p:Array (Nat×Nat×Nat)}{b pw:Nat}{f:Nat×Nat×Nat->Nat×Nat×Nat}(d:∀y,(f y).1=y.1/\(f y).2.1=y.2.1)(r:qDD xs p.toList 0 b):qDD xs (p.modify (p.size-1) f).toList 0 b:=by
 rw[Array.toList_modify,<- C2];generalize p.toList=l at r;rcases List.eq_nil_or_concat l with e|⟨l',y,e⟩
 ·rw[e] at r ⊢;exact r
 ·rw[e] at r ⊢;rw[List.concat_eq_append] at r ⊢;obtain⟨c,g,n⟩:=gruns_app.mp r;rw[B0,B8,u9,qOM];refine gruns_app.mpr ⟨c,g,?_⟩;obtain⟨h,i,j,m⟩:=n;have k:=(d y).1;have a:=(d y).2;refine⟨k.trans h,by rw[a];exact i,by rw[a];exact j,by rw[a];exact m⟩
theorem gwpS_runs {st:SortSt}{Q:Unit->SortSt->Prop}(h0:qC8 a₀)(g:gSG κ0 a₀ st)(hp:B68 st=#[])(h:∀st2,gSG κ0 a₀ st2->gSortedTo (arrOf st2) a₀.size->Q () st2):wpS (model prog w) A E s sortRuns' Q st:=by
 rw [sortRuns'_eq];refine B65 (C05 ?_);dsimp only;rw [g.size];refine B65 (B92 (B78
  (I:=λx c st2=>∃lo,c=(none,lo)/\x<=lo/\lo<=a₀.size/\gSG κ0 a₀ st2/\qDD (arrOf st2) (B68 st2).toList 0 lo)
  (Q:=λc st2=>c.1=none/\gSG κ0 a₀ st2/\qDD (arrOf st2) (B68 st2).toList 0 a₀.size) ?step ?fin ⟨0,rfl,A7 _,F3 _,g,by rw[hp];rfl⟩) ?post)
 case fin=>
  rintro c st2 ⟨lo,rfl,h1,h2,g2,r2⟩;have e:lo=a₀.size:=by lia
  rw[e] at r2;exact⟨rfl,g2,r2⟩
 case post=>
  rintro ⟨c,lo⟩ st2 ⟨e,g2,r2⟩;cases (show c=none from e);dsimp only;have le:=qJ3 r2;refine B65 (B92 (B78 (I:=fun x c b=>c=(none,())/\gSG κ0 a₀ b/\qDD (arrOf b) (B68 b).toList 0 a₀.size/\(B68 b).size+x<=a₀.size)
   (Q:=λc b=>c=(none,())/\gSG κ0 a₀ b/\qDD (arrOf b) (B68 b).toList 0 a₀.size/\(B68 b).size<=1) ?_ ?_ ⟨rfl,g2,r2,by simpa using le⟩) ?_)
  ·rintro x c b _ _ ⟨rfl,g3,r3,le3⟩;refine B65 (C05 ?_);by_cases y:(B68 b).size<=1
   ·rw[if_pos y];exact B67 ⟨rfl,g3,r3,y⟩
   ·rw[if_neg y];refine B65 (qHW h0 g3 r3 (A7 _) ?_ λm g4 r4 l4 _=>?_)
    ·repeat' split
     all_goals lia
    ·rw[if_neg (by simp)]
     exact B67 ⟨rfl,g4,r4,by lia⟩
  ·rintro c b ⟨e,g3,r3,le3⟩;exact⟨e,g3,r3,by lia⟩
  ·rintro c b ⟨rfl,g3,r3,le3⟩;refine B67 (h b g3 ?_);have l3:(B68 b).toList.length<=1:=by simpa using le3
   generalize (B68 b).toList=l at r3 l3
   match l,r3,l3 with
   |[],r3,_=>
    have e:0=a₀.size:=r3;intro i j _ o
    lia
   |[r],r3,_=>
    have e:0+r.2.1=a₀.size:=r3.2.2.2;intro i j f o;exact r3.2.2.1 i j (F3 _) f (by lia)
   |_::_::_,_,l3=>simp at l3
 case step=>
  rintro x c st2 _ hx ⟨lo,rfl,hxl,hlo,g2,r2⟩;dsimp only;by_cases y:lo>=a₀.size
  ·rw[if_pos y];have e:lo=a₀.size:=by lia
   rw[e] at r2;exact B67 ⟨rfl,g2,r2⟩
  rw[if_neg y];refine B65 (qYN h0 g2 (by lia) (by lia) λk b g3 a1 k1 k2 u3 o3=>?_)
  have r3:qDD (arrOf b) (B68 b).toList 0 lo:=by
   rw[a1];exact qK6 (λj _ o=>o3 j (.inl o)) r2
  dsimp only;have d:∀(st5:SortSt) (n:Nat),gSG κ0 a₀ st5->1<=n->lo+n<=a₀.size->gSeg (arrOf st5) lo (lo+n)->qDD (arrOf st5) (B68 st5).toList 0 lo->
    gSG κ0 a₀ (setPending st5 ((B68 st5).push (lo,n,0)))/\qDD (arrOf st5) ((B68 st5).push (lo,n,0)).toList 0 (lo+n):=by
   intro st5 n g5 h1 h2 u5 r5;refine⟨⟨g5.perm,g5.kind,g5.failed⟩,?_⟩;rw[V7];exact gruns_app.mpr ⟨lo,r5,rfl,h1,u5,rfl⟩
  by_cases c2:k<minRun' a₀.size a₀.size 0
  ·rw[if_pos c2];refine B65 (wpS_lift (B99 ⟨rfl,?_⟩));refine B65 (qYO h0 g3 (by lia) (by lia) u3 λm g4 a0 u4 o4=>?_)
   have r4:qDD (arrOf m) (B68 m).toList 0 lo:=by
    rw[a0];exact qK6 (λj _ o=>o4 j (.inl o)) r3
   rw[if_neg (by simp)]
   refine B65 (C05 ?_);cases eb:(B68 m).back? with
   |none=>
    dsimp only;refine B65 (B82 (B67 ?_));obtain⟨p,v⟩:=d m (min (a₀.size-lo) (minRun' a₀.size a₀.size 0)) g4 (by lia) (by lia) u4 r4
    exact⟨_,rfl,by lia,by lia,p,v⟩
   |some t=>
    obtain ⟨z,u,q1⟩:=t;dsimp only;refine B65 (B92 (B78 (I:=fun _ c a=>c=(none,())/\gSG κ0 a₀ a/\qDD (arrOf a) (B68 a).toList 0 lo/\gSeg (arrOf a) lo (lo+(min (a₀.size - lo) (minRun' a₀.size a₀.size 0))))
     (Q:=λc a=>c=(none,())/\gSG κ0 a₀ a/\qDD (arrOf a) (B68 a).toList 0 lo/\gSeg (arrOf a) lo (lo+(min (a₀.size-lo) (minRun' a₀.size a₀.size 0)))) ?_ (λ_ _ q=>q) ⟨rfl,g4,r4,u4⟩) ?_)
    ·rintro x c a _ _ ⟨rfl,g6,r6,u6⟩;refine B65 (C05 ?_);by_cases c7:(B68 a).size>1
     ·rw[if_pos c7];cases ep:(B68 a)[(B68 a).size-2]? with
      |none=>
       dsimp only;exact B67 ⟨rfl,g6,r6,u6⟩
      |some t=>
       obtain⟨s2,n2,a2⟩:=t;dsimp only
       split
       ·exact B67 ⟨rfl,g6,r6,u6⟩
       ·refine B65 (qHW h0 g6 r6 (by lia) (by lia) λa3 g7 r7 _ o7=>?_)
        rw[if_neg (by simp)]
        refine B67 ⟨rfl,g7,r7,λi j hl f o=>?_⟩;rw[o7 i hl,o7 j (by lia)]
        exact u6 i j hl f o
     ·rw[if_neg c7];exact B67 ⟨rfl,g6,r6,u6⟩
    ·rintro c a ⟨rfl,g6,r6,u6⟩;dsimp only;refine B65 (B82 (B65 (B82 (B67 ?_))));obtain⟨p,v⟩:=d (setPending a ((B68 a).modify ((B68 a).size-1) λx=>(x.fst,x.2.fst,power' a₀.size (2*z+u) (2*z+u+u+(min (a₀.size-lo) (minRun' a₀.size a₀.size 0))) a₀.size))) (min (a₀.size-lo) (minRun' a₀.size a₀.size 0)) ⟨g6.perm,g6.kind,g6.failed⟩ (by lia) (by lia) u6 (qOL (pw:=0) (λ_=>⟨rfl,rfl⟩) r6)
     exact⟨_,rfl,by lia,by lia,p,v⟩
  ·rw[if_neg c2];refine B65 (C05 ?_);cases eb:(B68 b).back? with
   |none=>
    dsimp only;refine B65 (B82 (B67 ?_));obtain⟨p,v⟩:=d b k g3 (by lia) (by lia) u3 r3
    exact⟨_,rfl,by lia,by lia,p,v⟩
   |some t=>
    obtain ⟨z,u,q1⟩:=t;dsimp only;refine B65 (B92 (B78 (I:=fun _ c a=>c=(none,())/\gSG κ0 a₀ a/\qDD (arrOf a) (B68 a).toList 0 lo/\gSeg (arrOf a) lo (lo+k))
     (Q:=λc a=>c=(none,())/\gSG κ0 a₀ a/\qDD (arrOf a) (B68 a).toList 0 lo/\gSeg (arrOf a) lo (lo+k)) ?_ (λ_ _ q=>q) ⟨rfl,g3,r3,u3⟩) ?_)
    ·rintro x c a _ _ ⟨rfl,g6,r6,u6⟩;refine B65 (C05 ?_);by_cases c7:(B68 a).size>1
     ·rw[if_pos c7];cases ep:(B68 a)[(B68 a).size-2]? with
      |none=>
       dsimp only;exact B67 ⟨rfl,g6,r6,u6⟩
      |some t=>
       obtain⟨s2,n2,a2⟩:=t;dsimp only
       split
       ·exact B67 ⟨rfl,g6,r6,u6⟩
       ·refine B65 (qHW h0 g6 r6 (by lia) (by lia) λa3 g7 r7 _ o7=>?_)
        rw[if_neg (by simp)]
        refine B67 ⟨rfl,g7,r7,λi j hl f o=>?_⟩;rw[o7 i hl,o7 j (by lia)]
        exact u6 i j hl f o
     ·rw[if_neg c7];exact B67 ⟨rfl,g6,r6,u6⟩
    ·rintro c a ⟨rfl,g6,r6,u6⟩;dsimp only;refine B65 (B82 (B65 (B82 (B67 ?_))));obtain⟨p,v⟩:=d (setPending a ((B68 a).modify ((B68 a).size-1) λx=>(x.fst,x.2.fst,power' a₀.size (2*z+u) (2*z+u+u+k) a₀.size))) k ⟨g6.perm,g6.kind,g6.failed⟩ (by lia) (by lia) u6 (qOL (pw:=0) (λ_=>⟨rfl,rfl⟩) r6)
     exact⟨_,rfl,by lia,by lia,p,v⟩
end
end L2.G
namespace L2
open PySem PySem.Spec PyProof.Rows
section
variable{prog:B66}{w:World}{A:Around}{E:Value->Shared->Prop}{s:Shared}
theorem qU8 {a:Addr} {vs:List Value} {ns:List Int} {n:Nat} {P:Fin->Shared->Prop} (f:s.heap.get? a=some (seqObj "list" vs.toArray n)) (e:B71 vs ns) (z:vs.length<=B64)
  (h:∀(out:Array Value) (zs:List Int),B71 out.toList zs->zs.Perm ns->zs.Pairwise (·<=·)->P (.done (.ret .none)) {s with heap:=sortedHeap s.heap a vs out}):wpAny (model prog w) A (Builtin.«list.sort» ⟨[.ref a],[]⟩) P E s:=by
 have q:=B7 f;have z0:vs.toArray.size<=B64:=by simpa using z
 rw[list_sort_plain];refine B62 (listItems_at f rfl (B62 (C15 f rfl ?_ z0 (F3 _))));have l:∃k,(s.heap.update a (Q1 λ_=>#[])).get? a=some (seqObj "list" #[] k):=⟨_,get?_update_seq f λ_=>#[]⟩;obtain⟨k,l⟩:=l;refine B62 (C28 l rfl (B62 (wpAny_newTuple ?_ (by simpa using z))))
 refine B62 (C32 (B72 ?_));have o:(((s.heap.update a (Q1 λ_=>#[])).push (seqObj "tuple" vs.toArray 0)).push (seqObj "list" #[] 0)).get? a=some (seqObj "list" #[] k):=by
  rw[j7,j7]
  ·exact l
  ·rw[m8];exact C6 q
  ·rw[size_push',m8];exact C6 (L5 q)
 have d:∀xs:Array Keyed,xs.Perm (B86 vs)->SortedTo xs (B86 vs).size->P (.done (.ret .none)) {s with heap:=sortedHeap s.heap a vs (xs.map (·.2))}:=by
  intro xs p sx;obtain⟨zs,q1,q2,q3⟩:=sorted_out e p sx;exact h _ zs q1 q2 q3
 have r:∀xs:Array Keyed,xs.Perm (B86 vs)->(xs.map (·.2)).size<=B64+1:=by
  intro xs p;rw[z9,p.size_eq,pairsOf_size]
  lia
 show wpAny _ A _ P E {s with heap:=((s.heap.update a (Q1 λ_=>#[])).push (seqObj "tuple" vs.toArray 0)).push (seqObj "list" #[] 0)};dsimp only;by_cases b:vs.toArray.size<2
 ·simp only[if_pos b];refine B62 (B63 ?_);rw[B20];refine B62 (B63 (B62 (C28 o rfl (B62 (C15 o rfl ?_ (F3 _) (r (B86 vs) (.refl _)))))));simp only[bne_self_eq_false,G6,if_false];refine B63 (d (B86 vs) (.refl _) λi j a0 hj=>?_);rw[pairsOf_size] at hj;rw[C0] at b;rw[show i=j by lia]
  exact O4 _
 ·simp only[if_neg b];have kk:keyKind' vs.toArray=pure oneType':=by
   match vs,b,e with
   |[],b,_=>exact absurd (by simp) b
   |[_],b,_=>exact absurd (by simp) b
   |_::_::_,_,e=>exact keyKind_ints e
  rw[kk]
  letI:G.NM:=⟨numOf,λv=>∃n t,v=.int n t⟩
  haveI:G.LtOk prog w A {s with heap:=((s.heap.update a (Q1 λ_=>#[])).push (seqObj "tuple" vs.toArray 0)).push (seqObj "list" #[] 0)} oneType':=⟨λ{x y Q E} hx hy h=>by
   obtain⟨n,t,rfl⟩:=hx;obtain⟨m,u,rfl⟩:=hy;rw[keyLt'_oneType];exact oneLt_int h⟩
  refine B62 (B63 (B62 (B76 (G.gwpS_runs (κ0:=oneType') (a₀:=B86 vs) (Q:=λ_ c=>G.gSG oneType' (B86 vs) c/\G.gSortedTo (arrOf c) (B86 vs).size) e.intKeys ⟨.refl _,rfl,rfl⟩ rfl λc g u=>⟨g,u⟩) ?_ λ_ _ x=>x)));rintro⟨_,c⟩ s2 ⟨es,g,u⟩;cases(show s2=_ from es);refine B62 (C28 o rfl (B62 (C15 o rfl ?_ (F3 _) (r _ g.perm))));dsimp only;rw[g.failed];simp only[bne_self_eq_false,G6,if_false];exact B63 (d _ g.perm u)
end
section
variable{X:Cx}
theorem qNV {Ab:List (Addr×Obj)}{s:Shared}{σ:St}{H:Hp}{Q:VK}{A:Around}{E:Value->Shared->Prop}{ns:List Int}{D:Addr}(I:Inv X Ab σ (Ag H D (.lst (ns.map V.int))) s)
  (q:∀zs:List Int,zs.Perm ns->zs.Pairwise (·<=·)->Q (.ref D) (Ag H D (.lst (zs.map V.int)))):
  wpAny (model X.prog X.w) A (call (.builtin "list.sort") [.ref D]) (λ_ s'=>EP X Ab σ Q (.ref D) s') E s:=by
 obtain⟨z,g,n,h,r,e⟩:=I.lstM qA1;have k:=qCB h;have c:=h.length;refine B79 slot_list_sort ⟨_,e,rfl⟩ entry_list_sort (qU8 (ns:=ns) (n:=n) e k (by rw[<- c];exact z) λout zs l i j=>⟨_,rfl,?_⟩) (args_list_sort _)
 obtain⟨o,a⟩:=sortedHeap_at (vs:=g) (out:=out) e;refine⟨.ref D,Ag H D (.lst (zs.map V.int)),?_,rfl,q zs i j⟩;have p:Ag (Ag H D (.lst (ns.map V.int))) D (.lst (zs.map V.int))=Ag H D (.lst (zs.map V.int)):=qJB;rw[<- p];refine I.write (x:=D) (e:=D) (t':=s.toks) (by rw[qA1];exact trivial) (.inl rfl) (λb u m d=>?_) ⟨_,a⟩ ?_
 ·rw[sortedHeap_old m (B7 d)];exact d
 ·refine⟨?_,out.toList,o,qI5 l,by simpa using a⟩
  rw[A0,i.length_eq,<- A0 (f:=V.int)];exact z
theorem qVM:∀{vs:List Value} {ns:List Int},vs.length=ns.length->(∀(i:Nat) (v:Value),vs[i]?=some v->∃n t,ns[i]?=some n/\v=.int n t)->B71 vs ns
 |[],[],_,_=>.nil
 |[],_::_,h,_=>by simp at h
 |_::_,[],h,_=>by simp at h
 |v::vs,n::ns,h,f=>by
  obtain⟨m,t,e1,e2⟩:=f 0 v rfl;cases(show n=m from D5 e1);rw[e2];exact .cons _ _ (qVM (by simpa using h) λi u hu=>by simpa using f (i+1) u (by simpa using hu))
theorem qaV {κ:Type}:∀{Af:List (κ×V)} {vs:List (κ×Value)},KV Af vs->Af.map (·.1)=vs.map (·.1):=by
 intro Af vs r;unfold KV at r
 induction r with
 |nil=>rfl
 |cons h t ih=>rw[C7,C7,ih,h.1]
theorem qFL (hc:X.calm=true):qCG X (.builtin "sorted") (fun xs H Q=>∃ p ns,xs=[.ref p]/\(SqL X.K H p (ns.map V.int)\/SqT X.K H p (ns.map V.int)\/∃ Af,H p=some (.dK Af)/\Af.map (·.1)=ns.map G0)/\
  ∀(a:Addr) (zs:List Int),H a=none->zs.Perm ns->zs.Pairwise (·<=·)->Q (.ref a) (Ag H a (.lst (zs.map V.int)))):=by
 intro Ab s σ H xs us Q I r h;obtain ⟨p,ns,rfl,hq,q⟩:=h;obtain ⟨u,rfl,rx⟩:=qE1 r;cases rx;refine Y6 kind_sorted plain_sorted entry_sorted (args_sorted1 _) ?_;unfold Builtin.«sorted»;refine B62 (m:=checkCount "sorted" 1 1 _) (B63 ?_);have f:∀ (s1:Shared) (vs:List Value) (zs:List Int),Inv X Ab σ H s1->B71 vs zs->zs.length<=B64->zs.Perm ns->wpAny (model X.prog X.w) X.A.in1 (do
   let l <- newList vs
   let _ <- C02 [l] (call (.builtin "list.sort") [l] [])
   ret l) (λf s'=>∃r,f=.done (.ret r)/\EP X Ab σ Q r s') X.xe s1:=by
  intro s1 vs zs I1 hv d hp;have c:=IntsAre.length hv;refine B62 (C32 ?_ (by rw[c];exact d))
  have hf:=I1.hok.fresh (A7 s1.heap.objs.size);refine B62 (B72 (B76 (qNV (E:=X.xe) (qLA I1 hv d) λzs a b=>q _ zs hf (a.trans hp) b) (λ_ s' x=>?_) λ_ _ e=>e));exact B63 ⟨_,rfl,x⟩
 rcases hq with hq|hq|⟨Af,hq,hk⟩
 ·obtain⟨a0,y,pl,d⟩:=I.list hq;obtain⟨o,ho,j,n,hd⟩:=pl.isList;have c:=y.length;refine B62 (wpAny_collect_seq p (.inl rfl) ho j hd (λh' hk=>?_) (by rw[C0,<- c];exact d))
  exact f _ _ ns (I.kept (t':=s.toks) hk) (by simpa using qCB y) (by rw[A0] at d;exact d) (.refl _)
 ·obtain⟨a0,y,pl,d⟩:=I.tuple hq;obtain⟨o,ho,j,n,hd⟩:=pl;have c:=y.length;refine B62 (wpAny_collect_seq p (.inr rfl) ho j hd (λh' hk=>?_) (by rw[C0,<- c];exact d))
  exact f _ _ ns (I.kept (t':=s.toks) hk) (by simpa using qCB y) (by rw[A0] at d;exact d) (.refl _)
 ·obtain⟨d,hd,vs,z,dd⟩:=qbA I.hok hq;obtain⟨ep,da⟩:=dd.dictAt;have lv:vs.length=Af.length:=z.length.symm;have ln:ns.length=Af.length:=by
   have:=congrArg T3 hk;simpa using this.symm
  refine B62 (q9 (A:=X.A.in1) (PySem.W.kdl_dict (ep:=ep) hd) (I.ok.hd hc) da (by rw[lv];exact d) λh' tk a1 kept g=>?_)
  refine f _ _ ns (I.kept (t':=tk) kept) ?_ (by rw[ln];exact d) (.refl _)
  obtain⟨l1,l2⟩:=g;refine qVM (by rw[C2,l1,lv,ln]) λi v hv=>?_
  obtain⟨k,x,e1,e2⟩:=l2 i v (by rw[<- F0];exact hv)
  have ek:(Af.map (·.1))[i]?=some k:=by rw[qaV z,B9,e1];rfl
  rw[hk,B9] at ek;cases en:ns[i]? with
  |none=>rw[en] at ek;cases ek
  |some n=>
   rw[en] at ek;cases ek;obtain⟨t,e3⟩:=A86 (k:=n) (v:=v) e2;exact⟨n,t,rfl,e3⟩
noncomputable def Itd (lo:Int)(n:Nat):It:=⟨λi _=>i<n,λi H x H'=>H'=H/\x=.int (lo-i),λi _=>n<=i⟩
theorem qTQ {P:B66}{w:World}{K:PySem.W.Frag}{tg:Expr}(c:Addr)(lo:Int)(n:Nat):Turn P w K tg (Itd lo n) [c] c (λi h=>IsRangeIter h c (lo+(i:Nat)*(-1)) ((n:Int)-(i:Nat)) (-1)) where
 mem:=A6.mpr rfl
 obj:=λi h a b d=>by
  cases A6.mp d;exact⟨_,a,λv z=>nomatch(show A63 _=B15 v from z)⟩
 keep:=λi h g a k=>k c (A6.mpr rfl) _ a
 item:=by
  intro X x p hK q i Ab s σ H E I j a l;subst x p hK;obtain⟨u,y,f2,r,m,f5⟩:=j c (A6.mpr rfl);refine(Walks.range (prog:=X.prog) (w:=X.w) (I.ok.hd q) c lo (-1) n).item i s _ _ l a λv g tk hv f kk=>?_;obtain⟨t,rfl⟩:=hv;have I1:Inv X Ab σ H {s with heap:=g,toks:=tk}:=I.turned (λb o d e=>kk b o (by simpa using d) e) u y r m f5
  refine⟨_,rfl,qTA (s:={s with heap:=g,toks:=tk}) (n:="range_iterator") f rfl rfl (by decide) ⟨.int (lo-i),H,I1,⟨t,?_⟩,⟨rfl,rfl⟩,f,λb d=>(j b d).1⟩⟩
  rw[show lo+(i:Int)*(-1)=lo-i by lia]
 done:=by
  intro X x p hK q i Ab s σ H E I j a l;subst x p hK;obtain⟨u,y,f2,r,m,f5⟩:=j c (A6.mpr rfl);have a0:n<=i:=l;exact wpAny_pyNext_range_end (I.ok.hd q) a (by lia) λg eb=>⟨rfl,I.turned (t':=s.toks) (λb o d e=>eb b o d e) u y r m f5⟩
 self:=λ_ _ _ _ _ a h=>wpAny_pyIter_rangeiter a h
def qeN (ta:TA):TI:=λσ H R=>ta σ H λvs H1=>∃i j:Int,vs=[.int i,.int j,.int (-1)]/\(-(2^62)<=i/\i<2^62/\-(2^62)<=j/\j<2^62)/\R (Itd i (i-j).toNat) H1
theorem qaE {z a b c:Expr} {n:TA} {p pos:Pos} (w:Gl X "range") (x:X.mg "range" = none) (ha:PA X [a,b,c] n) (hs:B69 [a,b,c] X.env=[(false,eval a X.env),(false,eval b X.env),(false,eval c X.env)]:=by rfl)
  (d:B69 [b,c] X.env=[(false,eval b X.env),(false,eval c X.env)]:=by rfl):PI X z (.Call (.Name "range" p) [a,b,c] [] pos) (qeN n):=by
 intro t s σ H R I h;refine Call_ (qIB I w x boot_range (P6 (thn (ha pos t s σ H _ I h) λus s1 ⟨vs,H1,I1,r1,q1⟩=>?_) (by rw[hs,d]) (by rw[d];rfl)))
 obtain⟨i,j,e,⟨q1,q2,v,q4⟩,q⟩:=q1;subst e;obtain⟨u1,f,rfl,⟨l,rfl⟩,r2⟩:∃u f,us=u::f/\RelV (.int i) u/\Vals [.int j,.int (-1)] f:=by cases r1 with|cons r f=>exact⟨_,_,rfl,r,f⟩
 obtain⟨u2,u3,rfl,⟨k,rfl⟩,⟨g,rfl⟩⟩:=qNJ r2;refine call_range_3 (by decide) ?_ (E8 (c9 (by lia)))
 refine wpAny_pyIter_range (B58 ..) (PySem.W.small_down q1 q2 v q4) ?_;have m:Inv X t σ H1 {s1 with heap:=s1.heap.push {cls:=.type "range",data:=.fields #[.int i l,.int j k,.int (-1) g]},toks:=s1.toks}:=I1.kept λb o e=>A5 _ e;refine⟨(s1.heap.push {cls:=.type "range",data:=.fields #[.int i l,.int j k,.int (-1) g]}).objs.size,[(s1.heap.push {cls:=.type "range",data:=.fields #[.int i l,.int j k,.int (-1) g]}).objs.size],_,_,H1,rfl,
  m.kept (t':=s1.toks) λb o e=>A5 _ e,qTQ _ i (i-j).toNat,?_,λb y=>?_,q⟩
 ·have e1:i+((0:Nat):Int)*(-1)=i:=by simp
  have e2:(((i-j).toNat:Nat):Int)-((0:Nat):Int)=S0 i j (-1):=by rw[PySem.W.rangeSize_downNat];simp
  show IsRangeIter _ _ (i+((0:Nat):Int)*(-1)) ((((i-j).toNat:Nat):Int)-((0:Nat):Int)) (-1);rw[e1,e2];exact B5 _ rfl
 ·cases A6.mp y;exact m.fpOk (A7 _) (m.hok.fresh (A7 _))
theorem qYQ {lo:Int}{n:Nat}{g:TG}{a:TS}{D:Ends}{σ:St}{H:Hp}(Pv:Nat->St->Hp->Prop)(c:Pv 0 σ H)
  (hs:∀i σ H,i<n->Pv i σ H->g (.int (lo-i)) σ H λσ2 H2=>a {D with nx:=Pv (i+1),ct:=Pv (i+1),bk:=D.nx} σ2 H2) (b:∀σ H,Pv n σ H->D.nx σ H):
  ForG (Itd lo n) g a D σ H:=by
 refine⟨λi m σ H=>m=n-i/\i<=n/\Pv i σ H,⟨n,by simp,F3 _,c⟩,λi m σ H ⟨e,hi,p⟩=>?_⟩
 rcases Nat.lt_or_ge i n with hlt|hge
 ·refine .inr ⟨hlt,Pv (i+1),λσ' f d=>⟨n-(i+1),by lia,rfl,hlt,d⟩,λx f y=>?_⟩
  rw[y.1,y.2];exact hs i σ H hlt p
 ·have h:i=n:=by lia
  rw[h] at p;exact .inl ⟨hge,b σ H p⟩
theorem qOB (f:X.A.units<cLine):OpR X (B80 .NotEq) (λx y H Q=>∃p l xs,x=.ref p/\y=.ref l/\SqL X.K H p xs/\SqL X.K H l []/\Q (.bl (!xs.isEmpty)) H):=by
 intro z s σ H x y v u Q I o i h;obtain⟨p,l,xs,rfl,rfl,m,t,q⟩:=h;cases o;cases i;obtain⟨g,n,d,z1⟩:=I.list m;obtain⟨b,k,c,w⟩:=I.list t;cases k;cases n with
 |nil=>exact A11 (e:=λ_=>true) d.isList c.isList rfl f (λj h _=>absurd h (by simp)) _ _ _ _ ⟨.bl false,H,I,rfl,q⟩
 |cons a r=>exact c6 d.isList c.isList (by simp) f _ _ _ _ ⟨.bl true,H,I,rfl,q⟩
end
open PySem.AutoSeq1 in
section
variable{X:Cx}
end
noncomputable def topI (b:Int)(l:List Int):Int:=l.foldl (λb x=>if x>b then x else b) b
theorem qJC:∀(l:List Int) (b:Int),b<=topI b l/\(∀x∈l,x<=topI b l)/\(topI b l=b\/topI b l∈l)
 |[],b=>⟨O4 _,(λ_ z=>nomatch z),.inl rfl⟩
 |y::l,b=>by
  obtain⟨h1,h2,h3⟩:=qJC l (if y>b then y else b)
  have e:topI b (y::l)=topI (if y>b then y else b) l:=rfl
  rw[e];have hb:b<=(if y>b then y else b)/\y<=(if y>b then y else b):=by split<;>omega
  refine⟨by omega,λx hx=>?_,?_⟩
  ·rcases B6.mp hx with hx|hx
   ·omega
   ·exact h2 x hx
  ·rcases h3 with h3|h3
   ·split at h3
    ·rw[if_pos (by assumption)]
     exact .inr (by rw[h3];exact D8)
    ·rw[if_neg (by assumption)]
     exact .inl h3
   ·exact .inr (B3 _ h3)
section
variable{prog:B66}{w:World}{A:Around}{R:Result->Shared->Prop}{I:Addr}{fp wr:List Addr}{n:Nat}{P:Nat->Value->Prop}{St:Nat->Heap->Prop}
end
section
variable{prog:B66}{w:World}{A:Around}{E:Value->Shared->Prop}{s:Shared}
theorem qIF {id:String}{b:Builtin}{a:List Value}{c:List (Str×Value)}{Q:Value->Shared->Prop}(l:builtinKind id=none)(i:plainId id=true)(k:entryFor table id=some b)(m:argsOk id ⟨a,c⟩)
  (j:wpAny (model prog w) A.in1 (b ⟨a,c⟩) (λfin s'=>∃c',fin=.again c'/\c'.quiet=true/\B97 (model prog w) A c' (λr s'=>∃v,r=.ok (.ret v)/\Q v s') s') E s):wpAny (model prog w) A (call (.builtin id) a c) Q E s:=by
 refine wpAny_call (C43 i k ?_);have d:=B76 j (Q':=fun fin s'=>match fin with
   |.done f=>(match(Except.ok f:Result) with|.ok (.ret v)=>Q v s'|.ok _=>False|.error e=>E e s')
   |.again c'=>c'.quiet=true/\B97 (model prog w) A c' (λr s'=>match r with|.ok (.ret v)=>Q v s'|.ok _=>False|.error e=>E e s') s')
  (λfin s' ⟨c',e,h1,d⟩=>by subst e;exact⟨h1,B94 d λr s' ⟨v,e,q⟩=>by subst e;exact q⟩) λ_ _ h=>h
 simp only[checkBuiltinCall,l];cases sg:Manifest.signature? id with
 |none=>exact B63 d
 |some sig=>
  have g:Bind.checkArgs id sig ⟨a,c⟩=pure ():=by simpa only[argsOk,sg] using m
  simp only[g];exact B63 d
end
section
variable{X:Cx}
noncomputable def topD (dv:Option Int):List Int->Option Int
 |[]=>dv
 |y::r=>some (topI y r)
end
theorem qOW:entryFor table "dict.update.loop" = some Builtin.«dict.update.loop»:=entryFor_of_tree (by kernel_rfl)
theorem qGW:plainId "dict.update.loop" = true:=by decide +kernel
theorem qQ4:typeLookup (.type "list") "keys" = pure none:=by rw[typeLookup_type,C35];kernel_rfl
section
variable{prog:B66}{w:World}{A:Around}{E:Value->Shared->Prop}{s:Shared}
theorem qV3 {a:Addr} {o:Obj} {xs:Array Value} {k:Nat} {Q:Option Value->Shared->Prop} (l:s.heap.get? a=some o) (j:o.cls=.type "list") (d:o.data=.seq xs k) (i:o.dict=none) (x:A.handled=none)
  (h:∀h' tk,(∀b u,s.heap.get? b=some u->h'.get? b=some u)->Q none {s with heap:=h',toks:=tk}):wpAny (model prog w) A (getAttr? (.ref a) "keys") Q E s:=by
 obtain⟨c,q,t,p⟩:=o;simp only at j d i;subst j d i;obtain⟨r,g,n,tk,v⟩:=s;have m:∀tk',(⟨r,g,n,tk',v⟩:Shared).TypeIs (.ref a) "list":=λ_=>⟨_,l,rfl⟩;have f1:=sub_AttributeError;have f3:=Z9.lookup;have z:=Z9.bind (.ref a);have f5:=am_list_getattr_none;unfold getAttr? getAttrBy? getAttrBy
 repeat (any_goals (first|assumption|exact m _|((with_reducible show wpAny _ _ (call (Value.builtin "list.__getattribute__") _ _) _ _ _);refine C40 Z9 (m _) am_entry_list_getattribute (F.args_list_getattribute_2 _ _) (meets_getattribute_miss_list a xs k p "keys" _ qQ4 (by decide +kernel) (by decide +kernel)) ⟨l,x,λh' tk' e f=>?_⟩)|wp_step))
 obtain⟨t',y,he⟩:=f.there;show wpAny _ _ (getattributeRaised _ _ _ _ _ _ _) _ _ _;unfold getattributeRaised
 repeat (any_goals (first|assumption|wp_step))
 exact h _ _ f.of.keeps
end
section
variable{prog:B66}{w:World}{A:Around}{R:Result->Shared->Prop}{I:Addr}{fp wr:List Addr}{n:Nat}{P:Nat->Value->Prop}{St:Nat->Heap->Prop}
end
section
variable{prog:B66}{w:World}{A:Around}{E:Value->Shared->Prop}{s:Shared}
end
theorem qJ2 {α β:Type}{F:α->β->Prop}:∀{l₁:List α} {l₂:List β} {i:Nat} {a:α},Paired F l₁ l₂->l₁[i]?=some a->∃b,l₂[i]?=some b/\F a b
 |_,_,_,_,.nil,e=>by simp at e
 |_,_,0,_,.cons r _,e=>by simp at e;subst e;exact⟨_,rfl,r⟩
 |_,_,i+1,a,.cons _ t,e=>by
  obtain⟨b,h1,h2⟩:=qJ2 (i:=i) (a:=a) t (by simpa using e)
  exact⟨b,by simpa using h1,h2⟩
theorem qPS {h:Heap} {p:Addr} {a:Array Value} (x:PlainL h p a):∃o,h.get? p=some o/\o.cls=.type "list"/\o.dict=none/\∃n,o.data=.seq a n:=by
 obtain⟨o,n,e,c,b,d⟩:=x;exact⟨o,e,c,b,n,d⟩
section
variable{X:Cx}
def qe8 (K:PySem.W.Frag):R2:=λx y H Q=>∃a b xs ys,x=.ref a/\y=.ref b/\SqT K H a xs/\SqT K H b ys/\ys≠[]/\xs.length+ys.length<=B64/\(xs=[]->Q (.ref b) H)/\(xs≠[]->∀p,H p=none->Q (.ref p) (Ag H p (.tup (xs++ys))))
theorem qUV:OpR X (B90 .Add) (qe8 X.K):=by
 intro Ab s σ H x y v u Q I t ry h;obtain⟨a,b,xs,ys,rfl,rfl,w,r,hy,hz,q1,q2⟩:=h;by_cases j:xs=[]
 ·subst j;cases t;cases ry;obtain⟨a0,r1,p1,_⟩:=I.tuple w;obtain⟨f,r2,p2,_⟩:=I.tuple r;cases r1;obtain⟨⟨a1,dd,m,sl⟩,p,q,n,l⟩:=id p1;obtain⟨⟨o,i,g,k⟩,d,c,n2,e⟩:=id p2;simp only at q l c e;subst q l c e;exact concat_meets ⟨_,p,rfl⟩ ⟨_,d,rfl⟩ noFill_tuple_add seq_tuple_add d6 b7 (Z5 _ _) (tuple_addW0 a b #[] f.toArray n n2 dd i sl k rfl) ⟨p,d,.ref b,H,I,rfl,q1 rfl⟩
 ·exact qaJ Ab s σ H (.ref a) (.ref b) v u Q I t ry ⟨a,b,xs,ys,rfl,rfl,w,r,j,hz,λz=>absurd z hy,λ_=>q2 j⟩
end
open PySem
noncomputable def g5:Nat->Nat
 |0=>0
 |n+1=>5*g5 n+1
theorem qRE:∀n:Nat,5^n=4*g5 n+1
 |0=>rfl
 |n+1=>by
  rw[U7,qRE n,g5]
  lia
theorem qVW (m:Nat):∀n:Nat,g5 (m+n)=5^n*g5 m+g5 n
 |0=>by simp[g5]
 |n+1=>by
  rw[<- A18,g5,qVW m n,g5,U7,j8,<- W6,W2 5 (5^n)]
  lia
theorem qZK (n:Nat):g5 (n+n)=2*(g5 n*(2*g5 n+1)):=by
 rw[qVW,qRE,B21,j8 (g5 n),j8 2];have a:4*g5 n*g5 n=2*(g5 n*(2*g5 n)):=by
  rw[A12 (g5 n) 2,<- W6 2 2,W6 4]
 rw[a]
 lia
theorem qPW (k m:Nat)(h:m%2=1):Nat.Coprime (2^k) m:=by
 refine Nat.Coprime.pow_left k ?_;have:Nat.gcd 2 m=1:=by
  rw[Nat.gcd_rec,h]
  rfl
 exact this
theorem qZJ:∀(k n:Nat),2^k ∣ g5 n->2^k ∣ n
 |0,n,_=>by simp
 |k+1,n,h=>by
  rcases Nat.mod_two_eq_zero_or_one n with e|e
  ·obtain⟨m,rfl⟩:∃m,n=m+m:=⟨n/2,by lia⟩
   rw[qZK,U7,W2 (2^k)] at h;have h2:2^k ∣ g5 m*(2*g5 m+1):=Nat.dvd_of_mul_dvd_mul_left (by decide) h
   have h3:2^k ∣ g5 m:=(qPW k (2*g5 m+1) (by lia)).dvd_of_dvd_mul_right h2
   obtain⟨c,hc⟩:=qZJ k m h3;exact⟨c,by rw[U7,W2 (2^k) 2,W6,<- hc];lia⟩
  ·obtain⟨m,rfl⟩:∃m,n=m+m+1:=⟨n/2,by lia⟩
   exfalso
   rw[g5,qZK] at h;have h2:2 ∣ 5*(2*(g5 m*(2*g5 m+1)))+1:=Nat.dvd_trans ⟨2^k,by rw[U7,W2]⟩ h
   lia
def it5 (i n:Nat):Nat:=5^n*i+g5 n
theorem qRU (i n:Nat):it5 i (n+1)=5*it5 i n+1:=by
 unfold it5;rw[U7,g5,j8,<- W6,W2 5 (5^n)]
 lia
theorem qaX {k i n d:Nat}(a:0<d)(f:d<2^k)(h:it5 i n%2^k=it5 i (n+d)%2^k):False:=by
 have e:it5 i (n+d)=it5 i n+5^n*(g5 d*(4*i+1)):=by
  unfold it5;rw[u7 n d,qVW d n,Nat.pow_add,qRE d,j8 (g5 d),Nat.mul_one,j8 (5^n)];have:(4*g5 d+1)*5^n*i=5^n*i+5^n*(g5 d*(4*i)):=by
   rw[B21,B22,B21,u7];congr 1;rw[W2 4,W6,W6,A12 (5^n),A12 4 (5^n)]
  rw[this]
  lia
 have g:2^k ∣ 5^n*(g5 d*(4*i+1)):=by
  rw[e] at h;have:=(Nat.dvd_iff_mod_eq_zero ..).mpr (Nat.sub_mod_eq_zero_of_mod_eq h.symm)
  rwa[A19] at this
 have c:2^k ∣ g5 d*(4*i+1):=(qPW k (5^n) (by rw[qRE];lia)).dvd_of_dvd_mul_left g
 have b:2^k ∣ g5 d:=(qPW k (4*i+1) (by lia)).dvd_of_dvd_mul_right c
 have j:=Nat.le_of_dvd a (qZJ k d b)
 lia
theorem qVJ {k i j:Nat}(h:j<2^k):∃n,n<2^k/\it5 i n%2^k=j:=by
 apply G4;intro o;have g:((F2 (2^k)).map λn=>it5 i n%2^k).Nodup:=by
  rw[t6,J4];refine U1.imp_of_mem λ{a b} t q m e=>?_;have l:=D9.mp q;refine qaX (k:=k) (i:=i) (n:=a) (d:=b-a) (by lia) (by lia) ?_
  rw[show a+(b-a)=b by lia]
  exact e
 have c:((F2 (2^k)).map λn=>it5 i n%2^k) ⊆ (F2 (2^k)).filter λx=>decide (x≠j):=λx f=>by
  obtain⟨n,p,e⟩:=D2.mp f;refine D6.mpr ⟨D9.mpr (by rw[<- e];exact Z7 _ (A39 k)),decide_eq_true λz=>o ⟨n,D9.mp p,e.trans z⟩⟩
 have r:=O6 g c;have s:((F2 (2^k)).filter λx=>decide (x≠j)).length<(F2 (2^k)).length:=by
  refine List.length_filter_lt_length_iff_exists.mpr ⟨j,D9.mpr h,by simp⟩
 rw[A0] at r
 lia
structure TabG (byText:Bool)(t:B91)(n:Nat):Prop where
 pow:∃k,3<=k/\t.mask+1=2^k
 dum:t.dummies=#[]
 plain:t.plain=true
 led:t.led=!byText
 size:t.place.size=n
 up:t.place.toList.Pairwise (·<·)
 le:∀j∈t.place.toList,j<=t.mask
def qJS (mask i pt:Nat):SetTable.Probe:={j:=i,more:=P1 mask i-i,i:=i,perturb:=pt,dummy:=none}
theorem qO1 {mask i:Nat}(h:i<=mask):P1 mask i<=mask/\i<=P1 mask i/\P1 mask i<=i+9:=by
 unfold P1
 split<;>lia
section
variable{byText:Bool}{t:B91}{n:Nat}
theorem TabG.slot (T:TabG byText t n)(j:Nat):(t.slot j=.empty/\j∉t.place.toList)\/(∃i,t.slot j=.live i/\j∈t.place.toList):=by
 have d:B55 t.dummies j=false:=by rw[T.dum];rfl
 obtain⟨o,k,f⟩:=qI3 (j:=j) T.up;unfold SetTable.slot;dsimp only;by_cases b:t.place[E9 t.place j]?=some j
 ·rw[if_pos (by rw[b];simp)]
  exact .inr ⟨_,rfl,by rw[<- Array.mem_def];exact Array.mem_of_getElem? b⟩
 ·rw[if_neg (by simpa using b),d,if_neg (by simp)]
  refine .inl ⟨rfl,λg=>b ?_⟩;obtain⟨i,l,c⟩:=Y1.mp g;have a:i<t.place.size:=by simpa using l
  have e:t.place.getD i j=j:=by
   rw[F1,C4 a];simpa using c
  have h:¬i<E9 t.place j:=λz=>by have:=k i z;lia
  have m:E9 t.place j=i:=by
   apply B23 (Y9 h);apply Y9;intro z;have:=f (E9 t.place j) (A7 _) (by lia)
   have:=qZV j T.up _ _ z a
   lia
  rw[m,C4 a];simpa using c
theorem TabG.run (T:TabG byText t n)(h:Int)(i a:Nat):∀(more j f:Nat),(∃j',G5 t (λ_=>h+1) h (more+1+f) {j:=j,more:=more,i:=i,perturb:=a,dummy:=none}=some (.empty j' none)/\j'∉t.place.toList/\j'<=j+more)\/
  (G5 t (λ_=>h+1) h (more+1+f) {j:=j,more:=more,i:=i,perturb:=a,dummy:=none}=G5 t (λ_=>h+1) h f (qJS t.mask ((i*5+1+a/32)%(t.mask+1)) (a/32))/\j∈t.place.toList):=by
 intro more
 induction more with
 |zero=>
  intro j f;rw[B01,u7 1 f];rcases T.slot j with⟨e,m⟩|⟨k,e,m⟩
  ·left
   refine⟨j,?_,m,A7 _⟩;unfold G5;dsimp only;rw[e]
  ·right
   refine⟨?_,m⟩;rw[G5];dsimp only;rw[e];dsimp only;rw[if_neg (by simp;lia)]
   rfl
 |succ more ih=>
  intro j f;rw[show more+1+1+f=more+1+f+1 by lia]
  rcases T.slot j with⟨e,m⟩|⟨k,e,m⟩
  ·left
   refine⟨j,?_,m,B05 _ _⟩;unfold G5;dsimp only;rw[e]
  ·have c:G5 t (λ_=>h+1) h (more+1+f+1) {j:=j,more:=more+1,i:=i,perturb:=a,dummy:=none}=G5 t (λ_=>h+1) h (more+1+f) {j:=j+1,more:=more,i:=i,perturb:=a,dummy:=none}:=by
    rw[G5];dsimp only;rw[e];dsimp only;rw[if_neg (by simp;lia)]
    unfold SetTable.advance;dsimp only;rw[if_pos (by lia)]
    rfl
   rw[c];rcases ih (j+1) f with⟨j',b,d,g⟩|⟨b,_⟩
   ·exact .inl ⟨j',b,d,by lia⟩
   ·exact .inr ⟨b,m⟩
theorem TabG.leap (T:TabG byText t n)(h:Int)(i a F:Nat)(hi:i<=t.mask)(f:10<=F):(∃j',G5 t (λ_=>h+1) h F (qJS t.mask i a)=some (.empty j' none)/\j'∉t.place.toList/\j'<=t.mask)\/
  (∃F',F<=F'+10/\G5 t (λ_=>h+1) h F (qJS t.mask i a)=G5 t (λ_=>h+1) h F' (qJS t.mask ((i*5+1+a/32)%(t.mask+1)) (a/32))/\i∈t.place.toList):=by
 obtain⟨k,g,d⟩:=qO1 hi;have e:F=(P1 t.mask i-i)+1+(F-1-(P1 t.mask i-i)):=by lia
 rcases T.run h i a (P1 t.mask i-i) i (F-1-(P1 t.mask i-i)) with⟨j',b,c,j⟩|⟨b,c⟩
 ·refine .inl ⟨j',?_,c,by lia⟩
  rw[e];exact b
 ·refine .inr ⟨F-1-(P1 t.mask i-i),by lia,?_,c⟩
  conv=>lhs;rw[e]
  exact b
theorem TabG.go0 (T:TabG byText t n)(h:Int):∀(m q i F:Nat),i<=t.mask->10*m<=F->(∃j',G5 t (λ_=>h+1) h F (qJS t.mask (it5 i q%(t.mask+1)) 0)=some (.empty j' none)/\j'∉t.place.toList/\j'<=t.mask)\/(∀c,c<m->it5 i (q+c)%(t.mask+1)∈t.place.toList)
 |0,q,i,F,hi,hF=>.inr λc hc=>absurd hc (by lia)
 |m+1,q,i,F,hi,hF=>by
  have lt:it5 i q%(t.mask+1)<t.mask+1:=Z7 _ (by lia)
  rcases T.leap h (it5 i q%(t.mask+1)) 0 F (by lia) (by lia) with ok|⟨F',hF',e,z⟩
  ·exact .inl ok
  ·have e2:((it5 i q%(t.mask+1))*5+1+0/32)%(t.mask+1)=it5 i (q+1)%(t.mask+1):=by
    rw[qRU,A40,l9,W2,A67,A68,Nat.mod_mod,<- A68,<- A67]
   rw[e2,A40] at e;rw[e];rcases T.go0 h m (q+1) i F' hi (by lia) with ok|all
   ·exact .inl ok
   ·refine .inr λc hc=>?_;cases c with
    |zero=>exact z
    |succ c=>
     have:=all c (by lia)
     rw[show q+(c+1)=q+1+c by lia]
     exact this
theorem TabG.goK (T:TabG byText t n)(hn:n<=t.mask)(h:Int):∀(k i pt F:Nat),i<=t.mask->pt<32^k->10*(k+(t.mask+1))<=F->∃j',G5 t (λ_=>h+1) h F (qJS t.mask i pt)=some (.empty j' none)/\j'∉t.place.toList/\j'<=t.mask
 |0,i,pt,F,hi,hp,hF=>by
  have e:pt=0:=by lia
  subst e;have e0:it5 i 0%(t.mask+1)=i:=by
   unfold it5 g5;rw[Nat.pow_zero,B22,l9,B06 (by lia)]
  have q:=T.go0 h (t.mask+1) 0 i F hi (by lia)
  rw[e0] at q;rcases q with ok|all
  ·exact ok
  ·exfalso
   obtain⟨k,_,hk⟩:=T.pow;have sub:F2 (t.mask+1) ⊆ t.place.toList:=λj hj=>by
    have hj':=D9.mp hj;rw[hk] at hj';obtain⟨m,hm,e⟩:=qVJ (i:=i) hj';rw[<- hk] at hm e;have:=all m hm;rw[B01,e] at this;exact this
   have:=O6 m9 sub;have hs:=T.size;simp at this
   lia
 |k+1,i,pt,F,hi,hp,hF=>by
  rcases T.leap h i pt F hi (by lia) with ok|⟨F',hF',e,z⟩
  ·exact ok
  ·rw[e];have lt:(i*5+1+pt/32)%(t.mask+1)<t.mask+1:=Z7 _ (by lia)
   refine T.goK hn h k _ _ F' (by lia) ?_ (by lia)
   rw[U7] at hp
   lia
theorem qWW (h:Int):G9 h<32^13:=by
 unfold G9;have b:0<=h%(2^64:Int):=X6 _ (by decide)
 have a:h%(2^64:Int)<2^64:=U8 _ (by decide)
 have:((2:Int)^64)=18446744073709551616:=by decide
 rw[this] at b a ⊢;have c:(32:Nat)^13=36893488147419103232:=by decide
 lia
theorem TabG.free (T:TabG byText t n)(b:n<=t.mask)(h:Int):∃j,t.freeSlot h=some (j,false)/\j∉t.place.toList/\j<=t.mask:=by
 have c:G9 h%(t.mask+1)<t.mask+1:=Z7 _ (by lia)
 obtain⟨j,e,z,l⟩:=T.goK b h 13 (G9 h%(t.mask+1)) (G9 h) (10*V0 t.mask) (by lia) (qWW h) (by unfold V0;lia)
 refine⟨j,?_,z,l⟩;unfold SetTable.freeSlot SetTable.probe;have a:t.probeStart h=qJS t.mask (G9 h%(t.mask+1)) (G9 h):=rfl;rw[a,e]
 rfl
theorem TabG.lay (T:TabG byText t n)(hn:n<t.mask){es:Array (Int×Value)}(he:es.size=n)(h:Int)(x:Value):
  ∃p t',layNew t es h x=(F6 es p (h,x),t',false,false)/\TabG byText t' (n+1)/\t'.mask=t.mask/\p<=es.size:=by
 obtain⟨j,e,z,l⟩:=T.free (by lia) h
 obtain⟨k,b2,u⟩:=qI3 (j:=j) T.up;have s:B55 t.dummies j=false:=by rw[T.dum];rfl
 have m:(F6 t.place (E9 t.place j) j).toList=t.place.toList.take (E9 t.place j)++j::t.place.toList.drop (E9 t.place j):=qDM _ _ _;have q:(F6 t.place (E9 t.place j) j).size=n+1:=by
  rw[<- C2,m,B0,D3,C5,M9,C2,T.size];rw[T.size] at k
  lia
 have w:TabG byText {t with place:=F6 t.place (E9 t.place j) j,dummies:=t.dummies} (n+1):=by
  refine⟨T.pow,T.dum,T.plain,T.led,q,?_,?_⟩
  ·show(F6 t.place (E9 t.place j) j).toList.Pairwise (·<·);rw[m];have r:∀a∈t.place.toList.take (E9 t.place j),a<j:=λa f=>by
    obtain⟨i,hi,c⟩:=Y1.mp f;rw[C5,C2] at hi;have d:i<t.place.size:=by lia
    have:=b2 i (by lia)
    rw[F1,C4 d] at this;rw[A09] at c;rw[<- c];simpa using this
   have hi:∀a∈t.place.toList.drop (E9 t.place j),j<a:=λa f=>by
    have v:a∈t.place.toList:=R7 f;obtain⟨i,hi,c⟩:=Y1.mp f;rw[M9,C2] at hi;have d:E9 t.place j+i<t.place.size:=by lia
    have:=u _ (B05 _ i) d;rw[F1,C4 d] at this;rw[A08] at c;have y:j<=a:=by
     rw[<- c];simpa using this
    rcases Nat.lt_or_eq_of_le y with h4|h4
    ·exact h4
    ·exact absurd (h4▸v) z
   refine P9.mpr ⟨T.up.sublist (V4 _ _),P8.mpr ⟨hi,T.up.sublist (V8 _ _)⟩,λa f b hb=>?_⟩;rcases B6.mp hb with e|hb
   ·rw[e];exact r a f
   ·exact X3 (r a f) (hi b hb)
  ·show∀i∈(F6 t.place (E9 t.place j) j).toList,i<=t.mask;rw[m];intro i hi;rcases A8.mp hi with hi|hi
   ·exact T.le i (O5 hi)
   ·rcases B6.mp hi with e|hi
    ·lia
    ·exact T.le i (R7 hi)
 have g:n9 {t with place:=F6 t.place (E9 t.place j) j,dummies:=t.dummies} (n+1)=true:=by
  unfold n9 A20;dsimp only;rw[q,T.dum];have:((#[]:Array Nat)).size=0:=rfl;simp only[this,beq_self_eq_true,o5,decide_eq_true_eq]
  lia
 have o:(F6 es (E9 t.place j) (h,x)).size=n+1:=by
  rw[<- C2,qDM,B0,D3,C5,M9,C2];rw[T.size] at k
  lia
 refine⟨E9 t.place j,{t with place:=F6 t.place (E9 t.place j) j,dummies:=t.dummies},?_,w,rfl,by rw[he,<- T.size];exact k⟩
 unfold layNew;rw[e];dsimp only;unfold SetTable.put;rw[s];dsimp only;rw[o];unfold SetTable.orStandIn;simp only[G6,if_false];rw[g];simp
end
theorem qUL {α:Type}:∀{l m:List α},l.Nodup->m.Nodup->(∀x,x∈l↔x∈m)->l.Perm m
 |[],[],_,_,_=>.refl _
 |[],y::m,_,_,h=>absurd ((h y).mpr D8) (by simp)
 |x::l,m,hl,hm,h=>by
  obtain⟨s,t,rfl⟩:=List.append_of_mem ((h x).mp D8);have l1:=L9.mp hl;have m1:(x::(s++t)).Nodup:=(A25.nodup_iff).mp hm;have m2:=L9.mp m1;refine((qUL l1.2 m2.2 λy=>?_).cons x).trans A25.symm;have key:=h y;rw[B6,A25.mem_iff,B6] at key
  constructor
  ·intro hy;rcases key.mp (.inr hy) with e|e
   ·exact absurd (e▸hy) l1.1
   ·exact e
  ·intro hy;rcases key.mpr (.inr hy) with e|e
   ·exact absurd (e▸hy) m2.1
   ·exact e
theorem qI7:∀(fuel k n:Nat),3<=k->n<2^k*2^fuel->∃k',3<=k'/\A41 n fuel (2^k)=2^k'/\n<2^k'
 |0,k,n,hk,h=>⟨k,hk,rfl,by simpa using h⟩
 |fuel+1,k,n,hk,h=>by
  rw[A41];by_cases c:2^k<=n
  ·rw[if_pos c,<- U7];exact qI7 fuel (k+1) n (by lia) (by rw[U7,W6,<- Nat.pow_succ'];exact h)
  ·rw[if_neg c];exact⟨k,hk,rfl,by lia⟩
theorem qNX {n:Nat}(h:n<=1000000):∃k,3<=k/\b8 n=2^k/\n<2^k:=by
 unfold b8;exact qI7 64 3 n (A7 _) (X1 h (by decide))
section
variable{mask:Nat}{owner:Array (Option Nat)}
theorem qdA (i a F:Nat)(hi:i<=mask):(∃j,F9 mask owner (F+1) i a=some j/\owner.getD j (some 0)=none/\j<=mask)\/
  (F9 mask owner (F+1) i a=F9 mask owner F ((i*5+1+a/32)%(mask+1)) (a/32)/\owner.getD i (some 0)≠none):=by
 obtain⟨f,d,c⟩:=qO1 hi;cases e:(F2 (P1 mask i+1-i)).find? λk=>(owner.getD (i+k) (some 0)).isNone with
 |some k=>
  left
  have b:=A42 e;have g:=D9.mp (Y7 e);refine⟨i+k,?_,by simpa using b,by lia⟩
  rw[F9,e]
 |none=>
  right
  refine⟨?_,?_⟩
  ·rw[F9,e]
   rfl
  ·have:=A78.mp e 0 (D9.mpr (by lia))
   simpa using this
theorem qdB:∀(m q i F:Nat),i<=mask->m<=F->(∃j,F9 mask owner F (it5 i q%(mask+1)) 0=some j/\owner.getD j (some 0)=none/\j<=mask)\/(∀c,c<m->owner.getD (it5 i (q+c)%(mask+1)) (some 0)≠none)
 |0,q,i,F,hi,hF=>.inr λc hc=>absurd hc (by lia)
 |m+1,q,i,F,hi,hF=>by
  have lt:it5 i q%(mask+1)<mask+1:=Z7 _ (by lia)
  obtain⟨F',rfl⟩:∃F',F=F'+1:=⟨F-1,by lia⟩
  rcases qdA (mask:=mask) (owner:=owner) (it5 i q%(mask+1)) 0 F' (by lia) with ok|⟨e,z⟩
  ·exact .inl ok
  ·have e2:((it5 i q%(mask+1))*5+1+0/32)%(mask+1)=it5 i (q+1)%(mask+1):=by
    rw[qRU,A40,l9,W2,A67,A68,Nat.mod_mod,<- A68,<- A67]
   rw[e2,A40] at e;rw[e];rcases qdB m (q+1) i F' hi (by lia) with ok|all
   ·exact .inl ok
   ·refine .inr λc hc=>?_;cases c with
    |zero=>exact z
    |succ c=>
     have:=all c (by lia)
     rw[show q+(c+1)=q+1+c by lia]
     exact this
theorem qd9 {p:Nat}(hp:mask+1=2^p){j0:Nat}(h0:j0<=mask)(hj0:owner.getD j0 (some 0)=none):∀(k i pt F:Nat),i<=mask->pt<32^k->k+(mask+1)<=F->∃j,F9 mask owner F i pt=some j/\owner.getD j (some 0)=none/\j<=mask
 |0,i,pt,F,hi,hpt,hF=>by
  have e:pt=0:=by lia
  subst e;have e0:it5 i 0%(mask+1)=i:=by
   unfold it5 g5;rw[Nat.pow_zero,B22,l9,B06 (by lia)]
  have q:=qdB (mask:=mask) (owner:=owner) (mask+1) 0 i F hi (by lia)
  rw[e0] at q;rcases q with ok|all
  ·exact ok
  ·exfalso
   obtain⟨m,hm,e⟩:=qVJ (k:=p) (i:=i) (j:=j0) (by lia)
   rw[<- hp] at hm e;have:=all m hm;rw[B01,e] at this;exact this hj0
 |k+1,i,pt,F,hi,hpt,hF=>by
  obtain⟨F',rfl⟩:∃F',F=F'+1:=⟨F-1,by lia⟩
  rcases qdA (mask:=mask) (owner:=owner) i pt F' hi with ok|⟨e,z⟩
  ·exact ok
  ·rw[e];have lt:(i*5+1+pt/32)%(mask+1)<mask+1:=Z7 _ (by lia)
   refine qd9 hp h0 hj0 k _ _ F' (by lia) ?_ (by lia)
   rw[U7] at hpt
   lia
end
structure Own (N:Nat)(L:List Nat)(owner:Array (Option Nat)):Prop where
 size:owner.size=N
 nd:L.Nodup
 lt:∀j∈L,j<N
 at_:∀(m j:Nat),L[m]?=some j->owner[j]?=some (some m)
 no:∀j,j<N->j∉L->owner[j]?=some none
theorem Own.put {N:Nat}{L:List Nat}{owner:Array (Option Nat)}(o:Own N L owner){j:Nat}(d:j<N)(e:j∉L):Own N (L++[j]) (owner.setIfInBounds j (some L.length)):=by
 refine⟨by simp[o.size],qGD o.nd e,λi hi=>?_,λm i h=>?_,λi hi a=>?_⟩
 ·rcases A8.mp hi with hi|hi
  ·exact o.lt i hi
  ·rw[A6.mp hi];exact d
 ·by_cases c:m<L.length
  ·rw[J2 c] at h;have b:j≠i:=λz=>e (z▸A9 h);rw[j9 b];exact o.at_ m i h
  ·rw[G1 (by lia)] at h
   have f:m=L.length:=by
    have:=(A3.mp h).1;simp at this
    lia
   subst f;rw[B00] at h;cases h;rw[Array.getElem?_setIfInBounds_self_of_lt (by rw[o.size];exact d)]
 ·have b:j≠i:=λz=>a (A8.mpr (.inr (by rw[z];exact A6.mpr rfl)))
  rw[j9 b];exact o.no i hi λz=>a (A8.mpr (.inl z))
theorem qRK {mask p:Nat}(hp:mask+1=2^p):∀(hs:List Int) (L:List Nat) (owner:Array (Option Nat)),Own (mask+1) L owner->L.length+hs.length<=mask->
  ∃L' owner',hs.foldl (λ(acc:Option (Array (Option Nat)×Nat)) (h:Int)=>acc >>= λx=>F9 mask x.1 (V0 mask) (G9 h%(mask+1)) (G9 h) >>= λj=>some (x.1.setIfInBounds j (some x.2),x.2+1)) (some (owner,L.length))=some (owner',L'.length)/\Own (mask+1) L' owner'/\L'.length=L.length+hs.length
 |[],L,owner,o,_=>⟨L,owner,rfl,o,by simp⟩
 |h::hs,L,owner,o,hl=>by
  rw[D3] at hl;obtain⟨j0,hj0,hjn⟩:∃j0,j0<mask+1/\j0∉L:=by
   apply G4;intro no;have sub:F2 (mask+1) ⊆ L:=λj hj=>G4 λz=>no ⟨j,D9.mp hj,z⟩;have:=O6 m9 sub;simp at this
   lia
  have g0:owner.getD j0 (some 0)=none:=by
   rw[F1,o.no j0 hj0 hjn]
   rfl
  have lt:G9 h%(mask+1)<mask+1:=Z7 _ (by lia)
  obtain⟨j,e,z,l⟩:=qd9 hp (by lia) g0 13 (G9 h%(mask+1)) (G9 h) (V0 mask) (by lia) (qWW h) (by unfold V0;lia)
  have jn:j∉L:=λhm=>by
   obtain⟨m,hm⟩:=E5 hm;rw[F1,o.at_ m j hm] at z;cases z
  have st:=o.put (show j<mask+1 by lia) jn
  obtain⟨L',owner',e1,o',e2⟩:=qRK hp hs (L++[j]) _ st (by rw[B0,B8];lia)
  refine⟨L',owner',?_,o',by rw[e2,B0,B8,D3];lia⟩
  rw[V5];have e3:((some (owner,L.length):Option (Array (Option Nat)×Nat)) >>= λx=>F9 mask x.1 (V0 mask) (G9 h%(mask+1)) (G9 h) >>= λj=>some (x.1.setIfInBounds j (some x.2),x.2+1))=some (owner.setIfInBounds j (some L.length),(L++[j]).length):=by
   show(F9 mask owner (V0 mask) (G9 h%(mask+1)) (G9 h) >>= _)=_;rw[e,B0,B8]
   rfl
  rw[e3];exact e1
theorem qaH (N:Nat):Own N [] (B24 N none):=⟨by simp,.nil,λ_ h=>(nomatch h),λm j h=>by simp at h,λj a _=>by simp[a]⟩
theorem qQ7 {mask p:Nat}(c:mask+1=2^p)(a:Array Int)(d:a.size<=mask):∃L owner,A92 mask a=some owner/\Own (mask+1) L owner/\L.length=a.size:=by
 obtain⟨L,owner,e,o,l⟩:=qRK c a.toList [] _ (qaH (mask+1)) (by simpa using d)
 refine⟨L,owner,?_,o,by simpa using l⟩
 unfold A92;rw [<- Array.foldl_toList];have:(a.toList.foldl (fun (b:Option (Array (Option Nat) × Nat)) (h:Int)=>do
   let(owner,k) <- b
   let j <- F9 mask owner (V0 mask) (G9 h%(mask+1)) (G9 h)
   pure (owner.setIfInBounds j (some k),k+1)) (some (B24 (mask+1) none,0)))=some (owner,L.length):=e
 rw[this]
 rfl
theorem qO3 {α:Type}:∀l:List α,(F2 l.length).filterMap (λi=>l[i]?)=l
 |[]=>rfl
 |a::l=>by
  rw[D3,A32,K0];show a::((F2 l.length).map Nat.succ).filterMap (λi=>(a::l)[i]?)=a::l;rw[A79];congr 1;exact qO3 l
theorem qXK {b:Bool}{t:B91}{n:Nat}(T:TabG b t n){es:Array (Int×Value)}(u:es.size=n){wanted:Nat}(hw:wanted<=1000000)(hn:n<wanted):
  ∃es' t',relayAll t es wanted=(es',t',false)/\es'.toList.Perm es.toList/\TabG b t' n/\wanted<=t'.mask:=by
 obtain⟨k,k3,hk,a2⟩:=qNX hw;have w:b8 wanted-1+1=2^k:=by rw[hk];have:=A39 k;lia
 have h8:8<=2^k:=by
  have:=L6 (n:=2) (by decide) k3
  exact this
 obtain⟨L,f,e,o,l⟩:=qQ7 w (es.map (·.1)) (by rw[z9,u,hk];lia)
 rw[z9,u] at l;generalize hM:b8 wanted-1=M at *;have fa:∀j m,(f.getD j none).map (λx=>(j,x))=some (j,m)↔L[m]?=some j:=by
  intro j m;rw[F1];by_cases p:j<M+1
  ·by_cases q:j∈L
   ·obtain⟨m',h⟩:=E5 q;rw[o.at_ m' j h]
    constructor
    ·intro z;have:m'=m:=by simpa using z
     rw[<- this];exact h
    ·intro z;have:some (some m')=some (some m):=(o.at_ m' j h).symm.trans (o.at_ m j z);cases this
     rfl
   ·rw[o.no j p q]
    constructor
    ·intro z;simp at z
    ·intro z;exact absurd (A9 z) q
  ·rw[A33 (by rw[o.size];lia)]
   constructor
   ·intro z;simp at z
   ·intro z;exact absurd (o.lt j (A9 z)) p
 have r:∀j x,x∈((f.getD j none).map λy=>(j,y))->x.1=j/\L[x.2]?=some j:=by
  intro j x g;have s:(f.getD j none).map (λy=>(j,y))=some x:=g;obtain⟨y,hy,e⟩:=A31.mp s;subst e;exact⟨rfl,(fa j y).mp s⟩
 generalize hlive:(F2 (M+1)).filterMap (λj=>(f.getD j none).map (λx=>(j,x)))=d;have p1:d.Pairwise λa c=>a.1<c.1:=by
  rw[<- hlive,b9];refine U1.imp λ{a c} v x g y hy=>?_;rw[(r a x g).1,(r c y hy).1];exact v
 have p2:d.Pairwise λa c=>a.2≠c.2:=by
  rw[<- hlive,b9];refine U1.imp λ{a c} v x g y hy z=>?_;have h1:=(r a x g).2;have h2:=(r c y hy).2;rw[z,h2] at h1;cases h1
  lia
 have a0:∀m,m∈d.map (·.2)↔m∈F2 n:=by
  intro m;rw[D2,D9]
  constructor
  ·rintro⟨x,g,rfl⟩;rw[<- hlive] at g;obtain⟨j,_,p⟩:=Q7.mp g;have:=(A3.mp (r j x p).2).1
   lia
  ·intro hm;have h:m<L.length:=by lia
   have hL:=A4 h;refine⟨(L[m],m),?_,rfl⟩;rw[<- hlive];exact Q7.mpr ⟨L[m],D9.mpr (o.lt _ (W7 h)),(fa L[m] m).mpr hL⟩
 have pm:(d.map (·.2)).Perm (F2 n):=qUL (by rw[t6,J4];exact p2) m9 a0
 have ll:d.length=n:=by have:=pm.length_eq;simpa using this
 have es':((d.map (·.2)).toArray.filterMap (λi=>es[i]?)).toList.Perm es.toList:=by
  rw[Array.toList_filterMap];have:=pm.filterMap (λi=>es[i]?);have e2:(F2 n).filterMap (λi=>es[i]?)=es.toList:=by
   have:=qO3 es.toList;rw[C2,u] at this;simpa using this
  rw[e2] at this;simpa using this
 have a1:((d.map (·.2)).toArray.filterMap (λi=>es[i]?)).size=n:=by
  rw[<- C2,es'.length_eq,C2,u]
 refine⟨(d.map (·.2)).toArray.filterMap (λi=>es[i]?),{mask:=M,place:=(d.map (·.1)).toArray,dummies:=#[],finger:=t.finger,led:=t.led,moves:=t.movedTo M,plain:=t.plain},?_,es',⟨⟨k,k3,w⟩,rfl,T.plain,T.led,by simp[ll],?_,?_⟩,?_⟩
 ·have er:t.relaid (es.map (·.1)) wanted=some ({mask:=M,place:=(d.map (·.1)).toArray,dummies:=#[],finger:=t.finger,led:=t.led,moves:=t.movedTo M,plain:=t.plain},(d.map (·.2)).toArray):=by
   unfold SetTable.relaid SetTable.laid;rw[hM,e];show some _=some _;rw[<- hlive]
  unfold relayAll;rw[er];dsimp only;have c1:coversAll (d.map (·.2)).toArray es.size=true:=by
   unfold coversAll;rw[u];exact List.isPerm_iff.mpr pm
  have c2:n9 {mask:=M,place:=(d.map (·.1)).toArray,dummies:=#[],finger:=t.finger,led:=t.led,moves:=t.movedTo M,plain:=t.plain} ((d.map (·.2)).toArray.filterMap (λi=>es[i]?)).size=true:=by
   unfold n9 A20;rw[a1];simp[ll]
   lia
  rw[c1,c2]
  rfl
 ·show(d.map (·.1)).toArray.toList.Pairwise (·<·);rw[A69,J4];exact p1
 ·show∀j∈(d.map (·.1)).toArray.toList,j<=M;intro j p;rw[A69] at p;obtain⟨x,g,rfl⟩:=D2.mp p;rw[<- hlive] at g;obtain⟨i,hi,g⟩:=Q7.mp g;rw[(r i x g).1];have:=D9.mp hi
  lia
 ·show wanted<=M
  lia
def SetG (w:World)(a:Addr)(zs:List Int)(h:Heap):Prop:=
 ∃(es:Array (Int×Value)) (ep:Nat) (t:B91) (ks:List Int),h.get? a=some {cls:=.type "set",data:=.set es ep t}/\TabG (byT w) t es.size/\Ents ks es.toList/\ks.Perm zs/\zs.Nodup/\zs.length<4095/\es.size*5<t.mask*3
theorem SetG.at {w:World}{a:Addr}{zs:List Int}{h h':Heap}(x:SetG w a zs h)(k:∀o,h.get? a=some o->h'.get? a=some o):SetG w a zs h':=
 let⟨es,ep,t,ks,h1,r⟩:=x;⟨es,ep,t,ks,k _ h1,r⟩
theorem TabG.fits {b:Bool}{t:B91}{n:Nat}(T:TabG b t n)(a:n<=t.mask):t.fits n=true:=by
 unfold n9 A20;rw[T.size,T.dum];have:((#[]:Array Nat)).size=0:=rfl;simp only[this,beq_self_eq_true,o5,decide_eq_true_eq]
 lia
theorem TabG.mask7 {b:Bool}{t:B91}{n:Nat}(T:TabG b t n):7<=t.mask:=by
 obtain⟨k,a,c⟩:=T.pow;have:=L6 (n:=2) (by decide) a
 lia
theorem insertAt_perm {es:Array (Int×Value)}{p:Nat}{x:Int×Value}:(F6 es p x).toList.Perm (es.toList++[x]):=by
 rw[qDM];have a:es.toList++[x]=es.toList.take p++(es.toList.drop p++[x]):=by
  rw[<- P3,X4]
 rw[a];exact l7 _ (List.perm_append_singleton _ _).symm
section
variable{prog:B66}{w:World}{A:Around}{E:Value->Shared->Prop}{s:Shared}
theorem qZ8 {a:Addr} {es es':Array (Int×Value)} {ep:Nat} {t t':B91} {h:Heap} (b:h.get? a=some {cls:=.type "set",data:=.set es ep t}):
  (h.update a (Obj.putSet es' t')).get? a=some {cls:=.type "set",data:=.set es' (ep+1) t'}:=by
 have:=G8 (Obj.putSet es' t') b (by rw[putSet_of _ _ (ep:=ep) (es:=es) (t:=t) rfl];rfl)
 rw[putSet_of _ _ (ep:=ep) (es:=es) (t:=t) rfl] at this;exact this
theorem qXF {a:Addr}{zs:List Int}{k:Int}{tk:Tok}{Q:Bool->Shared->Prop}(hS:SetG w a zs s.heap)(a0:zs.length<4094)
  (h:∀h',Heap.SameBut a s.heap h'->SetG w a (addI zs k) h'->∀b,Q b {s with heap:=h'}):wpAny (model prog w) A (setAddHashed a (.int k tk) (hashInt k)) Q E s:=by
 obtain⟨d,ep,t,ks,u,T,v,y,a2,a3,r⟩:=id hS;have g:d.size=zs.length:=SetI.size (a:=a) (h:=s.heap) v y;have n:ElemsOf (C10 prog w) d.toList:=v.elems;have h7:=T.mask7;have hb:d.size<scanBound:=by rw[g];unfold scanBound;lia
 have hf:t.fits d.size=true:=T.fits (by lia)
 unfold setAddHashed setAddHashedIn;refine B72 (B62 (B89 u rfl hf ?_));dsimp only;rw[byScan_of (knd:=C10 prog w) (x:=.int k tk) rfl hb n];simp only[↓reduceIte];unfold setAddByScan;refine B62 ?_;refine B62 (B99 ?_);refine B62 (wpAny_setScan_of (knd:=C10 prog w) (k:=k) (intKind_is _ _ _ _) u rfl hf n ?_);have f:=Ents.find (prog:=prog) (w:=w) (k:=k) v;cases hr:B44 (λe=>(C10 prog w).is k e.2) d.toList with
 |some j=>
  dsimp only;rw[hr] at f;have i:k∈zs:=y.mem_iff.mp (f.mp rfl);refine B63 (B63 ?_);have e:s={s with heap:=s.heap}:=by cases s;rfl
  rw[e];refine h s.heap (Heap.SameBut.refl a s.heap) ?_ _;unfold addI;rw[if_pos i];exact hS
 |none=>
  dsimp only;rw[hr] at f;have i:¬k∈zs:=λz=>by have:=f.mpr (y.mem_iff.mpr z);cases this
  obtain⟨p,t',e1,q,tm,a4⟩:=T.lay (by lia) rfl (hashInt k) (.int k tk)
  rw[e1];dsimp only;refine B62 (B63 ?_);rw[q.plain];simp only[↓reduceIte];rw[hashByValue_scannable 8 (x:=.int k tk) rfl];refine B62 (B63 ?_);have c:(F6 d p (hashInt k,R5 k tk)).size=d.size+1:=by
   rw[<- C2,insertAt_perm.length_eq,B0,C2]
   rfl
  rw[show plainKind (R5 k tk)=true from rfl];simp only[↓reduceIte];show wpAny _ _ (storeSet a (F6 d p (hashInt k,.int k tk)) t' >>= _) _ _ _;refine B62 (wpAny_storeSet_of u rfl ?_ (by rw[c,g,B77];lia))
  have l:∀(es2:Array (Int×Value)) (ep2:Nat) (t2:B91) (h2:Heap),h2.get? a=some {cls:=.type "set",data:=.set es2 ep2 t2}->es2.toList.Perm (F6 d p (hashInt k,R5 k tk)).toList->TabG (byT w) t2 (d.size+1)->(d.size+1)*5<t2.mask*3->SetG w a (addI zs k) h2:=by
   intro es2 ep2 t2 h2 g2 pm T2 o;obtain⟨a1,h4,h5⟩:=Ents.perm (ks:=ks++[k]) (T5 v ⟨tk,rfl⟩) (pm.trans insertAt_perm);have m:es2.size=d.size+1:=by rw[<- c,<- C2,pm.length_eq,C2]
   refine⟨es2,ep2,t2,a1,g2,by rw[m];exact T2,h4,?_,?_,?_,by rw[m];exact o⟩
   ·unfold addI;rw[if_neg i];exact h5.trans (y.append_right _)
   ·unfold addI;rw[if_neg i];exact qGD a2 i
   ·unfold addI;rw[if_neg i,B0,B8]
    lia
  have hg:=qZ8 (es':=F6 d p (hashInt k,.int k tk)) (t':=t') u;have fill:t'.fill=d.size+1:=by
   unfold A20;rw[q.size,q.dum]
   rfl
  cases tf:t'.tooFull with
  |false=>
   simp only[k8,G6,↓reduceIte];refine B63 (B63 ?_);refine h _ (Q2 s.heap a _) (l _ _ _ _ hg (.refl _) q ?_) _;unfold SetTable.tooFull at tf;rw[fill] at tf;have:=of_decide_eq_false tf
   lia
  |true=>
   simp only[B31,Bool.and_self,↓reduceIte];rw[c];have gr:A61 (d.size+1)=(d.size+1)*4:=by
    unfold A61;rw[if_neg (by lia)]
   obtain⟨es2,t2,e2,p2,T2,m2⟩:=qXK q c (wanted:=A61 (d.size+1)) (by rw[gr];lia) (by rw[gr];lia)
   rw[gr] at m2;rw[e2];dsimp only;refine B62 (B63 ?_);refine B62 (wpAny_storeSet_of hg rfl ?_ (by rw[<- C2,p2.length_eq,C2,c,g,B77];lia))
   refine B63 (B63 ?_);exact h _ ((Q2 s.heap a _).trans (Q2 _ a _)) (l _ _ _ _ (qZ8 hg) p2 T2 (by lia)) _
end
section
variable{prog:B66}{w:World}{A:Around}{R:Result->Shared->Prop}{I:Addr}{fp wr:List Addr}{G:Array C18->Array C18->Prop}{n:Nat}{P:Nat->Value->Prop}{St:Nat->Shared->Prop}
theorem qI8 (W:WalksS prog w A.in1 I fp wr G n P St)(S:Addr)(j:S∉fp)(ns:List Int)(a3:ns.length=n)(h4:n<=4000)(p:∀i v,P i v->∃t,v=.int (ns.getD i 0) t):
  ∀(k i:Nat) (s:Shared),n-i=k->i<=n->St i s->SetG w S (dedI (ns.take i)) s.heap->
   (∀s',Moved (S::wr) G s s'->SetG w S (dedI ns) s'.heap->R (.ok (.ret .none)) s')->
   B97 (model prog w) A (.builtin "set.update.loop" ⟨[.ref S,.ref I],[]⟩) R s:=by
 have f:S∉wr:=λh=>j (W.sub _ h);have a:∀b∈wr,b∈S::wr:=λb m=>B3 _ m;intro k
 induction k with
 |zero=>
  intro i s hk hi d hS hR;have a1:i=n:=by lia
  subst a1;refine B73 F.entry_set_update_loop ?_;rw[F4 F.plain_set_update_loop _];show wpAny _ A.in1 (pyNext (.ref I) >>= _) _ _ s;refine B62 (W.done s _ _ d λs' g=>?_);show wpAny _ A.in1 (ret Q0) _ _ s';rw[D0 (by lia)] at hS
  exact B63 (hR s' (g.mono a) (hS.at λo e=>g.heap S _ f e))
 |succ k ih=>
  intro i s hk hi d hS hR;have r:i<n:=by lia
  refine B73 F.entry_set_update_loop ?_;rw[F4 F.plain_set_update_loop _];show wpAny _ A.in1 (pyNext (.ref I) >>= _) _ _ s;refine B62 (W.item i s _ _ r d λv s' hP x g=>?_);obtain⟨t,rfl⟩:=p i v hP;have a0:SetG w S (dedI (ns.take i)) s'.heap:=hS.at λo e=>g.heap S _ f e;show wpAny _ A.in1 (C02 [R5 (ns.getD i 0) t] (setAdd S (.int (ns.getD i 0) t)) >>= _) _ _ s';refine B62 (B72 ?_);unfold setAdd;refine B72 ?_;refine B62 ((C10 prog w).pyHash (k:=ns.getD i 0) (intKind_is _ _ _ _) ?_);have c:(dedI (ns.take i)).length<4094:=by
   have:=qE5 (ns.take i) [];rw[C5] at this;unfold dedI;simp at this
   lia
  refine qXF (s:={s' with toks:=s'.toks+1}) a0 c λh' z q b=>?_;have e2:addI (dedI (ns.take i)) (ns.getD i 0)=dedI (ns.take (i+1)):=by
   have y:i<ns.length:=by lia
   rw[C8,A4 y,C9];unfold dedI;rw[List.foldl_append,V5,B32,U2,A4 y,Z1]
  rw[e2] at q;refine B63 ⟨B83 F.plain_set_update_loop _,ih (i+1) _ (by lia) r (W.frame _ s' _ _ x (Z2 _) λb m o e=>?_) q λa2 u l=>?_⟩
  ·rw[z.2 b (λh:b=S=>j (by rw[<- h];exact m))];exact e
  ·refine hR a2 (Moved.trans W.gtrans ((g.mono a).then_heap (Z2 _) λb o m e=>?_) u) l;rw[z.2 b (λh:b=S=>m (by rw[h];exact D8))];exact e
end
section
variable{prog:B66}{w:World}{A:Around}{E:Value->Shared->Prop}{s:Shared}
theorem SetG.fresh {a:Addr}{h:Heap}(e:h.get? a=some (freshSet w)):SetG w a [] h:=
 ⟨#[],0,_,[],e,⟨⟨3,A7 _,rfl⟩,rfl,rfl,rfl,rfl,.nil,λ_ z=>nomatch z⟩,.nil,.refl _,.nil,by decide,by show 0*5<7*3;decide⟩
theorem qTF {l:Addr}{a:Array Value}{ns:List Int}{Q:Value->Shared->Prop}(hh:A.handled=none)(hl:s.heap.IsList l a)(hi:B71 a.toList ns)(h4:a.size<=4000)
  (h:∀(h':Heap) (tk:Nat),SetG w s.heap.objs.size (dedI ns) h'->(∀b o,s.heap.get? b=some o->h'.get? b=some o)->Q (.ref s.heap.objs.size) {s with heap:=h',toks:=tk}):
  wpAny (model prog w) A (call (.type "set") [.ref l]) Q E s:=by
 have y:ns.length=a.size:=by have:=IntsAre.length hi;simpa using this.symm
 obtain⟨c,tl,ac⟩:=M8.mro;have a2:=M8.made;have af:=M8.sub;refine wpAny_call (C41 ?_);show wpAny _ _ (callAny (.type "set") _) _ _ _;refine B63 ⟨A80 _ (by decide +kernel),B73 A93 ?_⟩
 rw[A81 (weight_type_call_type "set" [.ref l] []) rfl];have h1:=M8.notType;have h2:=M8.canCreate;have ai:=B07 (.ref l)
 repeat (any_goals (first|assumption|wp_step))
 refine B94 (qNY (.ref l) (E:=E) (Q₁:=λu s₁=>u=.ref s.heap.objs.size/\s₁={s with heap:=s.heap.push (freshSet w)}) ⟨rfl,rfl⟩) λr s₁ x=>?_;cases r with
 |error e=>exact x
 |ok fl=>
  cases fl with
  |ret u=>
   obtain⟨rfl,rfl⟩:=x;have hS:(s.heap.push (freshSet w)).get? s.heap.objs.size=some (freshSet w):=B5 _ rfl;have hT:Shared.TypeIs {s with heap:=s.heap.push (freshSet w)} (.ref s.heap.objs.size) "set":=⟨_,hS,rfl⟩;have ag:=M8.init.lookup;have aj:=M8.init.bind (.ref s.heap.objs.size)
   repeat (any_goals (first|assumption|wp_step))
   refine B94 (C43 (R:=wants (fun r s₂=>r=.none/\∃ h' tk,s₂={ s with heap:=h',toks:=tk }/\SetG w s.heap.objs.size (dedI ns) h'/\
     (∀b o,s.heap.get? b=some o->h'.get? b=some o)) E) M8.init.plain B08 (check_set_init_1 hT ?_)) λr₂ s₂ d=>?_
   ·obtain⟨ol,q,a1,nl,p⟩:=hl;obtain⟨ae,j,a4,f⟩:=ol;simp only at a1 p;subst a1;subst p;have n:(s.heap.push (freshSet w)).get? l=some {cls:=.type "list",dict:=j,data:=.seq a nl,slots:=f}:=A5 _ q;have ad:=F.sub_list_set;have ab:=F.sub_list_frozenset;have ah:(X8 "list" == X8 "dict")=false:=by decide
    have m:(s.heap.push (freshSet w)).IsList l a:=⟨_,n,rfl,nl,rfl⟩;unfold Builtin.«set.__init__» noKeywords o6;generalize hPI:pyIter=PI
    wp_walk
    subst hPI;refine B87 m ?_;refine B62 (wpAny_runValue ?_);have k:l<s.heap.objs.size:=B7 q;have a6:A.in1.in1.in1.handled=none:=by simp[hh]
    have a0:l≠(s.heap.push (freshSet w)).objs.size:=by
     rw[N9];exact C6 (L5 k)
    have a3:s.heap.objs.size∉[(s.heap.push (freshSet w)).objs.size,l]:=by
     rw[N9];simp only[B6,A6,O0,or_false,not_or];exact⟨C6 (B09 _),V9 k⟩
    have z:∀(i:Nat) (v:Value),a[i]?=some v->∃t,v=.int (ns.getD i 0) t:=λi v hv=>
     X7 hi i v (by rw[F0];exact hv)
    refine qI8 ((A47 a6 _ l a0 a).toS) s.heap.objs.size a3 ns y h4 z (a.size-0) 0 _ (by lia) (F3 _)
     ⟨⟨_,B5 _ rfl,rfl,rfl⟩,(m.push _)⟩ ?hS0 ?hR
    case hS0=>exact SetG.fresh (A5 _ hS)
    case hR=>
     intro s' hm g;obtain⟨h',g',d',a7,a5⟩:=s';have eg:g'=s.gens:=hm.gens;have ed:d'=s.drawn:=hm.drawn;have eo:a5=s.os:=hm.os;subst eg;subst ed;subst eo;show wpAny _ _ _ _ _ _;refine B63 ?_;show wpAny _ _ (ret Q0) _ _ _;refine B63 ⟨rfl,h',a7,rfl,g,λb o e=>?_⟩;have hb:=B7 e;have a9:b≠s.heap.objs.size:=C6 hb;have a8:b≠(s.heap.push (freshSet w)).objs.size:=by
      rw[N9];exact C6 (L5 hb)
     exact hm.heap b o (by simp only[B6,A6,O0,or_false,not_or];exact⟨a9,a8⟩) (A5 _ (A5 _ e))
   ·cases r₂ with
    |error e=>exact d
    |ok fl₂=>
     cases fl₂ with
     |ret r=>
      obtain⟨rfl,h',tk,rfl,g,aa⟩:=d
      repeat (any_goals (first|assumption|wp_step))
      exact h _ _ g aa
     |next=>exact d
     |brk=>exact d
     |cont=>exact d
  |next=>exact x
  |brk=>exact x
  |cont=>exact x
end
theorem TabG.below_at {b:Bool}{t:B91}{n:Nat}(T:TabG b t n)(i:Nat)(hi:i<=n):E9 t.place (if i=0 then 0 else t.place.getD (i-1) 0+1)=i:=by
 obtain⟨h,e,g⟩:=qI3 (j:=if i=0 then 0 else t.place.getD (i-1) 0+1) T.up
 have m:=T.size;have k:∀a c d,a<t.place.size->t.place.getD a c=t.place.getD a d:=λa c d l=>by
  rw[F1,F1,C4 l]
  rfl
 by_cases f:i=0
 ·rw[if_pos f] at h e g ⊢;subst f;apply Nat.eq_zero_of_not_pos;intro z;have:=e 0 z
  lia
 ·rw[if_neg f] at h e g ⊢;have o:¬E9 t.place (t.place.getD (i-1) 0+1)<i:=λz=>by
   have:=g (i-1) (by lia) (by lia)
   rw[k (i-1) (t.place.getD (i-1) 0+1) 0 (by lia)] at this
   lia
  have p:¬i<E9 t.place (t.place.getD (i-1) 0+1):=λz=>by
   have q:=e i z;have:=qZV 0 T.up (i-1) i (by lia) (by lia)
   rw[k i (t.place.getD (i-1) 0+1) 0 (by lia)] at q
   lia
  lia
section
variable{prog:B66}{w:World}{A:Around}{E:Value->Shared->Prop}{s:Shared}{a I:Addr}{es:Array (Int×Value)}{ep:Nat}{t:B91}{i:Nat}
theorem qNZ {Q:Option (Value×Nat)->Shared->Prop} (T:TabG (byT w) t es.size) (k:es.size<=t.mask) (d:s.heap.get? a=some {cls:=.type "set",data:=.set es ep t}) (hi:i<=es.size)
  (h:Q (match(qF5 w a ep es)[i]? with|some e=>some (e.2,qF6 w t (i+1))|none=>none) s):wpAny (model prog w) A (setNext a (qF6 w t i) i ep) Q E s:=by
 have f:=T.fits k;unfold setNext;refine B62 (B89 d rfl f ?_);dsimp only;unfold setsByText;refine B62 (B62 (C14 (B63 ?_)));show wpAny _ _ (if byT w=true then _ else _) _ _ _
 cases hb:byT w with
 |true=>
  rw[if_pos rfl];simp only[bne_self_eq_false,G6,if_false];refine B62 ?_;unfold setWalk;refine B62 (B89 d rfl f ?_);dsimp only;unfold setsByText;refine B62 (B62 (C14 (B63 ?_)));show wpAny _ _ (if byT w=true then _ else _) _ _ _
  rw[hb,if_pos rfl];refine B62 (C14 (B63 (B63 ?_)));have e:qF5 w a ep es=(pickOrder (w.params.setOrder a ep) es).toList:=by unfold qF5;rw[if_pos hb]
  have c:∀j,qF6 w t j=0:=λj=>by unfold qF6;rw[if_pos hb]
  rw[e,F0,c] at h;rw[c];show Q (Option.map _ (pickOrder (w.params.setOrder a ep) es)[i]?) s;cases hx:(pickOrder (w.params.setOrder a ep) es)[i]? with
  |none=>rw[hx] at h;exact h
  |some v=>rw[hx] at h;exact h
 |false=>
  rw[if_neg (by simp)]
  show wpAny _ _ (if(!t.plain&&decide (es.size>1))=true then _ else _) _ _ _
  rw[T.plain];simp only[A82,y7,G6,if_false];refine B62 ?_;show wpAny _ _ (if(!t.led && !es.isEmpty)=true then _ else _) _ _ _
  rw[T.led,hb];simp only[B31,A82,y7,G6,if_false];refine B63 (B63 ?_);have e:qF5 w a ep es=es.toList:=by unfold qF5;rw[if_neg (by rw[hb];simp)]
  have c:∀j,qF6 w t j=if j=0 then 0 else t.place.getD (j-1) 0+1:=λj=>by unfold qF6;rw[if_neg (by rw[hb];simp)]
  rw[e,F0] at h;rw[c,T.below_at i hi];cases hx:es[i]? with
  |none=>rw[hx] at h;exact h
  |some v=>
   rw[hx] at h;have b:i<t.place.size:=by rw[T.size];exact(Array.getElem?_eq_some_iff.mp hx).1
   rw[C4 b];dsimp only at h ⊢;have g:qF6 w t (i+1)=t.place[i]+1:=by
    rw[c,if_neg (by lia),u9,F1,C4 b]
    rfl
   rw[g] at h;exact h
theorem qa7 {Q:Option Value->Shared->Prop}(T:TabG (byT w) t es.size)(m:es.size<=t.mask)(c:SetIt w a I es ep t i s.heap)(d:a≠I){e:Int×Value}(k:(qF5 w a ep es)[i]?=some e)
  (q:∀h',SetIt w a I es ep t (i+1) h'->(∀b o,b≠I->s.heap.get? b=some o->h'.get? b=some o)->Q (some e.2) {s with heap:=h'}):wpAny (model prog w) A (pyNext (.ref I)) Q E s:=by
 obtain⟨⟨o,g,u,f⟩,h⟩:=id c;have v:i<es.size:=by
  have:=(A3.mp k).1;rw[(qF4 w a ep es).length_eq,C2] at this;exact this
 unfold pyNext;refine B62 (C31 (wpAny_callSpecial?_slot (name:=D4 "__next__") c.typeIs slot_si_next (B79 slot_si_next c.typeIs qHE ?_ (qIH _))));unfold Builtin.«set_iterator.__next__»;refine B62 (B63 ?_);refine B62 (wpAny_fieldsOf g f ?_);dsimp only;unfold setEntries;refine B62 (B62 (B89 h rfl (T.fits m) (B63 ?_)));rw[if_neg (by simp)]
 simp only[E4];refine B62 (qNZ T m h (U5 v) ?_);rw[k];dsimp only;show wpAny _ _ (setField (.ref I) 0 (rawInt _) >>= _) _ _ s;refine B62 (C03 g f (by simp) ?_)
 have l:=G8 (o8 (·.setIfInBounds 0 (rawInt ((qF6 w t (i+1):Nat):Int)))) g (l8 (U6 f _));have j:=U6 f (·.setIfInBounds 0 (rawInt ((qF6 w t (i+1):Nat):Int)));refine B62 (C03 l j (by simp) ?_)
 have r:=G8 (o8 (·.setIfInBounds 1 (rawInt ((i:Int)+1)))) l (l8 (U6 j _));have p:=U6 j (·.setIfInBounds 1 (rawInt ((i:Int)+1)));refine B63 ⟨_,rfl,B63 (q _ ⟨⟨_,r,(A07 ..).trans ((A07 ..).trans u),?_⟩,?_⟩ λb x n e=>?_)⟩
 ·rw[p];simp[rawInt]
 ·exact(E2 _ _ (J8 d)).trans ((E2 _ _ (J8 d)).trans h)
 ·exact(E2 _ _ (J8 n)).trans ((E2 _ _ (J8 n)).trans e)
theorem qc9 {Q:Option Value->Shared->Prop}(j:A.handled=none)(T:TabG (byT w) t es.size)(g:es.size<=t.mask)(c:SetIt w a I es ep t es.size s.heap)
  (h:∀h',(∀b o,b≠I->s.heap.get? b=some o->h'.get? b=some o)->Q none {s with heap:=h'}):wpAny (model prog w) A (pyNext (.ref I)) Q E s:=by
 obtain⟨⟨o,e,k,d⟩,f⟩:=id c;unfold pyNext;refine B62 (C31 (wpAny_callSpecial?_slot (name:=D4 "__next__") c.typeIs slot_si_next (B79 slot_si_next c.typeIs qHE ?_ (qIH _))));unfold Builtin.«set_iterator.__next__»;refine B62 (B63 ?_);refine B62 (wpAny_fieldsOf e d ?_);dsimp only;unfold setEntries;refine B62 (B62 (B89 f rfl (T.fits g) (B63 ?_)));rw[if_neg (by simp)]
 simp only[E4];have i:(qF5 w a ep es)[es.size]?=none:=J9 (by rw[(qF4 w a ep es).length_eq,C2];exact A7 _)
 refine B62 (qNZ T g f (A7 _) ?_);rw[i];dsimp only;show wpAny _ _ (setField (.ref I) 2 .none >>= _) _ _ s;refine B62 (C03 e d (by simp) ?_)
 show wpAny _ _ (newExc (.type "StopIteration") [] >>= _) _ _ _;refine B62 ?_;simp only[newExc,newTuple];refine B62 (B74 ?_ (by size_fits))
 refine B62 (m:=C11 _ _) (C08 (a:=Q0) (by first|rfl|(simp only[C11];rfl)) ?_)
 refine B74 ?_ (by size_fits)
 simp only[raiseNew];refine B62 (wpAny_handled ?_);rw[show A.in1.handled=none from j];refine B62 (B63 (wpAny_throw ?_));refine B62 (wpAny_isInstance (T:="StopIteration") (b:=true) ⟨_,B5 _ rfl,rfl⟩ isSubtype_stop ?_);exact B63 (h _ (((Q2 ..).extBut.push _).push _))
theorem qc8 {Q:Value->Shared->Prop} (T:TabG (byT w) t es.size) (e:es.size<=t.mask) (hs:s.heap.get? a=some {cls:=.type "set",data:=.set es ep t})
  (d:Q (.ref s.heap.objs.size) {s with heap:=s.heap.push {cls:=.type "set_iterator",data:=.fields #[.int 0 0,.int 0 0,.ref a,.int es.size 0,.int ep 0]}}):wpAny (model prog w) A (pyIter (.ref a)) Q E s:=by
 have c:s.TypeIs (.ref a) "set":=⟨_,hs,rfl⟩;have b:=T.fits e;refine wpAny_pyIter_slot c F.slot_set_iter (B79 F.slot_set_iter c qKY ?_ (F.args_set_iter_1 _));unfold Builtin.«frozenset.__iter__» B47 B38 setEntries;refine B62 (B62 (B63 ?_));show wpAny _ _ (pure a) _ _ s;refine B63 ?_;refine B62 (B62 (B62 (B89 hs rfl b (B63 (B63 ?_)))));unfold setDrawn setsByText;refine B62 (B62 (B89 hs rfl b ?_));dsimp only;refine B62 (B62 (C14 (B63 (B63 ?_))));show wpAny _ _ (if(!byT w&&(!t.plain&&decide (es.size>1)))=true then _ else _) _ _ _
 rw[T.plain];simp only[A82,y7,k8,G6,if_false];refine B62 (B63 ?_);unfold setEpoch;refine B62 (B62 (B89 hs rfl b (B63 ?_)));refine B62 (B74 (B63 ⟨_,rfl,"set_iterator",_,⟨_,B5 _ rfl,rfl⟩,slot_si_next.lookup,?_⟩));simpa[rawInt] using d
theorem qc7 (T:TabG (byT w) t es.size) (j:es.size<=t.mask):PySem.W.KdlSrc prog w "set" a a es.size (λi v=>∃e,(qF5 w a ep es)[i]?=some e/\v=e.2) (λh=>h.get? a=some {cls:=.type "set",data:=.set es ep t}) where
 type:=λs h=>⟨_,h,rfl⟩
 there:=λh x=>⟨B7 x,B7 x⟩
 keep:=λh d x k=>k a (.inl rfl) _ x
 notList:=by decide
 notTuple:=by decide
 hint:=λA E s Q x q=>qa5 ⟨_,x,rfl⟩ q
 iter:=λA s hh x=>by
  have m:a≠s.heap.objs.size:=C6 (B7 x);refine⟨_,λi h=>SetIt w a s.heap.objs.size es ep t i h,λE Q q=>qc8 T j x q,?_,⟨⟨_,B5 _ rfl,rfl,?_⟩,A5 _ x⟩⟩
  ·refine⟨λb f=>?_,λi h d c k=>?_,λi g Q E y c q=>?_,λg Q E c q=>?_,λi g Q E c q=>qa4 c q⟩
   ·have e:b=s.heap.objs.size:=by simpa using f
    simp[e]
   ·obtain⟨⟨o,u,h2,r⟩,p⟩:=c;exact⟨⟨o,k _ (by simp) _ u,h2,r⟩,k _ (by simp) _ p⟩
   ·have n:i<(qF5 w a ep es).length:=by rw[(qF4 w a ep es).length_eq,C2];exact y
    refine qa7 T j c m (A4 n) λd l k=>?_;exact q _ d g.toks ⟨_,A4 n,rfl⟩ l λb o f e=>k b o (λz=>f (by simp[z])) e
   ·refine qc9 hh T j c λd k=>?_;exact q d g.toks λb o f e=>k b o (λz=>f (by simp[z])) e
  ·unfold qF6
   split<;>rfl
end
section
variable{X:Cx}
def SetM (w:World)(a:Addr)(zs:List Int):HO:=.ext (SetG w a zs)
theorem qKJ (g:X.calm=true):qCG X (.type "set") (λxs H Q=>∃p ns,xs=[.ref p]/\SqL X.K H p (ns.map V.int)/\ns.length<=4000/\∀a,H a=none->Q (.ref a) (Ag H a (SetM X.w a (dedI ns)))):=by
 intro Ab s σ H xs z Q I r h;obtain⟨p,ns,rfl,l,h4,q⟩:=h;obtain⟨u,rfl,m⟩:=qE1 r;cases m;obtain⟨f,c,i,hz⟩:=I.list l;have b:=c.length;rw[A0] at b;refine qTF (ns:=ns) (I.ok.hd g) i.isList (by simpa using qCB c) (by simp;lia) λh' j d n=>?_
 refine⟨.ref s.heap.objs.size,_,I.laid (t':=j) n (A7 _) ?_,rfl,q _ (I.hok.fresh (A7 _))⟩;obtain⟨es,v,t,ks,e,_⟩:=id d;exact⟨d,⟨_,e⟩,λo y x k=>x.at k⟩
theorem qW9 {ks:List Int}{l:List (Int×Value)}(h:Ents ks l):∀vs:List Value,vs.length=l.length->(∀(i:Nat) (v:Value),vs[i]?=some v->∃e:Int×Value,l[i]?=some e/\v=e.2)->B71 vs ks:=by
 induction h with
 |nil=>
  intro vs a _;have:vs=[]:=O3.mp a;subst this;exact .nil
 |cons r t ih=>
  intro vs a c;cases vs with
  |nil=>simp at a
  |cons v vs=>
   obtain⟨f,rfl⟩:=r;obtain⟨e,b,rfl⟩:=c 0 v rfl;simp at b;subst b;exact IntsAre.cons _ _ (ih vs (by simpa using a) λi v d=>by simpa using c (i+1) v (by simpa using d))
theorem qD5 (hc:X.calm=true):qCG X (.builtin "sorted") (fun xs H Q=>∃ p ns,xs=[.ref p]/\H p=some (SetM X.w p ns)/\
  ∀(a:Addr) (zs:List Int),H a=none->zs.Perm ns->zs.Pairwise (·<=·)->Q (.ref a) (Ag H a (.lst (zs.map V.int)))):=by
 intro Ab s σ H xs us Q I r h;obtain ⟨p,ns,rfl,hq,q⟩:=h;obtain ⟨u,rfl,rx⟩:=qE1 r;cases rx;refine Y6 kind_sorted plain_sorted entry_sorted (args_sorted1 _) ?_;unfold Builtin.«sorted»;refine B62 (m:=checkCount "sorted" 1 1 _) (B63 ?_);have c:∀ (s1:Shared) (vs:List Value) (zs:List Int),Inv X Ab σ H s1->B71 vs zs->zs.length<=B64->zs.Perm ns->wpAny (model X.prog X.w) X.A.in1 (do
   let l <- newList vs
   let _ <- C02 [l] (call (.builtin "list.sort") [l] [])
   ret l) (λc y=>∃r,c=.done (.ret r)/\EP X Ab σ Q r y) X.xe s1:=by
  intro s1 vs zs I1 hv hz g;have d:=IntsAre.length hv;refine B62 (C32 ?_ (by rw[d];exact hz))
  have hf:=I1.hok.fresh (A7 s1.heap.objs.size);refine B62 (B72 (B76 (qNV (E:=X.xe) (qLA I1 hv hz) λzs a b=>q _ zs hf (a.trans g) b) (λ_ y x=>?_) λ_ _ e=>e));exact B63 ⟨_,rfl,x⟩
 obtain⟨hS,_,_⟩:=(show ObjOk X.prog X.w H s.heap p (.ext (SetG X.w p ns)) from I.hok p _ hq);obtain⟨n,ep,t,ks,e,T,he,g,a1,h4,a0⟩:=hS;have o:n.size=ns.length:=SetI.size (a:=p) (h:=s.heap) he g;obtain⟨j,h1,z⟩:=he.perm (qF4 X.w p ep n);have h7:=T.mask7;refine B62 (q9 (A:=X.A.in1) (qc7 (ep:=ep) T (by lia)) (I.ok.hd hc) e (by rw[o,B77];lia) λh' tk k hk f=>?_)
 refine c _ _ j (I.kept (t':=tk) hk) ?_ (by rw[z.length_eq,g.length_eq,B77];lia) (z.trans g)
 obtain⟨l1,l2⟩:=f;refine qW9 h1 k.toList ?_ λi v hi=>l2 i v (by rw[<- F0];exact hi)
 rw[C2,l1,(qF4 X.w p ep n).length_eq,C2]
theorem qTG {K:PySem.W.Frag} {w:World} (b:X.K=K) (c:X.w=w) (d:X.calm=true):qCG X (.type "set") (λxs H Q=>∃p ns,xs=[.ref p]/\SqL K H p (ns.map V.int)/\ns.length<=4000/\∀a,H a=none->Q (.ref a) (Ag H a (SetM w a (dedI ns)))):=by
 subst b c;exact qKJ d
theorem qNC {w:World} (b:X.w=w) (c:X.calm=true):qCG X (.builtin "sorted") (fun xs H Q=>∃ p ns,xs=[.ref p]/\H p=some (SetM w p ns)/\
  ∀(a:Addr) (zs:List Int),H a=none->zs.Perm ns->zs.Pairwise (·<=·)->Q (.ref a) (Ag H a (.lst (zs.map V.int)))):=by
 subst b;exact qD5 c
end
section
variable{prog:B66}{w:World}{A:Around}{E:Value->Shared->Prop}{s:Shared}
theorem qQP {l:Addr}{a:Array Value}{ns:List Int}{Q:Value->Shared->Prop}(hh:A.handled=none)(hl:s.heap.IsTuple l a)(hi:B71 a.toList ns)(h4:a.size<=4000)
  (h:∀(h':Heap) (tk:Nat),SetG w s.heap.objs.size (dedI ns) h'->(∀b o,s.heap.get? b=some o->h'.get? b=some o)->Q (.ref s.heap.objs.size) {s with heap:=h',toks:=tk}):
  wpAny (model prog w) A (call (.type "set") [.ref l]) Q E s:=by
 have y:ns.length=a.size:=by have:=IntsAre.length hi;simpa using this.symm
 obtain⟨c,tl,ac⟩:=M8.mro;have a2:=M8.made;have af:=M8.sub;refine wpAny_call (C41 ?_);show wpAny _ _ (callAny (.type "set") _) _ _ _;refine B63 ⟨A80 _ (by decide +kernel),B73 A93 ?_⟩
 rw[A81 (weight_type_call_type "set" [.ref l] []) rfl];have h1:=M8.notType;have h2:=M8.canCreate;have ai:=B07 (.ref l)
 repeat (any_goals (first|assumption|wp_step))
 refine B94 (qNY (.ref l) (E:=E) (Q₁:=λu s₁=>u=.ref s.heap.objs.size/\s₁={s with heap:=s.heap.push (freshSet w)}) ⟨rfl,rfl⟩) λr s₁ x=>?_;cases r with
 |error e=>exact x
 |ok fl=>
  cases fl with
  |ret u=>
   obtain⟨rfl,rfl⟩:=x;have hS:(s.heap.push (freshSet w)).get? s.heap.objs.size=some (freshSet w):=B5 _ rfl;have hT:Shared.TypeIs {s with heap:=s.heap.push (freshSet w)} (.ref s.heap.objs.size) "set":=⟨_,hS,rfl⟩;have ag:=M8.init.lookup;have aj:=M8.init.bind (.ref s.heap.objs.size)
   repeat (any_goals (first|assumption|wp_step))
   refine B94 (C43 (R:=wants (fun r s₂=>r=.none/\∃ h' tk,s₂={ s with heap:=h',toks:=tk }/\SetG w s.heap.objs.size (dedI ns) h'/\
     (∀b o,s.heap.get? b=some o->h'.get? b=some o)) E) M8.init.plain B08 (check_set_init_1 hT ?_)) λr₂ s₂ d=>?_
   ·obtain⟨ol,q,a1,nl,p⟩:=hl;obtain⟨ae,j,a4,f⟩:=ol;simp only at a1 p;subst a1;subst p;have n:(s.heap.push (freshSet w)).get? l=some {cls:=.type "tuple",dict:=j,data:=.seq a nl,slots:=f}:=A5 _ q;have ad:=F.sub_tuple_set;have ab:=F.sub_tuple_frozenset;have ah:(X8 "tuple" == X8 "dict")=false:=by decide
    have m:(s.heap.push (freshSet w)).IsTuple l a:=⟨_,n,rfl,nl,rfl⟩;unfold Builtin.«set.__init__» noKeywords o6;generalize hPI:pyIter=PI
    wp_walk
    subst hPI;refine C19 m ?_;refine B62 (wpAny_runValue ?_);have k:l<s.heap.objs.size:=B7 q;have a6:A.in1.in1.in1.handled=none:=by simp[hh]
    have a0:l≠(s.heap.push (freshSet w)).objs.size:=by
     rw[N9];exact C6 (L5 k)
    have a3:s.heap.objs.size∉[(s.heap.push (freshSet w)).objs.size,l]:=by
     rw[N9];simp only[B6,A6,O0,or_false,not_or];exact⟨C6 (B09 _),V9 k⟩
    have z:∀(i:Nat) (v:Value),a[i]?=some v->∃t,v=.int (ns.getD i 0) t:=λi v hv=>
     X7 hi i v (by rw[F0];exact hv)
    refine qI8 ((Walks.tuple a6 _ l a0 a).toS) s.heap.objs.size a3 ns y h4 z (a.size-0) 0 _ (by lia) (F3 _)
     ⟨⟨_,B5 _ rfl,rfl,rfl⟩,(m.push _)⟩ ?hS0 ?hR
    case hS0=>exact SetG.fresh (A5 _ hS)
    case hR=>
     intro s' hm g;obtain⟨h',g',d',a7,a5⟩:=s';have eg:g'=s.gens:=hm.gens;have ed:d'=s.drawn:=hm.drawn;have eo:a5=s.os:=hm.os;subst eg;subst ed;subst eo;show wpAny _ _ _ _ _ _;refine B63 ?_;show wpAny _ _ (ret Q0) _ _ _;refine B63 ⟨rfl,h',a7,rfl,g,λb o e=>?_⟩;have hb:=B7 e;have a9:b≠s.heap.objs.size:=C6 hb;have a8:b≠(s.heap.push (freshSet w)).objs.size:=by
      rw[N9];exact C6 (L5 hb)
     exact hm.heap b o (by simp only[B6,A6,O0,or_false,not_or];exact⟨a9,a8⟩) (A5 _ (A5 _ e))
   ·cases r₂ with
    |error e=>exact d
    |ok fl₂=>
     cases fl₂ with
     |ret r=>
      obtain⟨rfl,h',tk,rfl,g,aa⟩:=d
      repeat (any_goals (first|assumption|wp_step))
      exact h _ _ g aa
     |next=>exact d
     |brk=>exact d
     |cont=>exact d
  |next=>exact x
  |brk=>exact x
  |cont=>exact x
end
section
variable{X:Cx}
theorem qLT (g:X.calm=true):qCG X (.type "set") (λxs H Q=>∃p ns,xs=[.ref p]/\SqT X.K H p (ns.map V.int)/\ns.length<=4000/\∀a,H a=none->Q (.ref a) (Ag H a (SetM X.w a (dedI ns)))):=by
 intro Ab s σ H xs z Q I r h;obtain⟨p,ns,rfl,l,h4,q⟩:=h;obtain⟨u,rfl,m⟩:=qE1 r;cases m;obtain⟨f,c,i,hz⟩:=I.tuple l;have b:=c.length;rw[A0] at b;refine qQP (ns:=ns) (I.ok.hd g) i (by simpa using qCB c) (by simp;lia) λh' j d n=>?_
 refine⟨.ref s.heap.objs.size,_,I.laid (t':=j) n (A7 _) ?_,rfl,q _ (I.hok.fresh (A7 _))⟩;obtain⟨es,v,t,ks,e,_⟩:=id d;exact⟨d,⟨_,e⟩,λo y x k=>x.at k⟩
end
structure Ex (B:Heap)(l:List Env)(e:Addr)(cls:Value)(dd:Option Addr)(nt:Bool)(h:Heap):Prop where
 stays:B.StaysIn h
 new:B.get? e=none
 frames:h.FunFrames B l
 rec_:∃(oe:Obj) (vs:Array Value) (x1:Value),h.get? e=some oe/\oe.cls=cls/\oe.dict=dd/\oe.data=.fields vs/\vs[1]?=some x1/\
  ((x1=.none/\nt=false)\/∃(T:Addr) (oT:Obj) (ts:Array Value) (x3:Value),x1=.ref T/\B.get? T=none/\T≠e/\h.get? T=some oT/\oT.data=.fields ts/\ts[3]?=some x3)
section
variable{M:Model}{A:Around}{E:Value->Shared->Prop}{s:Shared}{B:Heap}{env:Env}{outer l:List Env}{L e:Addr}{cls:Value}{dd:Option Addr}{nt:Bool}{Q:Unit->Shared->Prop}
end
def Kp (outer:List Env)(H':Hp)(h0:Heap)(b:Addr):Prop:=(∃o,H' b=some o)\/((∃o,h0.get? b=some o)/\b∉frs outer)
structure XD (P:B66)(w:World)(outer l:List Env)(H:Hp)(h0:Heap)(e:Addr)(cls:Value)(dd:Option Addr)(H':Hp)(B:Heap)(nt:Bool)(h:Heap):Prop where
 un:Un (frs outer) [] H H' h0 h
 hok:HOk P w H' h
 ex:Ex B l e cls dd nt h
 kp:∀b o,h.get? b=some o->Kp outer H' h0 b->B.get? b=some o
 ne:H' e=none
 ge:h0.objs.size<=e
def XP (X:Cx)(G:XK)(ev:Value)(s':Shared):Prop:=X.A.frames=some X.stack/\∃(e:Addr) (cls:Value) (dd:Option Addr) (H':Hp) (B:Heap) (nt:Bool),ev=.ref e/\s'.os=X.s₀.os/\AllBare s'.gens/\XD X.prog X.w X.outer X.stack X.H₀ X.s₀.heap e cls dd H' B nt s'.heap/\G cls dd H'
section
variable{X:Cx}{E:XK}{G:XK}{Ab:List (Addr×Obj)}{σ:St}{H:Hp}{s s':Shared}
end
section
variable{P:B66}{w:World}{K:PySem.W.Frag}{mg:Str->Option Value}{base:Heap}
end
section
variable{X:Cx}{Ab:List (Addr×Obj)}{σ:St}{H:Hp}{s:Shared}{ev:Value}
end
section
variable{X:Cx}
end
noncomputable def bmV:List Value:=[.type "ValueError",.type "Exception",.type "BaseException",.type "object"]
noncomputable def xcIn (K:PySem.W.Frag)(C:Addr)(init:Option Value):Bool:=match K.lookup C with
 | some ⟨.type "type",_,.cls cd,sl⟩=>(match cd.mro,sl.toList with
  |.ref C'::bm,[_,_,_,_,some (.builtin n),_]=>C'==C&&n == "ValueError.__new__" && !cd.hasDel&&cd.hasDict&&PySem.W.tailIn K bmV bm&&PySem.W.nsOkIn K cd.ns&&w5 K cd.ns "__init__" == some init
  |_,_=>false)
 |_=>false
structure XCls (K:PySem.W.Frag)(C:Addr)(init:Option Value):Prop where
 cls:xcIn K C init=true
 set:Q4 K (.ref C) "__setattr__" = some (some (.builtin "object.__setattr__"))
 kp:T0 K (.ref C)=true
section
variable{prog:B66}{w:World}{A:Around}{E:Value->Shared->Prop}{h:Heap}{g:Array C18}{d:Drawn}{t:Nat}{os:OsState}{K:PySem.W.Frag}{C x:Addr}{init:Option Value}{mA:Str->Option Value}{name:Str}{v:Value}{ns:List Str}
end
section
variable{prog:B66}{w:World}{A:Around}{R:Result->Shared->Prop}{h:Heap}{g:Array C18}{d:Drawn}{t:Nat}{os:OsState}{K:PySem.W.Frag}{C fI:Addr}{rest:List Value}
end
section
variable{M:Model}{A:Around}{E:Value->Shared->Prop}{env:Env}{K:PySem.W.Frag}{C:Addr}{init:Option Value}
end
section
variable{X:Cx}{Ab:List (Addr×Obj)}{σ:St}{H:Hp}{s:Shared}
end
section
variable{X:Cx}
end
structure XGet (K:PySem.W.Frag)(C:Addr):Prop where
 ga:Q4 K (.ref C) "__getattribute__" = some (some (.builtin "BaseException.__getattribute__"))
 gt:Q4 K (.ref C) "__getattr__" = some none
 be:A74 K C (.type "BaseException")=some true
 hd:A88 K C=true
section
variable{prog:B66}{w:World}{A:Around}{E:Value->Shared->Prop}{s:Shared}{K:PySem.W.Frag}{x C:Addr}{ox:Obj}{od:Option Obj}{name:Str}{tk:Tok}
end
structure XTy (K:PySem.W.Frag)(C:Addr):Prop extends XGet K C where
 ca:Q4 K (.ref C) "__class__" = some (some (.builtin "object.__class__"))
 cn:A03 K (.builtin "object.__class__") "__get__" = some (some (.builtin "getset_descriptor.__get__"))
 ct:B16 K (.builtin "object.__class__")=some true
 cm:A74 K C (.type "object")=some true
section
variable{K:PySem.W.Frag}
end
section
variable{X:Cx}
end
structure RoomH (k:Nat)(A:Around):Prop where
 dp:A.depth+3*k+5<recursionLimit
 un:A.units+16*k+200<cLine
structure FnOkH (P:B66)(w:World)(K:PySem.W.Frag)(mg:Str->Option Value)(base:Heap)(CX:CXT)(k:Nat)(f:Addr)(fd:B85)(ps:List Str)(sp:Sp):Prop where
 len:∀vs H Q E,sp vs H Q E->vs.length=ps.length
 run:∀(A:Around) (outer:List Env) (s:Shared) (H:Hp) (args:Args) (us:List Value) (vs:List V) (Q:VK) (E:XK),RoomH k A->Env0 P w K mg base A outer s H->BindsTo s fd args (ps.zip us)->Vals vs us->sp vs H Q E->
  B97 (model P w) A (.call (.ref f) args) (CR CX outer P w H s Q E) s
section
variable{P:B66}{w:World}{K:PySem.W.Frag}{mg:Str->Option Value}{base:Heap}
end
section
variable{X:Cx}{CX:CXT}{k:Nat}{f C:Addr}{fd:B85}{ps:List Str}{sp:Sp}{dvs:List V}{ds:List Value}{E:XK}{x m:Str}{p pos apos:Pos}{e o:Expr}{es:List Expr}{ta:TE}{t:TA}
end
section
variable{X:Cx}
end
section
variable{prog:B66}{w:World}{A:Around}{E:Value->Shared->Prop}{s:Shared}
end
section
variable{X:Cx}
theorem qNB (i:X.calm=true):qCG X (.builtin "sum") (λxs H Q=>∃(p:Addr) (ns:List Int),xs=[.ref p]/\SqL X.K H p (ns.map V.int)/\Q (.int ns.sum) H):=by
 intro Ab s σ H xs v Q I r h;obtain⟨p,ns,rfl,m,q⟩:=h;obtain⟨u,rfl,n⟩:=qE1 r;cases n;obtain⟨c,k,l,y⟩:=I.list m;have f:=qCB k;obtain⟨xs,d⟩:=f.allInts.items;have a:s.heap.IsList p (intItems xs):=d▸l.isList;refine sum_intListG (I.ok.hd i) a λw z x j=>?_;have g:ns=xs.toList.map (·.1):=by
  rw[<- nums_intItems,<- d];exact(show numsOf c.toArray.toList=ns from f.numsOf).symm
 have t:preSum (numAt xs) xs.size=ns.sum:=by
  rw[preSum_eq,D0 (by simp),g]
 rw[t];exact⟨.int ns.sum,H,I.kept λb o e=>j b o e,⟨_,rfl⟩,q⟩
end
structure LcScopeO (X:Cx)(scope:Scope)(own:List Str)(fv:List Nat):Prop where
 kind:scope.kind=.function
 names:∀y∈scope.names,y.2=.local->scope.names.lookup y.1=some .local
 cells:∀y∈scope.names,y.2=.cell->scope.names.lookup y.1=some .cell
 frees:∀y∈scope.names,y.2=.free->scope.names.lookup y.1=some .free
 free:∀y∈scope.names,y.2=.free->X.env.kindOf y.1=some .cell\/X.env.kindOf y.1=some .free
 nd:(own++fv.map λi=>X.N.getD i R6).Nodup
 fvs:∀i∈fv,i<X.N.length/\scope.names.lookup (X.N.getD i R6)=some .free
 owns:∀x∈own,scope.names.lookup x=some .local\/scope.names.lookup x=some .cell
section
variable{X:Cx}{Ab:List (Addr×Obj)}{σ:St}{H:Hp}{s:Shared}
end
section
variable{X:Cx}{tg iter elt:Expr}{ifs:List Expr}{scope:Scope}{pos:Pos}{own:List Str}{fv:List Nat}{wi:TI}{g:TG}{tc:TT}{te:TE}
end
noncomputable abbrev tpK (prog:B66)(w:World):=C17 (qBM prog w)
theorem qPF {prog:B66}{w:World}{h h':Heap}{k:List Key}{b:Addr}(x:(tpK prog w).is h k b)(e:∀o,h.get? b=some o->h'.get? b=some o):(tpK prog w).is h' k b:=by
 obtain⟨o,a,n,d,c⟩:=x;exact⟨o,a,n,e _ d,c⟩
theorem qbD {prog:B66}{w:World}{h h':Heap}{d:Addr}{xs:List (List Key×Addr×Value)}(x:h.DictOfH (tpK prog w) d xs)(e:∀o,h.get? d=some o->h'.get? d=some o)(k:∀x∈xs,∀o,h.get? x.2.1=some o->h'.get? x.2.1=some o):h'.DictOfH (tpK prog w) d xs:=by
 obtain⟨o,g,l,i,m,c,b,j,f⟩:=x;exact⟨o,g,l,e _ i,m,c,b,λx a=>qPF (j x a) (k x a),f⟩
theorem qNO {xs:List (List Key×Addr×Value)}{k:List Key}{b:Addr}{v:Value}{F:Addr->Prop}(c:∀x∈xs,F x.2.1)(e:F b):∀x∈C23 xs k b v,F x.2.1:=by
 intro x a;unfold C23 at a
 split at a
 ·obtain⟨y,d,rfl⟩:=D2.mp a;unfold putAt
  split
  ·exact c y d
  ·exact c y d
 ·rcases A8.mp a with h|h
  ·exact c x h
  ·simp only[A6] at h;subst h;exact e
section
variable{prog:B66}{w:World}{A:Around}{R:Result->Shared->Prop}{I:Addr}{fp wr:List Addr}{n:Nat}{P:Nat->Value->Prop}{St:Nat->Heap->Prop}
theorem qWC (hu:A.units+1<cLine)(W:Walks prog w A.in1 I fp wr n P St)(h0:Heap)(d:Addr)(a0:d∉fp)(ps:List (List Key×Addr×Value))(hn:ps.length=n)(hz:n<=B64)
  (a5:∀i v,P i v->∃r k b x,v=.ref r/\r∉wr/\r≠d/\b∉wr/\b≠d/\h0.IsTuple r #[.ref b,x]/\(tpK prog w).is h0 k b/\ps[i]?=some (k,b,x)):
  ∀(m i:Nat) (j:Int) (tj:Tok) (s:Shared) (Af:List (List Key×Addr×Value)),n-i=m->i<=n->St i s.heap->s.heap.DictOfH (tpK prog w) d Af->Af.length<=i->(∀x∈Af,x.2.1∉wr)->(∀b o,b∉wr->b≠d->h0.get? b=some o->s.heap.get? b=some o)->
  (∀h' tk,h'.DictOfH (tpK prog w) d ((ps.drop i).foldl (λm q=>C23 m q.1 q.2.1 q.2.2) Af)->(∀b o,b∉wr->b≠d->h0.get? b=some o->h'.get? b=some o)->R (.ok (.ret .none)) {s with heap:=h',toks:=tk})->
  B97 (model prog w) A (.builtin "dict.update.loop" ⟨[.ref d,.ref I,.int j tj,.none],[]⟩) R s:=by
 have u:d∉wr:=λh=>a0 (W.sub _ h);intro m
 induction m with
 |zero=>
  intro i j tj s Af hm hi st hd hl g hk y;have e:i=n:=by lia
  refine B73 qOW ?_;rw[F4 qGW _];show wpAny _ A.in1 (pyNext (.ref I) >>= _) _ _ s;refine B62 (W.done s _ _ (e▸st) λh' tk a=>?_);show wpAny _ A.in1 (Builtin.Dict.addKeywords d [] >>= λ_=>ret Q0) _ _ _;rw[d9 (by lia)] at y
  exact B62 (B63 (B63 (y h' tk (qbD hd (λo l=>a d o u l) λx hx o l=>a _ o (g x hx) l) λb o p f eb=>a b o p (hk b o p f eb))))
 |succ m ih=>
  intro i j tj s Af hm hi st hd hl g hk y;have a2:i<n:=by lia
  refine B73 qOW ?_;rw[F4 qGW _];show wpAny _ A.in1 (pyNext (.ref I) >>= _) _ _ s;refine B62 (W.item i s _ _ a2 st λv h' tk hP a7 a=>?_);obtain⟨r,k,b,x,rfl,a3,ae,t,f,ht,a8,ep⟩:=a5 i v hP;have ed:ps.drop i=(k,b,x)::ps.drop (i+1):=by
   obtain⟨a6,e⟩:=A3.mp ep;rw[G3 a6,e]
  rw[ed] at y;have a9:h'.IsTuple r #[.ref b,x]:=by
   obtain⟨o,e1,e2,e3⟩:=ht;exact⟨o,a r o a3 (hk r o a3 ae e1),e2,e3⟩
  have a4:(tpK prog w).is h' k b:=qPF a8 λo l=>a b o t (hk b o t f l);obtain⟨o,ho,ac,no,aa⟩:=a9;have ab:h'.DictOfH (tpK prog w) d Af:=qbD hd (λo l=>a d o u l) λx hx o l=>a _ o (g x hx) l;refine B62 (B72 (B62 ?_));show wpAny _ A.in1 (tryCatch (A34 (.ref r)) _) _ _ _;refine B84 ?_;unfold A34;refine B62 (wpAny_typeOf (T:="tuple") ⟨o,ho,ac⟩ ?_);rw[if_pos (by decide)]
  refine B62 (B93 ho aa (B63 ?_));show wpAny _ A.in1 (C02 [E1 b,x] (dictSet d (.ref b) x)) _ _ _;refine B72 (wpAny_dictSet_heap (hsz:=by lia) (C06 hu) a4 ab λh2 ag sb=>?_)
  have a1:(C23 Af k b x).length<=i+1:=by
   unfold C23
   split
   ·rw[A0];lia
   ·rw[B0,B8];lia
  refine B63 ⟨B83 qGW _,ih (i+1) _ _ _ (C23 Af k b x) (by lia) a2 (W.frame _ _ _ a7 λb p o eb=>?_) ag a1 (qNO (F:=λc=>c∉wr) g t) (λb o p f eb=>?_) λh3 ah af ad=>y h3 ah af ad⟩
  ·rw[sb.2 b (λz:b=d=>a0 (z▸p))];exact eb
  ·rw[sb.2 b f];exact a b o p (hk b o p f eb)
end
section
variable{prog:B66}{w:World}{A:Around}{E:Value->Shared->Prop}{s:Shared}
theorem qNE {l:Addr} {o:Obj} {a:Array Value} {nl:Nat} {ps:List (List Key×Addr×Value)} {Q:Value->Shared->Prop} (hu:A.units+64<cLine) (hA:A.handled=none) (hl:s.heap.get? l=some o) (hc:o.cls=.type "list") (g:o.data=.seq a nl) (a4:o.dict=none) (hn:ps.length=a.size) (hz:a.size<=B64)
  (a1:∀(i:Nat) v,a[i]?=some v->∃r k b x,v=.ref r/\s.heap.IsTuple r #[.ref b,x]/\(tpK prog w).is s.heap k b/\ps[i]?=some (k,b,x))
  (h:∀h' tk,h'.DictOfH (tpK prog w) s.heap.objs.size (ps.foldl (λm q=>C23 m q.1 q.2.1 q.2.2) [])->(∀b u,s.heap.get? b=some u->h'.get? b=some u)->Q (.ref s.heap.objs.size) {s with heap:=h',toks:=tk}):
  wpAny (model prog w) A (call (.type "dict") [.ref l]) Q E s:=by
 refine callType_codes (Q₁:=λy s₁=>y=.ref s.heap.objs.size/\s₁={s with heap:=s.heap.push {cls:=.type "dict",data:=.dict #[]}}) F.kt_called_dict (F.kt_typeCall_dict_1 _) F.entry_dict_init (kt_code_dict_new _ ⟨rfl,rfl⟩) ?_;rintro y s₁ ⟨rfl,rfl⟩;have nw:(s.heap.push {cls:=.type "dict",data:=.dict #[]}).DictOfH (tpK prog w) s.heap.objs.size []:=Heap.DictOfH.new s.heap;have d:(s.heap.push {cls:=.type "dict",data:=.dict #[]}).get? l=some o:=A5 _ hl;have a2:l<s.heap.objs.size:=B7 hl;refine⟨nw.typeIs,F.args_dict_init_2 _ _,?_⟩;unfold Builtin.«dict.__init__»;refine B62 ?_;unfold Builtin.Dict.selfAndRest;refine B62 (wpAny_notOrdered_dict nw.typeIs ?_);show wpAny _ _ (pure (s.heap.objs.size,[E1 l])) _ _ _;refine B63 ?_;show wpAny _ _ (A21 "dict.__init__" s.heap.objs.size (.ref l) [] .none) _ _ _;unfold A21;refine B62 (wpAny_typeOf (T:="list") ⟨o,d,hc⟩ ?_);rw[if_pos (by decide)]
 refine B62 (qV3 d hc g a4 hA λh1 a9 j=>?_);rw[if_pos (show(none:Option Value).isNone=true from rfl)];have p:h1.IsList l a:=⟨o,j _ _ d,hc,nl,g⟩;have t:l<h1.objs.size:=B7 (j _ _ d);have f:s.heap.objs.size<h1.objs.size:=by
  obtain⟨_,_,_,e,_⟩:=nw;exact B7 (j _ _ e)
 refine B62 (B99 (B62 (B87 p ?_)));refine B63 ⟨B83 qGW _,?_⟩;refine qWC (n:=a.size) ?hu (A47 (A:=A.in1.in1) hA _ l (C6 t) a) h1 s.heap.objs.size ?_ ps hn hz (λi v hv=>?_) a.size 0 _ _ _ [] rfl (F3 _) ⟨⟨_,B5 _ rfl,rfl,rfl⟩,p.push _⟩ (qbD nw (λo eo=>A5 _ (j _ _ eo)) λx hx=>nomatch hx) (A7 _) (λx hx=>nomatch hx) (λb u hb a8 eb=>A5 _ eb) λh' tk a5 a7=>?_
 case hu=>
  show A.units+1+1<cLine
  lia
 ·simp only[B6,O0,or_false,not_or];exact⟨C6 f,V9 a2⟩
 ·obtain⟨r,k,b,x,e1,e2,e3,e4⟩:=a1 i v hv;obtain⟨or,hr,a3,a6⟩:=e2;have a0:=B7 hr;have c:b<s.heap.objs.size:=by
   obtain⟨_,_,_,z,_⟩:=e3;exact B7 z
  refine⟨r,k,b,x,e1,?_,C6 a0,?_,C6 c,⟨or,j _ _ (A5 _ hr),a3,a6⟩,qPF e3 λo eo=>j _ _ (A5 _ eo),e4⟩
  ·simp only[B6,O0,or_false];exact C6 (X3 a0 f)
  ·simp only[B6,O0,or_false];exact C6 (X3 c f)
 ·refine⟨rfl,h h' tk a5 λb u eb=>?_⟩;have c:=B7 eb;refine a7 b u ?_ (C6 c) (j _ _ (A5 _ eb));simp only[B6,O0,or_false];exact C6 (X3 c f)
end
section
variable{X:Cx}
def qO9 (H:Hp)(K:PySem.W.Frag)(rs:List Addr)(ps:List (List Key×Addr×V)):Prop:=Paired (λr (q:List Key×Addr×V)=>SqT K H r [.ref q.2.1,q.2.2]/\H q.2.1=some (.tup (q.1.map kV))) rs ps
noncomputable def qBB (Af:List (List Key×V))(ps:List (List Key×Addr×V)):List (List Key×V):=ps.foldl (λm q=>putK m q.1 q.2.2) Af
theorem qJN:∀(ps:List (List Key×Addr×V)) (Af:List (List Key×V)),(qBB Af ps).length<=Af.length+ps.length
 |[],Af=>by simp[qBB]
 |q::ps,Af=>by
  have:=qJN ps (putK Af q.1 q.2.2);have:=qCR Af q.1 q.2.2;show(qBB (putK Af q.1 q.2.2) ps).length<=Af.length+(q::ps).length;rw[D3]
  lia
theorem qSQ {Ab:List (Addr×Obj)}{σ:St}{H:Hp}{s:Shared}(I:Inv X Ab σ H s):∀{rs:List Addr} {ps:List (List Key×Addr×V)},qO9 H X.K rs ps->
  ∃qs:List (List Key×Addr×Value),Paired (λr (q:List Key×Addr×Value)=>s.heap.IsTuple r #[.ref q.2.1,q.2.2]) rs qs/\Paired (λ(p:List Key×Addr×V) (q:List Key×Addr×Value)=>p.1=q.1/\p.2.1=q.2.1/\H p.2.1=some (.tup (p.1.map kV))/\RelV p.2.2 q.2.2) ps qs:=by
 intro rs ps h;unfold qO9 at h
 induction h with
 |nil=>exact⟨[],.nil,.nil⟩
 |@cons r q rs ps h t ih=>
  obtain⟨qs,d,i⟩:=ih;obtain⟨b,e,f,j⟩:=I.tuple h.1;obtain⟨k,a,rfl,g,c⟩:=qNJ e;cases g;exact⟨(q.1,q.2.1,a)::qs,.cons f d,.cons ⟨rfl,rfl,h.2,c⟩ i⟩
theorem qXO {H:Hp}:∀{ps:List (List Key×Addr×V)} {qs:List (List Key×Addr×Value)} {Af:List (List Key×V)} {vs:List (List Key×Addr×Value)},Paired (λ(p:List Key×Addr×V) (q:List Key×Addr×Value)=>p.1=q.1/\p.2.1=q.2.1/\H p.2.1=some (.tup (p.1.map kV))/\RelV p.2.2 q.2.2) ps qs->KT H Af vs->KT H (qBB Af ps) (qs.foldl (λm q=>C23 m q.1 q.2.1 q.2.2) vs):=by
 intro ps qs Af vs h
 induction h generalizing Af vs with
 |nil=>exactλr=>r
 |cons h t ih=>
  intro r;refine ih ?_;dsimp only;rw[<- h.1,<- h.2.1];exact r.put _ h.2.2.1 h.2.2.2
theorem qLU (hc:X.calm=true) (j:X.A.units+64<cLine):qCG X (.type "dict") (λxs H Q=>∃(p:Addr) (rs:List Addr) (ps:List (List Key×Addr×V)),xs=[.ref p]/\SqL X.K H p (rs.map V.ref)/\qO9 H X.K rs ps/\∀d,H d=none->Q (.ref d) (Ag H d (.dT (qBB [] ps)))):=by
 intro Ab s σ H xs us Q I r h;obtain⟨p,rs,ps,rfl,hq,hp,q⟩:=h;obtain⟨u,rfl,rx⟩:=qE1 r;cases rx;obtain⟨k,rv,pl,hz⟩:=I.list hq;obtain⟨qs,h1,l⟩:=qSQ I hp;have l0:=rv.length;rw[A0] at l0;have l1:rs.length=qs.length:=C1 h1;have l2:ps.length=qs.length:=C1 l;obtain⟨o,ho,t,m,n,g⟩:=qPS pl;rw[A0] at hz;refine qNE (ps:=qs) j (I.ok.hd hc) ho t g m (by simp;lia) (by simp;lia) (λi v hv=>?_) λh' tk y hk=>?_
 ·have f:k[i]?=some v:=by simpa using hv
  have hi:i<rs.length:=by rw[l0];exact(A3.mp f).1
  obtain⟨u,j,ru⟩:=rv.get (i:=i) (x:=.ref rs[i]) (by rw[B9,A4 hi];rfl)
  rw[f] at j;cases j;cases ru;obtain⟨b,hb,ht⟩:=qJ2 h1 (A4 hi);obtain⟨b',e,e1,e2,e3,e4⟩:=qJ2 l (i:=i) (a:=ps[i]'(by lia)) (A4 _)
  rw[hb] at e;cases e;rw[e1,e2] at e3;exact⟨rs[i],b.1,b.2.1,b.2.2,rfl,ht,qK0 I.hok e3,hb⟩
 ·have z:(qBB [] ps).length<=B64:=by
   have:=qJN ps [];simp at this
   lia
  have hn:H s.heap.objs.size=none:=I.hok.fresh (A7 _);obtain⟨o,es,ep,d1,d2,d3,d4,_,d5⟩:=y;refine⟨.ref s.heap.objs.size,_,I.laid (a:=s.heap.objs.size) (o:=.dT (qBB [] ps)) (t':=tk) hk (A7 _) ⟨z,beq_eq_false_iff_ne.mpr (J8 (C6 I.big)),_,(qXO l .nil).keeps λc ys w=>?_,o,es,ep,d1,d2,d3,d4,d5⟩,rfl,q _ hn⟩
  first
   |exact w
   |(rw[qA9 (qA6 w hn)];exact w)
end
theorem qdH:B70 "any" = some (.builtin "any"):=by decide +kernel
theorem qWR:B70 "sum" = some (.builtin "sum"):=by decide +kernel
theorem qSR (d:List Bool):((F2 d.length).any λi=>(d[i]?).getD false)=d.any id:=by
 rw[L7,A26,A26]
 constructor
 ·rintro⟨i,c,h⟩;have a:=D9.mp c;rw[A4 a] at h;exact⟨_,W7 a,h⟩
 ·rintro⟨b,f,h⟩;obtain⟨i,c,e⟩:=M7 f;exact⟨i,D9.mpr c,by rw[A4 c,e];exact h⟩
section
variable{X:Cx}
theorem qYY (o:X.calm=true):qCG X (.builtin "any") (λxs H Q=>∃(p:Addr) (bs:List Bool),xs=[.ref p]/\SqL X.K H p (bs.map V.bl)/\Q (.bl (bs.any id)) H):=by
 intro Ab s σ H xs us Q I r h;obtain⟨p,bs,rfl,w,q⟩:=h;obtain⟨u,rfl,y⟩:=qE1 r;cases y;obtain⟨c,k,t,hz⟩:=I.list w;have f:=t.isList;have g:p<s.heap.objs.size:=by obtain⟨_,e,_⟩:=f;exact B7 e
 have a:=k.length;rw[A0] at a;refine call_any_walk (B87 f ?_);refine⟨s.heap.objs.size,[s.heap.objs.size,p],[s.heap.objs.size],c.toArray.size,_,_,λi=>(bs[i]?).getD false,rfl,A47 (A:=X.A.in1) (I.ok.hd o) _ p (C6 g) c.toArray,
  ⟨⟨_,B5 _ rfl,rfl,rfl⟩,f.push _⟩,λi v s' Q' E' z j=>?_,λh' tk hk=>?_⟩
 ·have d:c[i]?=some v:=by simpa using z
  have m:i<bs.length:=by rw[a];exact(A3.mp d).1
  obtain⟨u,l,ru⟩:=k.get (i:=i) (x:=.bl bs[i]) (by rw[B9,A4 m];rfl)
  rw[d] at l;cases l;cases ru;dsimp only at j;rw[A4 m,Z1] at j;exact B81 j
 ·have e:((F2 c.toArray.size).any λi=>(bs[i]?).getD false)=bs.any id:=by
   rw[C0,<- a];exact qSR bs
  refine⟨.bl (bs.any id),H,I.kept λb x e=>hk b x (λn=>by rw[A6.mp n] at e;exact R9 _ (B7 e)) (A5 _ e),?_,q⟩
  rw[e]
  rfl
end
section
variable{prog:B66}{w:World}{A:Around}{E:Value->Shared->Prop}{s:Shared}
end
section
variable{X:Cx}
def BareT (H:Hp) (a:Addr) (xs:List V):Prop:=∃o:Obj,H a=some (.frz o (.tup xs))/\o.cls=.type "tuple"/\o.dict=none
theorem BareT.sq {K:PySem.W.Frag}{H:Hp}{a:Addr}{xs:List V}(h:BareT H a xs):SqT K H a xs:=by
 obtain⟨o,h,_⟩:=h;exact .inl (.inr ⟨o,h⟩)
theorem BareT.same {H H':Hp}{a:Addr}{xs:List V}(h:BareT H a xs)(s:∀b o,H b=some o->H' b=some o):BareT H' a xs:=by
 obtain⟨o,d,c⟩:=h;exact⟨o,s _ _ d,c⟩
theorem qKI:qCG X (.type "tuple") (λxs H Q=>∃p ys,xs=[.ref p]/\SqL X.K H p ys/\∀l o,H l=none->o.cls=.type "tuple"->o.dict=none->Q (.ref l) (Ag H l (.frz o (.tup ys)))):=by
 intro i s σ H xs x Q I r h;obtain⟨p,ys,rfl,n,q⟩:=h;obtain⟨u,rfl,t⟩:=qE1 r;cases t;obtain⟨a,g,m,j⟩:=I.list n;have d:=g.length;refine call_tuple_list m.isList (λc k=>?_) (by simp only[C0]<;>lia)
 have f:Inv X i σ H {s with heap:=c}:=I.kept (t':=s.toks) k;have v:Inv X i σ (Ag H c.objs.size (.frz {cls:=.type "tuple",data:=.seq a.toArray} (.tup ys))) {s with heap:=c.push {cls:=.type "tuple",data:=.seq a.toArray}}:=
  f.laid (t':=s.toks) (λb o e=>A5 _ e) (A7 _) ⟨B5 _ rfl,show ObjOk X.prog X.w _ _ _ (.tup ys) from⟨j,a,g,IsTup.new _ _⟩⟩
 exact⟨.ref c.objs.size,_,v,rfl,q _ _ (f.hok.fresh (A7 _)) rfl rfl⟩
theorem qcS:OpR X (B80 .Is) (λx y H Q=>∃a b:Bool,x=.bl a/\y=.bl b/\Q (.bl (a==b)) H):=by
 intro e s σ H x y v u Q I c d h;obtain⟨a,b,rfl,rfl,q⟩:=h;cases c;cases d;exact wpAny_is_plain (by cases a<;>cases b<;>rfl) ⟨.bl (a==b),H,I,by cases a<;>cases b<;>rfl,q⟩
end
end L2
namespace HT
open PySem PySem.Spec PyProof.Rows
section
variable{prog:B66}{w:World}{A:Around}{E:Value->Shared->Prop}{s:Shared}
end
end HT
namespace L2
open PySem PySem.Spec PyProof.Rows
section
variable{X:Cx}
end
section
variable{A:Around}{s:Shared}
end
section
variable{X:Cx}
end
section
variable{X:Cx}{e:Expr}{te:TE}{st:Option Expr}{tst:TO}{pos p2:Pos}
end
section
variable{X:Cx}
end
section
variable{prog:B66}{w:World}{A:Around}{E:Value->Shared->Prop}{s:Shared}
end
section
variable{X:Cx}
theorem qJ9:∀(as:List Addr),Vals (as.map V.ref) (as.map E1)
 |[]=>.nil
 |_::as=>.cons rfl (qJ9 as)
end
section
variable{prog:B66}{w:World}{A:Around}{R:Result->Shared->Prop}{h:Heap}{g:Array C18}{d:Drawn}{t:Nat}{os:OsState}{K:PySem.W.Frag}{C fI:Addr}{rest:List Value}
end
section
variable{X:Cx}
def TB:Type:=(St->XK)->TS
end
section
variable{prog:B66}{w:World}{A:Around}{E:Value->Shared->Prop}{s:Shared}
end
section
variable{X:Cx}{pos:Pos}
end
section
variable{X:Cx}{tg:Expr}
def tFrz (t:TE):TE:=λσ H Q=>t σ H λv H1=>∃d Af,v=.ref d/\H1 d=some (.dK Af)/\∀o,Q v (Ag H1 d (.frz o (.dK Af)))
theorem Inv.freeze {Ab:List (Addr×Obj)}{σ:St}{H:Hp}{s:Shared}{d:Addr}{Af:List (Key×V)}(I:Inv X Ab σ H s)(h:H d=some (.dK Af)):∃o,Inv X Ab σ (Ag H d (.frz o (.dK Af))) s:=by
 have c:=I.hok d _ h;obtain⟨i,g,j,f,o,k,l,a,r⟩:=id c;refine⟨o,?_⟩;have:=I.write (h':=s.heap) (t':=s.toks) (x:=d) (e:=d) (o:=.frz o (.dK Af)) (by rw[h];trivial) (.inl rfl) (λb u _ q=>q) ⟨o,a⟩ ⟨a,c⟩
 exact this
theorem qcO {e:Expr}{t:TE}(f:PE X e t):PE X e (tFrz t):=by
 intro c s σ H Q I h;refine thn (f c s σ H _ I h) λv s1 ⟨x,H1,I1,r1,d,Af,e,hd,q⟩=>?_;obtain⟨o,g⟩:=I1.freeze hd;exact⟨x,_,g,r1,q o⟩
noncomputable def Itk (a:Addr)(o:Obj)(Af:List (Key×V)):It:=
 ⟨λi H=>i<Af.length/\H a=some (.frz o (.dK Af)),λi H x b=>b=H/\∃k v,Af[i]?=some (k,v)/\x=kV k,λi H=>Af.length<=i/\H a=some (.frz o (.dK Af))⟩
theorem qXL {k:Key}{v:Value}(h:qQ9 k v=true):RelV (kV k) v:=by
 rcases qBG h with⟨i,t,rfl,rfl⟩|⟨x,t,rfl,rfl⟩
 ·exact⟨t,rfl⟩
 ·exact⟨t,rfl⟩
theorem Inv.heldD {Ab:List (Addr×Obj)}{σ:St}{H:Hp}{s:Shared}{d:Addr}{o:Obj}{Af:List (Key×V)}(I:Inv X Ab σ H s)(h:H d=some (.frz o (.dK Af))):s.heap.get? d=some o/\(d==B88)=false/\∃vs ep,KV Af vs/\s.heap.DictAt (qBM X.prog X.w) d vs ep/\(∃es,o.data=.dict es ep):=by
 obtain⟨e,j,g,vs,c,i⟩:=(show ObjOk X.prog X.w H s.heap d (.frz o (.dK Af)) from I.hok d _ h);obtain⟨ep,f⟩:=i.dictAt;obtain⟨l,es,b,k,a,r⟩:=id f;rw[e] at b;cases b;exact⟨e,g,vs,ep,c,f,es,a⟩
theorem qSL {P:B66}{w:World}{K:PySem.W.Frag}{tg:Expr}(a l:Addr)(o:Obj)(Af:List (Key×V))(ep:Nat)(es:_)(ho:o.data=.dict es ep):Turn P w K tg (Itk a o Af) [l] l (λi h=>h.IsKeyIter l a i Af.length ep) where
 mem:=by simp
 obj:=λi h g b m=>by
  have e:b=l:=by simpa using m
  subst e;obtain⟨o,e,c,d⟩:=g;exact⟨o,e,λv z=>by rw[d] at z;cases z⟩
 keep:=λi h u g k=>g.at λo e=>k l (by simp) o e
 item:=by
  intro X hP hw hK hc i Ab s σ H E I y g hg;subst hP hw hK;obtain⟨hi,hq⟩:=hg;obtain⟨e1,e2,n,a3,j,da,a0,r⟩:=I.heldD hq;rw[ho] at r;cases r;obtain⟨f0,f1,f2,f3,f4,f5⟩:=y l (by simp)
  have lv:n.length=Af.length:=j.length.symm;rw[<- lv] at g;obtain⟨⟨k,x⟩,hx⟩:∃p,n[i]?=some p:=⟨n[i]'(by lia),A4 (by lia)⟩
  obtain⟨⟨k',v'⟩,q⟩:∃p,Af[i]?=some p:=⟨Af[i],A4 hi⟩;have ek:k'=k:=by
   have h1:(Af.map (·.1))[i]?=some k':=by rw[B9,q];rfl
   have h2:(n.map (·.1))[i]?=some k:=by rw[B9,hx];rfl
   rw[j.keys,h2] at h1;cases h1
   rfl
  refine wpAny_pyNext_dict_item g da hx λa1 u t f a2=>?_;have I1:Inv X Ab σ H {s with heap:=u}:=I.turned (t':=s.toks) (λb o m e=>(a2.2 b m).trans e) f0 f1 f3 f4 f5;rw[lv] at f;obtain⟨oi,ei,c,d⟩:=id f;exact⟨a1,rfl,qTA (s:={s with heap:=u}) ei c d (by decide) ⟨kV k,H,I1,qXL t,⟨rfl,k',v',q,by rw[ek]⟩,f,λb m=>(y b m).1⟩⟩
 done:=by
  intro X hP hw hK hc i Ab s σ H E I y g hg;subst hP hw hK;obtain⟨hi,hq⟩:=hg;obtain⟨e1,e2,n,a3,j,da,a0,r⟩:=I.heldD hq;rw[ho] at r;cases r;obtain⟨f0,f1,f2,f3,f4,f5⟩:=y l (by simp)
  have lv:n.length=Af.length:=j.length.symm;rw[<- lv] at g;exact wpAny_pyNext_dict_end (I.ok.hd hc) g da (by simp;lia) λu eb=>⟨rfl,I.turned (t':=s.toks) (λb o m e=>eb b o m e) f0 f1 f3 f4 f5⟩
 self:=λ_ _ _ _ _ g h=>C44 g h
def qd6 (tl:TE):TI:=λσ H R=>tl σ H λx H1=>∃a o Af,x=.ref a/\H1 a=some (.frz o (.dK Af))/\R (Itk a o Af) H1
theorem qRH {l:Expr}{d:TE}(g:PE X l d):PI X tg l (qd6 d):=by
 intro u s σ H R I h;refine thn (g u s σ H _ I h) λv s1 ⟨x,H1,I1,r1,q1⟩=>?_;obtain⟨a,o,f,e,r,q⟩:=q1;subst e;cases r1;obtain⟨y,w,m,t,c,n,k,i⟩:=I1.heldD r;have j:m.length=f.length:=c.length.symm;refine wpAny_pyIter_dict w n ?_;refine⟨s1.heap.objs.size,[s1.heap.objs.size],_,_,H1,rfl,I1.kept (t':=s1.toks) λb o e=>A5 _ e,qSL a _ o f t k i,⟨_,B5 _ rfl,rfl,by rw[j];rfl⟩,λb p=>?_,q⟩
 have e:b=s1.heap.objs.size:=by simpa using p
 subst e;exact I1.fpOk (A7 _) (I1.hok.fresh (A7 _))
end
theorem qYA {a:Addr}{o:Obj}{Af:List (Key×V)}{g:TG}{h:TT}{d:TE}{Kf:Hp->Prop}{σ0:St}{H0:Hp}{p:Addr}(Pv:Nat->St->Hp->Prop)(l:Pv 0 σ0 H0)(r:∀i σ H,i<=Af.length->Pv i σ H->H a=some (.frz o (.dK Af)))
  (hs:∀i k v σ H,Af[i]?=some (k,v)->Pv i σ H->g (kV k) σ H λσ2 H2=>h σ2 H2 λb H3=>if b=true then d σ2 H3 λy H4=>∃ys,H4 p=some (.lst ys)/\ys.length<B64/\Pv (i+1) σ2 (Ag H4 p (.lst (ys++[y]))) else Pv (i+1) σ2 H3)
  (j:∀σ H,Pv Af.length σ H->Kf H):
  LcG (Itk a o Af) g h d Kf σ0 H0 p:=by
 refine⟨λi m σ H=>m=Af.length-i/\i<=Af.length/\Pv i σ H,⟨Af.length,by simp,F3 _,l⟩,?_⟩
 rintro i m σ H ⟨rfl,hi,q⟩;have f:=r i σ H hi q;by_cases c:i<Af.length
 ·refine .inr ⟨⟨c,f⟩,Pv (i+1),λσ' t n=>⟨Af.length-(i+1),by lia,rfl,c,n⟩,λx t y=>?_⟩
  obtain⟨e,k,v,u,s⟩:=y;subst e s;exact hs i k v σ _ u q
 ·have e:i=Af.length:=by lia
  subst e;exact .inl ⟨⟨A7 _,f⟩,j σ H q⟩
theorem qVZ {a:Addr}{o:Obj}{Af:List (Key×V)}{g:TG}{c:TS}{D:Ends}{σ:St}{H:Hp}(Pv:Nat->St->Hp->Prop)(f:Pv 0 σ H)(j:∀i σ H,i<=Af.length->Pv i σ H->H a=some (.frz o (.dK Af)))
  (hs:∀i k v σ H,Af[i]?=some (k,v)->Pv i σ H->g (kV k) σ H λσ2 H2=>c {D with nx:=Pv (i+1),ct:=Pv (i+1),bk:=D.nx} σ2 H2) (d:∀σ H,Pv Af.length σ H->D.nx σ H):
  ForG (Itk a o Af) g c D σ H:=by
 refine⟨λi m σ H=>m=Af.length-i/\i<=Af.length/\Pv i σ H,⟨Af.length,by simp,F3 _,f⟩,?_⟩
 rintro i m σ H ⟨rfl,hi,p⟩;have q:=j i σ H hi p;by_cases b:i<Af.length
 ·refine .inr ⟨⟨b,q⟩,Pv (i+1),λσ' n h=>⟨Af.length-(i+1),by lia,rfl,b,h⟩,λx n y=>?_⟩
  obtain⟨e,k,v,r,l⟩:=y;subst e l;exact hs i k v σ _ r p
 ·have e:i=Af.length:=by lia
  subst e;exact .inl ⟨⟨A7 _,q⟩,d σ H p⟩
theorem qWN {X:Cx} {K:PySem.W.Frag} (a:X.K=K) (b:X.calm=true):qCG X (.builtin "sum") (λxs H Q=>∃(p:Addr) (ns:List Int),xs=[.ref p]/\SqL K H p (ns.map V.int)/\Q (.int ns.sum) H):=by subst a;exact qNB b
section
variable{prog:B66}{w:World}{A:Around}{E:Value->Shared->Prop}{s:Shared}{it d:Addr}{i n ep:Nat}{od:Obj}{es:Array DictEntry}
theorem qOU {Q:Value->Shared->Prop} (a:s.TypeIs (.ref d) "dict") (e:(d==B88)=false) (c:s.heap.get? d=some od) (b:od.data=.dict es ep)
  (f:Q (.ref s.heap.objs.size) {s with heap:=s.heap.push {cls:=.type "dict_keyiterator",data:=.fields #[.ref d,rawInt 0,rawInt es.size,rawInt ep]}}):wpAny (model prog w) A (pyIter (.ref d)) Q E s:=by
 apply wpAny_pyIter_slot a B10;refine B79 B10 a F.entry_dict_iter ?go (F.args_dict_iter_1 (.ref d));unfold Builtin.«dict.__iter__»;apply B62;unfold Builtin.Dict.dictSlotNone;apply B62;apply wpAny_notOrdered_dict a;apply B63;apply B62;apply B63;apply B62;unfold Builtin.Dict.showsAll;rw[e];apply B63;apply B62;apply wpAny_dictEntries c b;apply B62;apply wpAny_dictEpoch c b;apply B62;refine B74 ?made;apply B63;exact⟨_,rfl,"dict_keyiterator",_,⟨_,B5 _ rfl,rfl⟩,P5.lookup,f⟩
def qTL (h:Heap) (it d:Addr) (i n ep:Nat):Prop:=h.get? it=some {cls:=.type "dict_keyiterator",data:=.fields #[.ref d,rawInt i,rawInt n,rawInt ep]}
theorem qOV {Q:Option Value->Shared->Prop}(a:qTL s.heap it d i es.size ep)(g:s.heap.get? d=some od)(h:od.data=.dict es ep)(hi:i<es.size)
  (j:∀h',qTL h' it d (i+1) es.size ep->Heap.SameBut it s.heap h'->Q (some es[i].key) {s with heap:=h'}):wpAny (model prog w) A (pyNext (.ref it)) Q E s:=by
 have c:s.TypeIs (.ref it) "dict_keyiterator":=⟨_,a,rfl⟩;unfold pyNext;apply B62;apply C31;apply wpAny_callSpecial?_slot (name:=D4 "__next__") c P5;refine B79 P5 c n0 ?go (m4 (.ref it));apply B62;apply B63;apply B62;apply B62;apply B62
 first|apply B96 c|apply C04 c
 apply B63;apply B62;refine wpAny_fieldsOf a rfl ?fs;have e:o9 "dict_keyiterator" = false:=by decide
 have k:((E1 d==Q0)=true)->False:=λz=>by cases z
 simp only[e,G6,if_false];show wpAny _ _ (if(E1 d==Q0)=true then _ else _) _ _ s
 rw[if_neg k];apply B62;apply B63;apply B62;apply wpAny_dictEntries g h;rw[if_neg (by simp)]
 apply B62;apply B63;apply B62;apply wpAny_dictEpoch g h;rw[if_neg (by simp)]
 apply B63;have f:¬((i:Int)<0):=Int.not_lt.mpr (X0 i);simp only[f,if_false,E4,C4 hi];apply B62;apply B62
 first|apply B96 c|apply C04 c
 apply B63;apply B62;apply wpAny_isOneOf_keyiter c;show wpAny _ _ (setField (.ref it) 1 (rawInt ((i:Int)+1)) >>= _) _ _ s;apply B62;refine C03 a rfl (by show 1<4;decide) ?set
 have b:qTL (s.heap.update it (o8 (·.setIfInBounds 1 (rawInt ((i:Int)+1))))) it d (i+1) es.size ep:=G8 _ a rfl;apply B62;apply B72;apply B62;refine wpAny_isOneOf_keyiter (s:={s with heap:=s.heap.update it (o8 (·.setIfInBounds 1 (rawInt ((i:Int)+1))))}) ⟨_,b,rfl⟩ ?one;apply B63;apply B63;exact⟨_,rfl,B63 (j _ b (Q2 ..))⟩
theorem qS2 {Q:Option Value->Shared->Prop}(q:A.handled=none)(c:qTL s.heap it d i es.size ep)(hi:es.size<=i)(j:s.heap.get? d=some od)(k:od.data=.dict es ep)
  (l:∀h',Heap.ExtBut it s.heap h'->Q none {s with heap:=h'}):wpAny (model prog w) A (pyNext (.ref it)) Q E s:=by
 have f:s.TypeIs (.ref it) "dict_keyiterator":=⟨_,c,rfl⟩;unfold pyNext;apply B62;apply C31;apply wpAny_callSpecial?_slot (name:=D4 "__next__") f P5;refine B79 P5 f n0 ?go (m4 (.ref it));apply B62;apply B63;apply B62;apply B62;apply B62
 first|apply B96 f|apply C04 f
 apply B63;apply B62;refine wpAny_fieldsOf c rfl ?fs;have g:o9 "dict_keyiterator" = false:=by decide
 have r:((E1 d==Q0)=true)->False:=λz=>by cases z
 simp only[g,G6,if_false];show wpAny _ _ (if(E1 d==Q0)=true then _ else _) _ _ s
 rw[if_neg r];apply B62;apply B63;apply B62;apply wpAny_dictEntries j k;rw[if_neg (by simp)]
 apply B62;apply B63;apply B62;apply wpAny_dictEpoch j k;rw[if_neg (by simp)]
 apply B63;have h:¬((i:Int)<0):=Int.not_lt.mpr (X0 _);simp only[h,if_false,E4,A33 hi];apply B62;apply B62
 first|apply B96 f|apply C04 f
 apply B63;show wpAny _ _ (setField (.ref it) 0 .none >>= _) _ _ s;apply B62;refine C03 c rfl (by show 0<4;decide) ?set
 have n:Heap.ExtBut it s.heap (s.heap.update it (o8 (·.setIfInBounds 0 Q0))):=λb o p e=>(E2 _ _ (J8 p)).trans e;show wpAny _ _ (newExc (.type "StopIteration") [] >>= _) _ _ _;apply B62;simp only[newExc,newTuple];apply B62;refine B74 ?t1 (by size_fits)
 refine B62 (m:=C11 _ _) (C08 (a:=Q0) (by first|rfl|(simp only[C11];rfl)) ?t2)
 refine B74 ?t3 (by size_fits)
 simp only[raiseNew];apply B62;apply wpAny_handled;rw[show A.in1.handled=none from q]
 first|apply wpAny_throw|(apply B62;apply B63;apply wpAny_throw)
 apply B62;refine wpAny_isInstance (T:="StopIteration") (b:=true) ⟨_,B5 _ rfl,rfl⟩ isSubtype_stop ?t4;exact B63 (l _ ((n.push _).push _))
end
section
variable{X:Cx}{tg:Expr}
def qdY (t:TE):TE:=λσ H Q=>t σ H λv H1=>∃d Af,v=.ref d/\H1 d=some (.dT Af)/\∀o,Q v (Ag H1 d (.frz o (.dT Af)))
theorem Inv.freezeT {Ab:List (Addr×Obj)}{σ:St}{H:Hp}{s:Shared}{d:Addr}{Af:List (List Key×V)}(I:Inv X Ab σ H s)(h:H d=some (.dT Af)):∃o,Inv X Ab σ (Ag H d (.frz o (.dT Af))) s:=by
 have c:=I.hok d _ h;obtain⟨j,i,k,f,o,l,m,a,r⟩:=id c;refine⟨o,I.write (h':=s.heap) (t':=s.toks) (x:=d) (e:=d) (o:=.frz o (.dT Af)) (by rw[h];trivial) (.inl rfl) (λb u _ q=>q) ⟨o,a⟩ ⟨a,?_⟩⟩
 refine(show ObjOk X.prog X.w H s.heap d (.dT Af) from c).stay (λb u _ q=>q) (λb q=>?_) (λb g q=>?_) λb t q=>?_
 ·rw[qA9 (qCP q h (by intro z;cases z))];exact q
 ·rw[qA9 (qCP q h (by intro z;cases z))];exact q
 ·rw[qA9 (qCP q h (by intro z;cases z))];exact q
theorem qPU {e:Expr}{t:TE}(b:PE X e t):PE X e (qdY t):=by
 intro a s σ H Q I h;refine thn (b a s σ H _ I h) λv s1 ⟨x,H1,I1,r1,d,Af,e,hd,q⟩=>?_;obtain⟨o,c⟩:=I1.freezeT hd;exact⟨x,_,c,r1,q o⟩
def ItT (a:Addr)(o:Obj)(Af:List (List Key×V)):It:=
 ⟨λi H=>i<Af.length/\H a=some (.frz o (.dT Af)),λi H x H'=>H'=H/\∃k v r,Af[i]?=some (k,v)/\x=.ref r/\H r=some (.tup (k.map kV)),λi H=>Af.length<=i/\H a=some (.frz o (.dT Af))⟩
theorem Inv.heldT {Ab:List (Addr×Obj)}{σ:St}{H:Hp}{s:Shared}{d:Addr}{o:Obj}{Af:List (List Key×V)}(I:Inv X Ab σ H s)(h:H d=some (.frz o (.dT Af))):
  s.heap.get? d=some o/\(d==B88)=false/\o.cls=.type "dict"/\∃es ep,o.data=.dict es ep/\es.size=Af.length/\∀(i:Nat) (hi:i<es.size),∃k v r,Af[i]?=some (k,v)/\es[i].key=.ref r/\H r=some (.tup (k.map kV)):=by
 obtain⟨l,hz,n,f,c,o',es,ep,a,q,b,j,nd⟩:=(show ObjOk X.prog X.w H s.heap d (.frz o (.dT Af)) from I.hok d _ h);rw[l] at a;cases a;have p:f.length=Af.length:=c.length.symm;have t:es.size=f.length:=by rw[<- C2,j,A0]
 refine⟨l,n,q.1,es,ep,b,t.trans p,λi hi=>?_⟩;have y:i<f.length:=by lia
 have e:i<Af.length:=by lia
 have g:=A4 e;obtain⟨x,u,e1,z,e3⟩:=qJ2 c g;refine⟨Af[i].1,Af[i].2,x.2.1,g,?_,z⟩;have m:es[i]?=some (entryOfKey (C17 (qBM X.prog X.w)) x):=by rw[<- F0,j,B9,u];rfl
 rw[C4 hi] at m;rw[D5 m]
 rfl
theorem qSK {P:B66}{w:World}{K:PySem.W.Frag}{tg:Expr}(a f:Addr)(o:Obj)(Af:List (List Key×V))(ep:Nat)(es:_)(p:o.data=.dict es ep):Turn P w K tg (ItT a o Af) [f] f (λi h=>qTL h f a i Af.length ep) where
 mem:=by simp
 obj:=λi h d b g=>by
  have e:b=f:=by simpa using g
  subst e;exact⟨_,d,λv z=>by cases z⟩
 keep:=λi h n d k=>k f (by simp) _ d
 item:=by
  intro X hP y hK hc i Ab s σ H E I q d u;subst hP y hK;obtain⟨hi,hq⟩:=u;obtain⟨e1,e2,e3,a0,a2,l,t,j⟩:=I.heldT hq;rw[p] at l;cases l;obtain⟨f0,f1,f2,f3,x,f5⟩:=q f (by simp)
  rw[<- t] at d;have m:i<es.size:=by lia
  obtain⟨k,v,r,g1,g2,g3⟩:=j i m;refine qOV d e1 p m λn c a1=>?_;have I1:Inv X Ab σ H {s with heap:=n}:=I.turned (t':=s.toks) (λb o g e=>(a1.2 b g).trans e) f0 f1 f3 x f5;rw[t] at c;rw[g2];exact⟨.ref r,rfl,qTA (s:={s with heap:=n}) c rfl rfl (by decide) ⟨.ref r,H,I1,rfl,⟨rfl,k,v,r,g1,rfl,g3⟩,c,λb g=>(q b g).1⟩⟩
 done:=by
  intro X hP y hK hc i Ab s σ H E I q d u;subst hP y hK;obtain⟨hi,hq⟩:=u;obtain⟨e1,e2,e3,a0,a2,l,t,j⟩:=I.heldT hq;rw[p] at l;cases l;obtain⟨f0,f1,f2,f3,x,f5⟩:=q f (by simp)
  rw[<- t] at d;exact qS2 (I.ok.hd hc) d (by lia) e1 p λn eb=>⟨rfl,I.turned (t':=s.toks) (λb o g e=>eb b o g e) f0 f1 f3 x f5⟩
 self:=λ_ _ _ _ _ d h=>C44 ⟨_,d,rfl,rfl⟩ h
def qd5 (tl:TE):TI:=λσ H R=>tl σ H λx H1=>∃a o Af,x=.ref a/\H1 a=some (.frz o (.dT Af))/\R (ItT a o Af) H1
theorem qMK {l:Expr}{c:TE}(g:PE X l c):PI X tg l (qd5 c):=by
 intro u s σ H R I h;refine thn (g u s σ H _ I h) λv s1 ⟨x,H1,I1,r1,q1⟩=>?_;obtain⟨a,o,k,e,r,q⟩:=q1;subst e;cases r1;obtain⟨d,w,i,j,t,f,n,p⟩:=I1.heldT r;refine qOU ⟨_,d,i⟩ w d f ?_;refine⟨s1.heap.objs.size,[s1.heap.objs.size],_,_,H1,rfl,I1.kept (t':=s1.toks) λb o e=>A5 _ e,qSK a _ o k t j f,by rw[n];exact B5 _ rfl,λb m=>?_,q⟩
 have e:b=s1.heap.objs.size:=by simpa using m
 subst e;exact I1.fpOk (A7 _) (I1.hok.fresh (A7 _))
end
theorem qY9 {a:Addr}{o:Obj}{Af:List (List Key×V)}{g:TG}{h:TT}{d:TE}{Kf:Hp->Prop}{σ0:St}{H0:Hp}{p:Addr}(Pv:Nat->St->Hp->Prop)(l:Pv 0 σ0 H0)(s:∀i σ H,i<=Af.length->Pv i σ H->H a=some (.frz o (.dT Af)))
  (hs:∀i k v r σ H,Af[i]?=some (k,v)->H r=some (.tup (k.map kV))->Pv i σ H->g (.ref r) σ H λσ2 H2=>h σ2 H2 λb H3=>if b=true then d σ2 H3 λy H4=>∃ys,H4 p=some (.lst ys)/\ys.length<B64/\Pv (i+1) σ2 (Ag H4 p (.lst (ys++[y]))) else Pv (i+1) σ2 H3)
  (j:∀σ H,Pv Af.length σ H->Kf H):
  LcG (ItT a o Af) g h d Kf σ0 H0 p:=by
 refine⟨λi m σ H=>m=Af.length-i/\i<=Af.length/\Pv i σ H,⟨Af.length,by simp,F3 _,l⟩,?_⟩
 rintro i m σ H ⟨rfl,hi,q⟩;have f:=s i σ H hi q;by_cases c:i<Af.length
 ·refine .inr ⟨⟨c,f⟩,Pv (i+1),λσ' w n=>⟨Af.length-(i+1),by lia,rfl,c,n⟩,λx w y=>?_⟩
  obtain⟨e,k,v,r,z,t,u⟩:=y;subst e t;exact hs i k v r σ _ z u q
 ·have e:i=Af.length:=by lia
  subst e;exact .inl ⟨⟨A7 _,f⟩,j σ H q⟩
section
variable{X:Cx}{k v:Expr}{tk tv:TE}{pos:Pos}
def qZZ (tk tv:TE):TE:=λσ H Q=>∀p,H p=none->tk σ (Ag H p (.dT [])) λx H1=>tv σ H1 λy H2=>H2 p=some (.dT [])/\∃b ks,x=.ref b/\H2 b=some (.tup (ks.map kV))/\Q (.ref p) (Ag H2 p (.dT [(ks,y)]))
theorem qUP (hu:X.A.units+1<cLine)(hk:PE X k tk)(p:PE X v tv):PE X (.Dict [some k] [v] pos) (qZZ tk tv):=by
 intro j s σ H Q I q;have hn:=I.hok.fresh (A7 s.heap.objs.size);have I1:=I.laid (a:=s.heap.objs.size) (o:=.dT []) (h':=s.heap.push {cls:=.type "dict",data:=.dict #[]}) (t':=s.toks) (λ_ _ q=>A5 _ q) (A7 _) (qS3 s.heap I.big);rw[arm_eval_Dict,zip_pairTrees [some k] [v] X.env pos rfl rfl,dictDisplay_pairs _ (by intro z;cases z) (by show 1<17;decide)]
 apply B62;apply C29;apply B62;unfold subDict;apply B62;refine wpAny_alloc ?_;apply B62;apply B72;rw[if_pos (show(pairTrees [some k] [v] X.env pos).length<=15 by show 1<=15;decide)]
 apply B62;refine pairTrees_cons_walk (thn (hk j _ σ _ _ I1 (q _ hn)) λu s1 ⟨x,H1,I2,rx,q1⟩=>thn (p j _ σ _ _ I2 q1) λr s2 ⟨y,H2,I3,ry,e,b,ks,ex,eb,q2⟩=>pairTrees_nil_walk ?_);subst ex;obtain rfl:u=E1 b:=rx;apply B72;obtain⟨z,l,xs,d,dd⟩:=qdF I3.hok e;have hz:xs.length<=B64:=by rw[<- C1 d];exact z
 apply B62;simp only[B19,List.forIn_nil];apply B62;apply B62;refine wpAny_dictSet_heap (knd:=C17 (qBM X.prog X.w)) (hsz:=hz) ?_ (qK0 I3.hok eb) dd λh' f t=>?_
 ·exact Nat.lt_of_succ_lt hu
 apply B63;apply B63;apply B63;apply B63;apply B63;refine⟨.ref s.heap.objs.size,_,?_,rfl,q2⟩;obtain⟨g,es,m,h,n,h3,h4,_,h5⟩:=f;refine qN7 I3 (by rw[e];exact V3) t ⟨g,h⟩ ⟨F5 (show 1<=2 by decide) (by decide),l,_,(d.put ks eb ry).keeps λc ys i=>?_,g,es,m,h,n,h3,h4,h5⟩
 rw[qA9 (qCP i e (λz=>nomatch z))];exact i
end
noncomputable def kOf:Stmt->Expr
 |.Assign _ (.Dict [some k] _ _) _=>k
 |_=>.Name "" ⟨0,0,0,0⟩
noncomputable def vOf:Stmt->Expr
 |.Assign _ (.Dict _ [v] _) _=>v
 |_=>.Name "" ⟨0,0,0,0⟩
theorem qaF {X:Cx}{e:Expr}(h:∃n p,e=.Tuple [] n p):PE X e (tTup tNil):=by
 obtain⟨n,p,rfl⟩:=h;exact qBY qA3
theorem qUN {X:Cx}{e:Expr}(h:∃a1 a2 b1 b2 c1 c2 n p,e=.Tuple [.Constant (.int 0) a1 a2,.Constant .none b1 b2,.Constant .none c1 c2] n p):PE X e (tTup (qNN (tC (.int 0)) (qNN (tC .non) (qNN (tC .non) tNil)))):=by
 obtain⟨_,_,_,_,_,_,n,p,rfl⟩:=h;exact qBY (qA0 qA7 (qA0 qF8 (qA0 qF8 qA3)))
theorem qX1 {p:Pos}{a b:Int}{c d:Value}:∀{l:List Value},TriplesOk l->codeAmong p (l++[rawInt a,rawInt b,c])=some d->codeAmong p l=some d\/d=c:=by
 intro l h e
 fun_induction TriplesOk l with
 |case1=>
  simp only[A37,rawInt,codeAmong] at e
  split at e
  ·exact .inr (D5 e).symm
  ·cases e
 |case2 a' t b' u x rest ih=>
  simp only[A24,codeAmong] at e ⊢
  split at e
  ·rename_i hc
   rw[if_pos hc];exact .inl e
  ·rename_i hc
   rw[if_neg hc];exact ih h e
 |case3 l h1 h2=>exact h.elim
def BM (mg:Str->Option Value) (h:Heap):Prop:=∃bm ob,mg "__builtins__" = some (.ref bm)/\bm≠C36/\h.get? bm=some ob/\ob.cls=.type "module"/\ob.dict=some C36/\ob.data=.plain
section
variable{X:Cx}{Ab:List (Addr×Obj)}{σ:St}{H:Hp}{s:Shared}
noncomputable abbrev lamO (X:Cx)(q:Str)(params:B95)(body:Expr)(scope:Scope)(cc:Addr)(ctv:Value):Obj:=
 {cls:=.type "function",data:=.func (Y8 "<lambda>" q params body scope (qHF X.env scope.names []) ((X.mg "__name__").getD .none) (.ref cc) ctv)}
theorem qdD {a:B95}{body:Expr}{d:Scope}{pos:Pos}{c P:Addr}{q:Str}{Q:Value->Shared->Prop}{E:Value->Shared->Prop}
  (I:Inv X Ab σ H s) (hb:BM X.mg X.base) (i:X.env.code=.ref c) (C:PySem.W.CodeHd X.base c P) (hP:H P=some (.tbl (.tab q))) (hq:X.env.qual ++ "<lambda>" = q)
  (a5:∀x,(x,L0)∈d.names->∃c,X.env.cells.lookup x=some c) (y:defaultsOf a X.env=([],[]))
  (h:∀ (f cc:Addr) (ctv:Value) (s':Shared) (H':Hp),Inv X Ab σ H' s'->(∀ b o,H b=some o->H' b=some o)->H' cc=some (.tbl (.cod q))->
   s'.heap.get? f=some (lamO X q a body d cc ctv)->s.heap.objs.size<=f->H' f=none->Q (.ref f) s'):
  wpAny (model X.prog X.w) X.A (eval (.Lambda a body d pos) X.env) Q E s:=by
 obtain⟨a6,a2,tr,a3⟩:=(show ObjOk X.prog X.w H s.heap P (.tbl (.tab q)) from I.hok P _ hP);have hg:s.heap.Ns B75 X.mg:=I.ok.mod.glob.keeps I.bk;have nP:∀b o,X.base.get? b=some o->b≠P:=λb o e z=>by
  have:=(I.bs b o e).2;rw[z,hP] at this;cases this
 have ac:B75≠P:=by
  obtain⟨o,es,ep,e,_⟩:=I.ok.mod.glob;exact nP _ _ e
 have a7:s.heap.BuiltinsAt X.mg P:=by
  obtain⟨bm,ob,b1,b2,b3,b4,b5,b6⟩:=hb;refine⟨bm,ob,b1,b2,?_,nP _ _ b3,I.bk _ _ b3,b4,b5,b6⟩;rintro rfl;obtain⟨o,es,ep,e,hd,_⟩:=I.ok.mod.glob;rw[e] at b3;cases b3;rw[hd] at b6;cases b6
 refine PySem.W.kla_eval y ?_;rw[hq];cases hca:codeAmong pos a6.toList with
 |some cv=>
  obtain⟨cc,rfl,af⟩:=a3 pos cv hca;refine PySem.W.kla_makeFunctionHit (qI2 a5) I.ok.glob hg i (C.keeps I.bk) a2 tr hca a7 λctv h' tk hk a9=>?_;exact h h'.objs.size cc ctv _ H (I.kept (t':=tk) λb u e=>A5 _ (hk b u e)) (λ_ _ z=>z) af (B5 _ rfl) a9 (I.hok.fresh a9)
 |none=>
  refine PySem.W.kla_makeFunction (qI2 a5) I.ok.glob hg i (C.keeps I.bk) a2 tr hca ac a7 λl ctv h' tk hx a4 ae a8 a1=>?_;have ag:H l=none:=I.hok.fresh a4;have j:∀b o,H b=some o->(Ag H l (.tbl (.cod q))) b=some o:=λb o e=>by rw[qA9 (qA6 e ag)];exact e
  have k:∀b,H b=none->b≠P:=λb n z=>by rw[z,hP] at n;cases n
  have I':Inv X Ab σ (Ag H l (.tbl (.cod q))) {s with heap:=h'.push (lamO X q a body d l ctv),toks:=tk}:=by
   refine I.step (g':=s.gens) (d':=s.drawn) (ch:=[]) (λ_ z=>nomatch z) (λb o _ _ _ e n=>A5 _ (hx b o (k b n) e)) (λb o _ _ _ e n=>⟨o.slots,A5 _ (hx b o (k b n) e)⟩)
    (λb o _ e n=>by rw[qA9 (C6 (E3 (B7 e) a4))];exact n) (λb o _ e=>?_) (λb xs e=>j _ _ e) (λb o u e=>j _ _ e) (λb t e=>j _ _ e) (λm hm=>(hm.extBut hx (k _ I.free)).push _) (λb u e=>?_) I.bare
   ·by_cases g:b=P
    ·exact⟨_,A5 _ (g▸a1)⟩
    ·exact⟨o,A5 _ (hx b o g e)⟩
   ·by_cases a0:b=l
    ·subst a0;rw[qA1] at e;cases e;obtain⟨c₂,oc,vs,t,e2,ad,r⟩:=a8;cases e2;exact⟨b,oc,vs,t,rfl,A5 _ ad,r⟩
    ·rw[qA9 a0] at e;by_cases g:b=P
     ·subst g;rw[hP] at e;cases e;refine⟨_,A5 _ a1,?_,λaa cv z=>?_⟩
      ·rw[E6];exact TriplesOk_snoc _ _ _ _ tr
      ·rw[E6] at z;rcases qX1 tr z with z|z
       ·obtain⟨p,e1,e2⟩:=a3 aa cv z;exact⟨p,e1,j _ _ e2⟩
       ·exact⟨l,z,qA1⟩
     ·refine(I.hok b u e).stay (λp v ab z=>A5 _ (hx p v ?_ z)) (λp z=>j _ _ z) (λp xs z=>j _ _ z) λp t z=>j _ _ z;rcases ab with z|z
      ·rw[z];exact g
      ·intro z2;rw[z2,hP] at z;cases z
  exact h h'.objs.size l ctv _ _ I' j qA1 (B5 _ rfl) (by lia) (by rw[qA9 (V9 ae)];exact I.hok.fresh (by lia))
structure LmScope (X:Cx)(scope:Scope)(p:Str)(fv:List Nat):Prop where
 kind:scope.kind=.function
 co:scope.isCoroutine=false
 gen:scope.isGenerator=false
 nocell:∀y∈scope.names,y.2≠.cell
 par:scope.names.lookup p=some .local
 free:∀y∈scope.names,y.2=.free->X.env.kindOf y.1=some .cell\/X.env.kindOf y.1=some .free
 fvs:∀i∈fv,i<X.N.length/\scope.names.lookup (X.N.getD i R6)=some .free
structure LmZ where
 A:Around
 f:Addr
 cd:Value
 s₀:Shared
 H₀:Hp
 rm:Room 0 A
noncomputable abbrev lmEnv (X:Cx)(scope:Scope)(q:Str)(z:LmZ):Env:=PySem.W.envX q scope z.s₀.heap.objs.size z.f z.cd (qHF X.env scope.names [])
noncomputable def lmCx (X:Cx)(scope:Scope)(p:Str)(fv:List Nat)(q:Str)(z:LmZ):Cx where
 prog:=X.prog
 w:=X.w
 K:=X.K
 mg:=X.mg
 base:=X.base
 A:=z.A.deeper (lmEnv X scope q z)
 N:=p::fv.map λi=>X.N.getD i R6
 s₀:=z.s₀
 H₀:=z.H₀
 env:=lmEnv X scope q z
 outer:=X.stack
 stack:=lmEnv X scope q z::X.stack
 ex:=[]
 fn:=λ_=>false
 calm:=true
 pn:=[]
 xe:=noX
theorem LmScope.fr {a:Scope}{p:Str}{fv:List Nat}(S:LmScope X a p fv)(I:Inv X Ab σ H s):∀x,(x,L0)∈a.names->∃c,X.env.cells.lookup x=some c:=λx b=>I.ok.has x (S.free _ b rfl)
theorem qeH {a:Scope}{p:Str}{fv:List Nat}{q:Str}{A:Around}{f:Addr}{cd:Value}(j:Room 0 A)(I:Inv X Ab σ H s)(S:LmScope X a p fv)(m:A.frames=some X.stack):
  (lmCx X a p fv q ⟨A,f,cd,s,H,j⟩).Ok:=by
 have h:=S.fr I;have e:=qFJ (env:=X.env) (names:=a.names) (acc:=[]) h (λx c z=>by simp at z)
 have d:∀b:Addr,b∉(lmCx X a p fv q ⟨A,f,cd,s,H,j⟩).ex:=λb z=>absurd (show b∈([]:List Addr) from z) (by simp)
 refine⟨I.ok.mod,S.kind,rfl,rfl,A7 _,λx y c l n=>I.ok.inj x y c (e _ _ l) (e _ _ n),λx g=>?_,λx c g=>(nomatch g),λ_=>j.hd,A50 m,.inr ⟨rfl,rfl⟩,λb z=>absurd z (d b),I.bs,F5 I.ok.bsz I.sz,λb _ _=>d b,λb z=>absurd z (d b),I.stack,I.stkFree⟩;have k:a.names.lookup x=some .cell\/a.names.lookup x=some .free:=g;rcases k with z|z
 ·exact absurd rfl (S.nocell _ (K9 z))
 ·exact qFK (.inl (K9 z))
noncomputable def qHT (fv:List Nat)(σ:St)(x:V):St:=some x::fv.map λi=>(σ[i]?).join
theorem qY6 {a:Scope}{p:Str}{fv:List Nat}{q:Str}{A:Around}{f:Addr}{cd:Value}{x:V}{u:Value}{h₁:Heap}{tk:Nat}(rm:Room 0 A)(I:Inv X Ab σ H s)(S:LmScope X a p fv)(hA:A.frames=some X.stack)(hx:RelV x u)
  (a0:h₁.Ns s.heap.objs.size (λy=>[(p,u)].reverse.lookup y)) (r:∀b o,s.heap.get? b=some o->h₁.get? b=some o):
  Inv (lmCx X a p fv q ⟨A,f,cd,s,H,rm⟩) [] (qHT fv σ x) H {s with heap:=h₁,toks:=tk}:=by
 have a2:=S.fr I;have k:=qFJ (env:=X.env) (names:=a.names) (acc:=[]) a2 (λx c z=>by simp at z)
 refine⟨qeH rm I S hA,rfl,I.bare,Un.kept r,⟨_,a0,λi y v d g h3=>?_⟩,λy c e=>?_,I.hok.fresh (A7 _),λy c e=>I.freeC y c (k _ _ e),λp hp=>absurd (show p∈([]:List (Addr×Obj)) from hp) (by simp),I.hok.kept r,?_⟩
 ·have d:(p::fv.map λi=>X.N.getD i R6)[i]?=some y:=d;unfold qHT at g;cases i with
  |zero=>
   cases d;cases g;refine⟨u,hx,.inl ⟨S.par,?_⟩⟩;simp
  |succ i=>
   rw[List.getElem?_cons_succ,B9] at d g;cases e:fv[i]? with
   |none=>rw[e] at d;cases d
   |some j=>
    rw[e] at d g;have hj:=S.fvs j (A9 e);have d:X.N.getD j R6=y:=D5 d;have g:(σ[j]?).join=some v:=D5 g;have a3:σ[j]?=some (some v):=by
     cases q:σ[j]? with
     |none=>rw[q] at g;cases g
     |some y=>rw[q] at g;exact congrArg some g
    have a1:X.N[j]?=some y:=by
     rw[U2] at d;rw[A4 hj.1] at d ⊢;exact congrArg some d
    have l:a.names.lookup y=some .free:=d ▸ hj.2;have h:=K9 l;obtain ⟨m,hn,hl⟩:=id I.loc;have n:=S.free _ h rfl;obtain ⟨u,ru,lk⟩:=hl j y v a1 a3 (by
     rcases n with z|z
     ·exact .inr (.inl z)
     ·exact .inr (.inr z))
    refine⟨u,ru,?_⟩;rcases lk with⟨z,_⟩|⟨_,c,e1,z⟩
    ·rcases n with y'|y'
     ·have y':X.env.kindOf y=some .cell:=y';rw[z] at y';cases y'
     ·have y':X.env.kindOf y=some .free:=y';rw[z] at y';cases y'
    ·obtain⟨c',e2⟩:=qFK (env:=X.env) (names:=a.names) (acc:=[]) (x:=y) (.inl h);have e3:=k _ _ e2;rw[e1] at e3;cases e3;obtain⟨o,w,t⟩:=z;exact .inr ⟨.inr l,c,e2,o,r _ _ w,t⟩
 ·obtain⟨v,o,w,t⟩:=I.cell y c (k _ _ e);exact⟨v,o,r _ _ w,t⟩
 ·unfold qHT;show _=(p::fv.map λi=>X.N.getD i R6).length;simp
theorem qYB {c:B95}{body:Expr}{a:Scope}{p:Str}{fv:List Nat}{q:Str}{A:Around}{f d:Addr}{n u:Value}{x:V}{te:TE}{Q:VK}(k:Room 0 A)(I:Inv X Ab σ H s)(S:LmScope X a p fv)(hA:A.frames=some X.stack)
  (hf:s.heap.get? f=some (lamO X q c body a d n)) (t:H d=some (.tbl (.cod q))) (hx:RelV x u)
  (g:∀(cl:List (Str×Addr)) (pm cd ct u:Value),C20 (Y8 "<lambda>" q c body a cl pm cd ct) ⟨[u],[]⟩=pure [(p,u)])
  (he:∀z,PE (lmCx X a p fv q z) body te) (h:te (qHT fv σ x) H Q):
  B97 (model X.prog X.w) A (.call (.ref f) ⟨[u],[]⟩) (λr s'=>∃v y H',r=.ok (.ret v)/\Inv X Ab σ H' s'/\RelV y v/\Q y H'/\Un (frs X.stack) [] H H' s.heap s'.heap) s:=by
 have i:s.heap.CodeRec (.ref d) q:=(show ObjOk X.prog X.w H s.heap d (.tbl (.cod q)) from I.hok d _ t);refine PySem.W.kla_callFunE k.depth hf rfl S.co S.gen rfl i ?_;rw[g];refine B63 (wpAny_newFunctionEnv S.nocell (λy hy=>?_) (λh₁ l j=>⟨I.nolimit.fresh _ j,?_⟩) S.kind)
 ·rw[A6.mp hy];exact S.par
 have m:∀b o,s.heap.get? b=some o->h₁.get? b=some o:=λb o e=>j.extBut b o (C6 (B7 e)) (A5 _ e);refine PySem.W.kla_codeExpr ?_;have J:=qY6 (q:=q) (f:=f) (cd:=.ref d) (tk:=s.toks+[(p,u)].length) k I S hA hx l m;refine B76 ((he ⟨A,f,.ref d,s,H,k⟩) [] _ _ H Q J h) (λv s' ⟨y,H',J',ry,qy⟩=>?_) λ_ _ z=>z.elim;exact⟨v,y,H',rfl,I.call' (ch:=[]) J'.os J'.base J'.hok J'.bare (λb hb=>absurd hb (by simp)),ry,qy,J'.base⟩
end
abbrev Sm0 (H H':Hp):Prop:=∀b o,H b=some o->H' b=some o
section
variable{X:Cx}
noncomputable def LamF (X:Cx)(q:Str)(params:B95)(body:Expr)(scope:Scope)(cc:Addr)(ctv:Value)(f:Addr):HO:=.ext λh=>h.get? f=some (lamO X q params body scope cc ctv)
def tLam (X:Cx)(P:Addr)(q:Str)(params:B95)(body:Expr)(scope:Scope):TE:=λσ H Q=>H P=some (.tbl (.tab q))/\
 ∀f cc ctv H',Sm0 H H'->H f=none->H' f=some (LamF X q params body scope cc ctv f)->H' cc=some (.tbl (.cod q))->Q (.ref f) H'
theorem qcN {a:B95} {body:Expr} {d:Scope} {pos:Pos} {c P:Addr} {q:Str} {p:Str} {fv:List Nat} (hb:BM X.mg X.base) (i:X.env.code=.ref c) (C:PySem.W.CodeHd X.base c P) (hq:X.env.qual ++ "<lambda>" = q)
  (S:LmScope X d p fv) (j:defaultsOf a X.env=([],[])):PE X (.Lambda a body d pos) (tLam X P q a body d):=by
 intro Ab s σ H Q I ⟨hP,h⟩;refine qdD I hb i C hP hq (S.fr I) j λf u l s' H' I' sm m w g y=>?_;have n:H f=none:=I.hok.fresh g;have t:u≠f:=qA6 m y
 -- f is tracked from now on
 have hF:X.s₀.heap.objs.size<=f:=F5 I.sz g;have I2:Inv X Ab σ (Ag H' f (LamF X q a body d u l f)) s':=by
  refine I'.track y hF (V9 (E3 I.lt g)) (λx c e z=>?_) (λp hp z=>?_) ⟨w,⟨_,w⟩,λh1 h2 x k=>k _ x⟩
  ·obtain⟨v,hc⟩:=I.cell x c e;exact absurd (E3 hc.lt (by rw[z];exact g)) (R9 _)
  ·exact absurd (E3 (B7 (I.pin p hp).1) (by rw[z];exact g)) (R9 _)
 refine⟨.ref f,_,I2,rfl,h f u l _ (λb o e=>?_) n qA1 (by rw[qA9 t];exact m)⟩
 rw[qA9 (qA6 e n)];exact sm b o e
noncomputable def qF3 {α:Type}:α×List Int->List (α×List Int)->α
 |b,[]=>b.1
 |b,x::r=>if HT.lexLt x.2 b.2=true then qF3 x r else qF3 b r
structure KCmp (X:Cx)(KR:Hp->V->List Int->Prop):Prop where
 mono:∀H H' y k,Sm0 H H'->KR H y k->KR H' y k
 cmp:∀(Ab:List (Addr×Obj)) (σ:St) (s:Shared) (H:Hp) (y y':V) (u u':Value) (k k':List Int) (Q:Value->Shared->Prop) (E:Value->Shared->Prop),Inv X Ab σ H s->RelV y u->RelV y' u'->KR H y k->KR H y' k'->Q (.bool (HT.lexLt k k')) s->
  wpAny (model X.prog X.w) X.A.in1 (richCompare .Lt u u') Q E s
theorem Inv.fpStk {Ab:List (Addr×Obj)}{σ:St}{H:Hp}{s:Shared}{b:Addr}(I:Inv X Ab σ H s)(f:FpOk X Ab H b):b∉frs X.stack:=λz=>by
 rcases B6.mp (I.stkSub b z) with e|e
 ·exact f.2.1 e
 ·exact f.2.2.1 e
theorem FpOk.to {Ab:List (Addr×Obj)}{H H':Hp}{b:Addr}(f:FpOk X Ab H b)(h:H' b=none):FpOk X Ab H' b:=⟨h,f.2⟩
structure KeyAt (X:Cx)(σ:St)(fv:List Nat)(te:TE)(KR:Hp->V->List Int->Prop)(H0:Hp)(xs:List V)(ks:List (List Int)):Prop where
 len:ks.length=xs.length
 key:∀(i:Nat) (x:V) (k:List Int),xs[i]?=some x->ks[i]?=some k->∀Hc,Sm0 H0 Hc->te (qHT fv σ x) Hc λy H'=>Sm0 Hc H'/\KR H' y k
section
variable{Ab:List (Addr×Obj)}{σ:St}{params:B95}{body:Expr}{scope:Scope}{p:Str}{fv:List Nat}{q:Str}{te:TE}{KR:Hp->V->List Int->Prop}{l f cc:Addr}{ctv:Value}{H0:Hp}{xs:List V}{ks:List (List Int)}{Q:VK}
theorem qVF {s:Shared} {H:Hp} {b S:Addr} {i:Nat} {x:V} {k:List Int} {u:Value} (rm:Room 1 X.A) (hA:X.A.in1.frames=some X.stack) (S':LmScope X scope p fv) (a:∀(cl:List (Str×Addr)) (pm cd ct u:Value),C20 (Y8 "<lambda>" q params body scope cl pm cd ct) ⟨[u],[]⟩=pure [(p,u)])
  (he:∀z,PE (lmCx X scope p fv q z) body te) (KA:KeyAt X σ fv te KR H0 xs ks) (hf:H0 f=some (LamF X q params body scope cc ctv f)) (l:H0 cc=some (.tbl (.cod q)))
  (I:Inv X Ab σ H s) (m:Sm0 H0 H) (t:xs[i]?=some x) (hk:ks[i]?=some k) (rx:RelV x u) (c:FpOk X Ab H b) (g:FpOk X Ab H S) {j d:Obj} (o:s.heap.get? b=some j) (n:s.heap.get? S=some d) {Q':Value->Shared->Prop} {E:Value->Shared->Prop}
  (h:∀v y H' s',Inv X Ab σ H' s'->Sm0 H H'->RelV y v->KR H' y k->FpOk X Ab H' b->FpOk X Ab H' S->s'.heap.get? b=some j->s'.heap.get? S=some d->Q' v s'):wpAny (model X.prog X.w) X.A.in1 (call (.ref f) [u]) Q' E s:=by
 have gf:s.heap.get? f=some (lamO X q params body scope cc ctv):=(show ObjOk X.prog X.w H s.heap f (LamF X q params body scope cc ctv f) from I.hok f _ (m _ _ hf)).1;refine wpAny_call (B94 (qYB rm.in1 I S' hA gf (m _ _ l) rx a he (KA.key i x k t hk H m)) λr s' ⟨v,y,H',e,I',ry,⟨sm',kr⟩,un⟩=>?_);subst e;exact h v y H' s' I' sm' ry kr (c.to (un.free b j o c.1 (by simp))) (g.to (un.free S d n g.1 (by simp))) (un.keep b j o c.1 (I.fpStk c) (by simp)) (un.keep S d n g.1 (I.fpStk g) (by simp))
theorem qT0 {it S:Addr} {kw:List (Str×Value)} (hc:X.calm=true) (rm:Room 1 X.A) (hA:X.A.in1.frames=some X.stack) (S':LmScope X scope p fv) (a3:∀(cl:List (Str×Addr)) (pm cd ct u:Value),C20 (Y8 "<lambda>" q params body scope cl pm cd ct) ⟨[u],[]⟩=pure [(p,u)])
  (he:∀z,PE (lmCx X scope p fv q z) body te) (KC:KCmp X KR) (KA:KeyAt X σ fv te KR H0 xs ks) (hf:H0 f=some (LamF X q params body scope cc ctv f)) (ah:H0 cc=some (.tbl (.cod q))) (hl:SqL X.K H0 l xs) (t:it≠S)
  (i:∀H',Sm0 H0 H'->SqL X.K H' l xs):
  ∀(k j:Nat) (s:Shared) (H:Hp) (bx y:V) (bk:List Int) (bu bv:Value) (c:Nat),xs.length-j=k->j<=xs.length->Inv X Ab σ H s->Sm0 H0 H->FpOk X Ab H it->FpOk X Ab H S->s.heap.IsListIter it l j->
   s.heap.get? S=some {cls:=.type "list",dict:=none,data:=.seq #[bu,bv] c,slots:=#[]}->RelV bx bu->RelV y bv->KR H y bk->(∀H',Sm0 H0 H'->Q (qF3 (bx,bk) ((xs.zip ks).drop j)) H')->
   B97 (model X.prog X.w) X.A (.builtin "min.loop" ⟨[.ref it,.ref f,.ref S],kw⟩) (λr s'=>∃v,r=.ok (.ret v)/\EP X Ab σ Q v s') s:=by
 have h:(toString "min" ++ toString ".loop" : String) = "min.loop":=by decide
 intro k
 induction k with
 |zero=>
  intro j s H bx y bk bu bv c hk hj I sm g fS a0 hS rb ry kb n;obtain⟨ac,rv,pl,hz⟩:=I.list (i H sm);have ai:=rv.length;refine B73 f9 ?_;rw[F4 O7 _];show wpAny _ X.A.in1 (seqItems? (.ref S) >>= _) _ _ s;refine B62 (B93 hS rfl ?_);show wpAny _ X.A.in1 (tryCatch (pyNext (.ref it)) _ >>= _) _ _ s;refine B62 (B84 (C34 (rm.in1.hd) a0 pl.isList (by simp;lia) λh' eb=>?_))
  have I1:Inv X Ab σ H {s with heap:=h'}:=I.turned (t':=s.toks) (λb o m e=>eb b o m e) g.1 g.2.1 g.2.2.2.1 g.2.2.2.2.1 g.2.2.2.2.2;have af:=eb S _ (J8 t) hS;show wpAny _ X.A.in1 (updateSeq S (λ_=>#[]) >>= _) _ _ _;refine B62 (C07 af rfl (B62 (C09 (B63 ?_))));have I2:Inv X Ab σ H {s with heap:=h'.update S (Q1 λ_=>(#[]:Array Value))}:=I1.turned (t':=s.toks) (λb o m e=>(E2 _ _ (J8 m)).trans e) fS.1 fS.2.1 fS.2.2.2.1 fS.2.2.2.2.1 fS.2.2.2.2.2;have hq:=n H sm;rw[d9 (by rw[A43,KA.len];lia)] at hq
  exact⟨_,rfl,bx,H,I2,rb,hq⟩
 |succ k ih=>
  intro j s H bx y bk bu bv c hk hj I sm g fS a0 hS rb ry kb n;have d:j<xs.length:=by lia
  obtain⟨ac,rv,pl,hz⟩:=I.list (i H sm);have a1:=A4 d;have a7:=A4 (show j<ks.length by rw[KA.len];exact d)
  have ez:(xs.zip ks).drop j=(xs[j],ks[j]'(by rw[KA.len];exact d))::(xs.zip ks).drop (j+1):=by
   rw[G3 (by rw[A43,KA.len];lia),List.getElem_zip]
  rw[ez] at n;generalize xs[j]=x at a1 n;generalize ks[j]'(by rw[KA.len];exact d)=kx at a7 n
  obtain⟨u,hu,ru⟩:=rv.get a1;refine B73 f9 ?_;rw[F4 O7 _];show wpAny _ X.A.in1 (seqItems? (.ref S) >>= _) _ _ s;refine B62 (B93 hS rfl ?_);show wpAny _ X.A.in1 (tryCatch (pyNext (.ref it)) _ >>= _) _ _ s;refine B62 (B84 (C26 a0 pl.isList (x:=u) (by simpa using hu) λh' ad sb=>?_))
  have I1:Inv X Ab σ H {s with heap:=h'}:=I.turned (t':=s.toks) (λb o m e=>(sb.2 b m).trans e) g.1 g.2.1 g.2.2.2.1 g.2.2.2.2.1 g.2.2.2.2.2;have ag:=(sb.2 S (J8 t)).trans hS;obtain⟨oi,ae,a9,a8⟩:=id ad;show wpAny _ X.A.in1 (tryCatch (C02 [u] (call (.ref f) [u])) _ >>= _) _ _ _;refine B62 (B84 (B72 (qVF rm hA S' a3 he KA hf ah I1 sm a1 a7 ru g fS ae ag λv y2 H2 s2 I2 a4 r2 k2 aa a a5 a2=>?_)));have a6:s2.heap.IsListIter it l (j+1):=⟨oi,a5,a9,a8⟩;show wpAny _ X.A.in1 (tryCatch (C02 [u,v] (richCompare .Lt v bv >>= _)) _ >>= _) _ _ _;refine B62 (B84 (B72 (B62 (KC.cmp Ab σ s2 H2 y2 y v bv kx bk _ _ I2 r2 ry k2 (KC.mono _ _ _ _ a4 kb) ?_))));refine B62 (B72 (B81 (B62 (C09 (B63 ?_)))));have ab:Sm0 H0 H2:=λb o e=>a4 b o (sm b o e);cases m:HT.lexLt kx bk with
  |true=>
   rw[if_pos rfl];have et:qF3 (bx,bk) ((x,kx)::(xs.zip ks).drop (j+1))=qF3 (x,kx) ((xs.zip ks).drop (j+1)):=by show(if HT.lexLt kx bk=true then _ else _)=_;rw[m];rfl
   rw[et] at n;refine B62 (C07 a2 rfl (B62 (C09 ?_)));rw[h];have I3:Inv X Ab σ H2 {s2 with heap:=s2.heap.update S (Q1 λ_=>#[u,v])}:=I2.turned (t':=s2.toks) (λb o m e=>(E2 _ _ (J8 m)).trans e) a.1 a.2.1 a.2.2.2.1 a.2.2.2.2.1 a.2.2.2.2.2;exact B63 ⟨B83 O7 _,ih (j+1) _ H2 x y2 kx u v _ (by lia) d I3 ab aa a ⟨oi,(E2 _ _ (J8 t)).trans a5,a9,a8⟩ (G8 _ a2 rfl) ru r2 k2 n⟩
  |false=>
   rw[if_neg B4];have et:qF3 (bx,bk) ((x,kx)::(xs.zip ks).drop (j+1))=qF3 (bx,bk) ((xs.zip ks).drop (j+1)):=by show(if HT.lexLt kx bk=true then _ else _)=_;rw[m];rfl
   rw[et] at n;refine B62 (C09 ?_);rw[h];exact B63 ⟨B83 O7 _,ih (j+1) s2 H2 bx y bk bu bv c (by lia) d I2 ab aa a a6 a2 rb ry (KC.mono _ _ _ _ a4 kb) n⟩
noncomputable def qcJ (dv:Option V):List (V×List Int)->Option V
 |[]=>dv
 |b::r=>some (qF3 b r)
theorem qQ3 {s:Shared} {H:Hp} {kw:List (Str×Value)} (hc:X.calm=true) (rm:Room 1 X.A) (hA:X.A.in1.frames=some X.stack) (S':LmScope X scope p fv) (n:∀(cl:List (Str×Addr)) (pm cd ct u:Value),C20 (Y8 "<lambda>" q params body scope cl pm cd ct) ⟨[u],[]⟩=pure [(p,u)])
  (he:∀z,PE (lmCx X scope p fv q z) body te) (KC:KCmp X KR) (KA:KeyAt X σ fv te KR H xs ks) (hf:H f=some (LamF X q params body scope cc ctv f)) (a3:H cc=some (.tbl (.cod q))) (hl:SqL X.K H l xs)
  (a0:∀H',Sm0 H H'->SqL X.K H' l xs) (I:Inv X Ab σ H s)
  (ok:argsOk "min" ⟨[.ref l],kw⟩) (df:Option Value) (t:T8 "min" ["key","default"] 0 ⟨[],kw⟩=pure [some (.ref f),df]) (dv:Option V) (a7:df=none/\dv=none\/∃d u,df=some u/\dv=some d/\RelV d u)
  (m:V) (em:qcJ dv (xs.zip ks)=some m) (hQ:∀H',Sm0 H H'->Q m H'):wpAny (model X.prog X.w) X.A (call (.builtin "min") [.ref l] kw) (EP X Ab σ Q) X.xe s:=by
 obtain⟨ad,rv,pl,hz⟩:=I.list hl;have y:=pl.isList;have ae:l<s.heap.objs.size:=by obtain⟨_,e,_⟩:=y;exact B7 e
 have j:(toString "min" ++ toString ".loop" : String) = "min.loop":=by decide
 refine qIF PySem.F.kind_min PySem.F.plain_min PySem.F.entry_min ok ?_;show wpAny _ _ (T8 "min" ["key","default"] 0 ⟨[],kw⟩ >>= _) _ _ s;refine B62 (C08 t ?_);refine B62 (B63 ?_);refine B62 (B87 y ?_);refine B62 (B74 ?_);rw[j];refine B63 ⟨_,rfl,B83 O7 _,?_⟩;have hS:(s.heap.push {cls:=.type "list_iterator",data:=.fields #[.ref l,.int 0 0]}).objs.size=s.heap.objs.size+1:=N9 ..;have I0:Inv X Ab σ H {s with heap:=(s.heap.push {cls:=.type "list_iterator",data:=.fields #[.ref l,.int 0 0]}).push {cls:=.type "list",data:=.seq #[]}}:=I.kept (t':=s.toks) λb o e=>A5 _ (A5 _ e);have c:FpOk X Ab H s.heap.objs.size:=I.fpOk (A7 _) (I.hok.fresh (A7 _));have fS:FpOk X Ab H (s.heap.push {cls:=.type "list_iterator",data:=.fields #[.ref l,.int 0 0]}).objs.size:=by rw[hS];exact I.fpOk (Z2 _) (I.hok.fresh (Z2 _))
 have g:s.heap.objs.size≠(s.heap.push {cls:=.type "list_iterator",data:=.fields #[.ref l,.int 0 0]}).objs.size:=by rw[hS];exact(m5 _).symm
 have gi:((s.heap.push {cls:=.type "list_iterator",data:=.fields #[.ref l,.int 0 0]}).push {cls:=.type "list",data:=.seq #[]}).get? s.heap.objs.size=some {cls:=.type "list_iterator",data:=.fields #[.ref l,.int 0 0]}:=A5 _ (B5 _ rfl);have gS:((s.heap.push {cls:=.type "list_iterator",data:=.fields #[.ref l,.int 0 0]}).push {cls:=.type "list",data:=.seq #[]}).get? (s.heap.push {cls:=.type "list_iterator",data:=.fields #[.ref l,.int 0 0]}).objs.size=some {cls:=.type "list",data:=.seq #[]}:=B5 _ rfl;have h:=(y.push {cls:=.type "list_iterator",data:=.fields #[.ref l,.int 0 0]}).push {cls:=.type "list",data:=.seq #[]};generalize (s.heap.push {cls:=.type "list_iterator",data:=.fields #[.ref l,.int 0 0]}).push {cls:=.type "list",data:=.seq #[]}=h0 at I0 gi gS h;generalize (s.heap.push {cls:=.type "list_iterator",data:=.fields #[.ref l,.int 0 0]}).objs.size=S at fS g gS ⊢;generalize s.heap.objs.size=it at c g gi ⊢;refine B73 f9 ?_;rw[F4 O7 _];show wpAny _ X.A.in1 (seqItems? (.ref S) >>= _) _ _ _;refine B62 (B93 gS rfl ?_);show wpAny _ X.A.in1 (tryCatch (pyNext (.ref it)) _ >>= _) _ _ _;have a1:h0.IsListIter it l 0:=⟨_,gi,rfl,rfl⟩;cases xs with
 |nil=>
  have ek:ks=[]:=O3.mp KA.len;subst ek;have r:dv=some m:=em;cases rv;refine B62 (B84 (C34 (s:={s with heap:=h0}) (rm.in1.hd) a1 h (by simp) λh' eb=>?_))
  rcases a7 with⟨_,e2⟩|⟨d,u,rfl,e3,rd⟩
  ·rw[e2] at r;cases r
  ·rw[e3] at r;cases r;show wpAny _ X.A.in1 (rule _ >>= λ_=>ret u) _ _ _;have I1:Inv X Ab σ H {s with heap:=h'}:=I0.turned (t':=s.toks) (λb o t e=>eb b o t e) c.1 c.2.1 c.2.2.2.1 c.2.2.2.2.1 c.2.2.2.2.2;exact B62 (B99 (B63 ⟨u,rfl,_,H,I1,rd,hQ H λ_ _ z=>z⟩))
 |cons x xs=>
  cases ks with
  |nil=>have:=KA.len;simp at this
  |cons k ks=>
   cases em;obtain⟨u,hu,ru⟩:=rv.get (i:=0) rfl;refine B62 (B84 (C26 (s:={s with heap:=h0}) a1 h (x:=u) (by simpa using hu) λh' a5 sb=>?_))
   have I1:Inv X Ab σ H {s with heap:=h'}:=I0.turned (t':=s.toks) (λb o t e=>(sb.2 b t).trans e) c.1 c.2.1 c.2.2.2.1 c.2.2.2.2.1 c.2.2.2.2.2;have aa:=(sb.2 S (J8 g)).trans gS;obtain⟨oi,a6,a9,a8⟩:=id a5;show wpAny _ X.A.in1 (tryCatch (C02 [u] (call (.ref f) [u])) _ >>= _) _ _ _;refine B62 (B84 (B72 (qVF rm hA S' n he KA hf a3 I1 (λ_ _ z=>z) (i:=0) rfl rfl ru c fS a6 aa λv y2 H2 s2 I2 ac r2 k2 ab a a4 a2=>?_)));show wpAny _ X.A.in1 (updateSeq S (λ_=>#[u,v]) >>= _) _ _ _;refine B62 (C07 a2 rfl ?_);rw[j];have I3:Inv X Ab σ H2 {s2 with heap:=s2.heap.update S (Q1 λ_=>#[u,v])}:=I2.turned (t':=s2.toks) (λb o t e=>(E2 _ _ (J8 t)).trans e) a.1 a.2.1 a.2.2.2.1 a.2.2.2.2.1 a.2.2.2.2.2;exact B63 ⟨B83 O7 _,qT0 hc rm hA S' n he KC KA hf a3 hl g a0 _ 1 _ H2 x y2 k u v _ rfl (by simp) I3 ac ab a ⟨oi,(E2 _ _ (J8 g)).trans a4,a9,a8⟩ (G8 _ a2 rfl) ru r2 k2 hQ⟩
end
end
noncomputable def hdIn (K:PySem.W.Frag)(c P:Addr):Bool:=match K.lookup c with
 |some ⟨.type n,_,.fields vs,_⟩=>decide (n = "code")&&decide (c≠P)&&(match(vs[11]?:Option Value),vs.getD 11 .none with|some (.ref a),.ref b=>decide (a=P)&&decide (b=P)|_,_=>false) &&
   (match vs.getD 18 .none,vs.getD 7 .none,vs.getD 9 .none,vs.getD 10 .none with|.str _ _,.int _ _,.bool _,.int _ _=>true|_,_,_,_=>false)
 |_=>false
theorem qWK {K:PySem.W.Frag}{h:Heap}{c P:Addr}(X:K.In h)(d:hdIn K c P=true):PySem.W.CodeHd h c P:=by
 unfold hdIn at d
 split at d
 ·rename_i n dd vs sl hl
  rw[P2,P2,P2] at d;obtain⟨⟨⟨i,j⟩,e⟩,g⟩:=d
  split at e
  ·rename_i a b e1 e2
   rw[P2,decide_eq_true_eq,decide_eq_true_eq] at e;obtain⟨rfl,rfl⟩:=e
   split at g
   ·rename_i f t fl tg inF text tt g1 g2 g3 g4
    exact⟨_,vs,_,_,_,_,_,_,_,X _ _ hl,by rw[of_decide_eq_true i],rfl,e1,e2,g1,g2,g3,g4,of_decide_eq_true j⟩
   ·cases g
  ·cases e
 ·cases d
section
variable{X:Cx}
end
theorem Fun.okL {P:B66}{w:World}{K:PySem.W.Frag}{mg:Str->Option Value}{base:Heap}{x a:Str}{st:Stmt}{f:Addr}{l:B85}{N ps:List Str}{k:Nat}{sp:Sp}{c:Addr}(F:Fun K x a st f l)(v:l.code=.ref c)(S:FnScope N ps (qAA st))(j:∀vs H Q E,sp vs H Q E->vs.length=ps.length)
  (b:∀ (A:Around) (outer:List Env) (s:Shared) (H:Hp) (vs:List V) (Q:VK) (E:XK),Room k (A.deeper (envOfC a (qAA st) s.heap.objs.size f (.ref c)))->sp vs H Q E->
   ∃t,PSs (cxOf CX0 P w K mg base N a (qAA st) f (.ref c) A outer s H E).nox (qAV st) t/\t {nx:=λ_ H'=>Q .non H',rt:=Q} (start N vs) H):FnOk P w K mg base CX0 (k+1) f l ps sp:=by
 obtain⟨oc,od,z,n,pm,an,d,ct,r,rfl,u,m⟩:=F.ex;have e:d=.ref c:=v;subst e;refine qdC u m S j λA outer s H vs Q E o g=>?_;obtain⟨t,h,q⟩:=b A outer s H vs Q E o g;exact⟨t,h.nox,q⟩
noncomputable def qV7 (scope:Scope)(p:Str)(fv:List Nat)(osc:Scope)(N:List Str):Bool:=
 decide (scope.kind=.function)&&decide (scope.isCoroutine=false)&&decide (scope.isGenerator=false)&&scope.names.all (λy=>decide (y.2≠.cell))&&decide (scope.names.lookup p=some .local) &&
 scope.names.all (λy=>decide (y.2≠.free)||(decide (osc.names.lookup y.1=some .cell)||decide (osc.names.lookup y.1=some .free)))&&fv.all λi=>decide (i<N.length)&&decide (scope.names.lookup (N.getD i R6)=some .free)
theorem lms {X:Cx}{a:Scope}{p:Str}{fv:List Nat}(h:qV7 a p fv X.env.scope X.N=true):LmScope X a p fv:=by
 unfold qV7 at h;simp only[P2,decide_eq_true_eq,J3,T6] at h;obtain⟨⟨⟨⟨⟨⟨i,k⟩,f⟩,c⟩,j⟩,g⟩,d⟩:=h;refine⟨i,k,f,c,j,λy b e=>?_,d⟩;rcases g y b with z|z
 ·exact absurd e z
 ·exact z
structure LTab where
 x:Str
 c:Addr
 P:Addr
 q:Str
def qdI (tabs:List LTab)(H:Hp):Prop:=∀t∈tabs,H t.P=some (.tbl (.tab t.q))
noncomputable def entH (a:Addr)(o:Obj)(xs:List V)(ina:Bool)(tabs:List LTab):Hp:=λb=>if ina=true/\b=a then some (.frz o (.lst xs)) else(tabs.find? λt=>decide (t.P=b)).map λt=>.tbl (.tab t.q)
theorem qVB {P:B66}{w:World}{K:PySem.W.Frag}{mg mb:Str->Option Value}{k:Nat}{fa a:Addr}{fd:B85}{x:Str}{sp:Sp}{g:Shared}{vs:List Value}{ns:List Int}(f:List LTab)
  (KX:K.In g.heap) (aa:g.heap.Ns B75 mg) (hb:g.heap.Ns C36 mb) (ai:∀x:Str,x ≠ "__name__"->mb x=B70 x) (ag:g.heap.NoLimit) (hg:g.gens=#[])
  (ha:g.heap.get? a=some {cls:=.type "list",data:=.seq vs.toArray}) (hi:B71 vs ns) (hl:ns.length<=B64) (hr:Room k callerA) (ak:BM mg g.heap)
  (l:∀t∈f,PySem.W.CodeHd g.heap t.c t.P/\g.heap.get? t.P=some (B33 #[])) (hK:A62 K=true) (ad:∀t∈f,∀t'∈f,t.P=t'.P->t.q=t'.q)
  (F:∀base:Heap,K.In base->base.Ns B75 mg->BM mg base->FnOk P w K mg base CX0 k fa fd [x] sp) (a8:∀(s:Shared) (u:Value),BindsTo s fd ⟨[u],[]⟩ [(x,u)])
  (aj:∀H:Hp,qdI f H->SqL K H a (ns.map V.int)->sp [.ref a] H (λv _=>v=.bl true) λ_ _ _=>False):
  B97 (model P w) callerA (.call (.ref fa) ⟨[.ref a],[]⟩) (λr s'=>r=.ok (.ret (.bool true))/\OldK g.heap s'.heap/\s'.os=g.os/\AllBare s'.gens) g:=by
 have rv:=qJA hi;have af:=hi.length;have am:∀t∈f,t.P≠a:=λt i z=>by
  have:=(l t i).2;rw[z,ha] at this;cases this
 have ah:∀t∈f,K.lookup t.P=none:=λt i=>by
  cases e:K.lookup t.P with
  |none=>rfl
  |some o=>
   have y:=KX _ _ e;rw[(l t i).2] at y;cases y;have h2:=J3.mp hK _ (PySem.W.mem_of_lookupK e);exact absurd (show false=true from h2) B4
 obtain⟨a1,a5⟩:∃a1:Bool,(a1=true↔K.lookup a=none):=by
  cases e:K.lookup a with
  |none=>exact⟨true,by simp⟩
  |some o=>exact⟨false,by simp⟩
 -- the heap's description
 let o0:Obj:={cls:=.type "list",data:=.seq vs.toArray}
 have a0:∀b u,entH a o0 (ns.map V.int) a1 f b=some u->(a1=true/\b=a/\u=.frz o0 (.lst (ns.map V.int)))\/∃t∈f,t.P=b/\u=.tbl (.tab t.q):=λb u e=>by
  unfold entH at e
  split at e
  ·rename_i c
   cases e;exact .inl ⟨c.1,c.2,rfl⟩
  ·cases y:f.find? (λt=>decide (t.P=b)) with
   |none=>rw[y] at e;cases e
   |some t=>
    rw[y] at e;cases e;exact .inr ⟨t,Y7 y,of_decide_eq_true (A42 (p:=λt:LTab=>decide (t.P=b)) y),rfl⟩
 have a7:∀t∈f,entH a o0 (ns.map V.int) a1 f t.P=some (.tbl (.tab t.q)):=λt i=>by
  unfold entH;rw[if_neg λz=>am t i z.2];cases y:f.find? (λt'=>decide (t'.P=t.P)) with
  |none=>exact absurd (decide_eq_true (rfl:t.P=t.P)) (A78.mp y t i)
  |some t'=>
   have h1:=Y7 y;have h2:t'.P=t.P:=of_decide_eq_true (A42 (p:=λt':LTab=>decide (t'.P=t.P)) y);rw[T4,ad t' h1 t i h2]
 generalize hH:entH a o0 (ns.map V.int) a1 f=H at a0 a7;have hS:SqL K H a (ns.map V.int):=by
  cases e:K.lookup a with
  |none=>
   refine .inl (.inr ⟨o0,?_⟩);rw[<- hH];unfold entH;rw[if_pos ⟨a5.mpr e,rfl⟩]
  |some o=>
   have y:=KX a o e;rw[ha] at y;cases y;exact .inr ⟨_,vs.toArray,_,e,rfl,rfl,rfl,by rw[C0,af];exact hl,by simpa using rv⟩
 have ae:HOk P w H g.heap:=λb u e=>by
  rcases a0 b u e with⟨_,rfl,rfl⟩|⟨t,i,rfl,rfl⟩
  ·exact⟨ha,by rw[A0];exact hl,vs,_,rv,ha⟩
  ·exact⟨#[],(l t i).2,trivial,λan cv z=>by cases z⟩
 have j:∀{b:Addr} {o:Obj},g.heap.get? b=some o->H b=none->(hidT g.heap H).get? b=some o:=λe n=>qYH e n;have a9:∀{b:Addr} {o:Obj},g.heap.get? b=some o->(∀xs n,o.data≠.seq xs n)->(∀ps,o.data≠.fields ps)->H b=none:=λ{b o} e d1 d2=>by
  cases q:H b with
  |none=>rfl
  |some u=>
   rcases a0 b u q with⟨_,rfl,_⟩|⟨t,i,rfl,_⟩
   ·rw[ha] at e;cases e;exact absurd rfl (d1 _ _)
   ·rw[(l t i).2] at e;cases e;exact absurd rfl (d2 _)
 have a2:∀{b:Addr} {m:Str->Option Value},g.heap.Ns b m->(hidT g.heap H).Ns b m:=λ{b m} ⟨o,es,ep,e,d,r⟩=>⟨o,es,ep,j e (a9 e (λ_ _ z=>by rw[d] at z;cases z) λ_ z=>by rw[d] at z;cases z),d,r⟩
 have ac:K.In (hidT g.heap H):=fun b o e=>j (KX b o e) (by
  cases q:H b with
  |none=>rfl
  |some u=>
   rcases a0 b u q with⟨h1,rfl,_⟩|⟨t,i,rfl,_⟩
   ·rw[a5.mp h1] at e;cases e
   ·rw[ah t i] at e;cases e)
 have al:BM mg (hidT g.heap H):=by
  obtain⟨bm,ob,b1,b2,b3,b4,b5,b6⟩:=ak;exact⟨bm,ob,b1,b2,j b3 (a9 b3 (λ_ _ z=>by rw[b6] at z;cases z) λ_ z=>by rw[b6] at z;cases z),b4,b5,b6⟩
 have hM:Mod K mg (hidT g.heap H):=⟨ac,a2 aa,⟨mb,a2 hb,ai⟩,let⟨mc,h1,h2⟩:=ag;⟨mc,a2 h1,h2⟩⟩
 have e0:Env0 P w K mg (hidT g.heap H) callerA [] g H:=⟨rfl,hM,λb o e=>qaK e,Nat.le_of_eq (qVP _ _),trivial,λb hb=>absurd (show b∈([]:List Addr) from hb) (by simp),ae,.of_eq hg⟩
 refine B94 ((F _ ac (a2 aa) al).run callerA [] g H ⟨[.ref a],[]⟩ [.ref a] [.ref a] _ _ hr e0 (a8 g (.ref a)) (.cons rfl .nil) (aj H a7 hS)) λr s' h=>?_;cases r with
 |error e=>exact W8 h
 |ok fl=>
  cases fl with
  |next=>exact W8 h
  |brk=>exact W8 h
  |cont=>exact W8 h
  |ret u=>
   obtain⟨v,H',os,ab,un,a6,r',q⟩:=h;have q':v=.bl true:=q;subst q';obtain rfl:u=p7 true:=r';have a3:∀b o,g.heap.get? b=some o->s'.heap.get? b=some o\/∃t∈f,t.P=b:=λb o e=>by
    cases q:H b with
    |none=>exact .inl (un.keep b o e q (by intro z;exact absurd (show b∈([]:List Addr) from z) (by simp)) (by simp))
    |some u=>
     rcases a0 b u q with⟨_,rfl,rfl⟩|⟨t,i,e1,_⟩
     ·have z2:=un.frzs b o0 _ q;obtain⟨e1,_⟩:=ae b _ q;obtain⟨y,_⟩:=a6 b _ z2;rw[e] at e1;cases e1;exact .inl y
     ·exact .inr ⟨t,i,e1⟩
   have a4:∀t∈f,∃more,s'.heap.get? t.P=some (B33 more):=λt i=>by
    obtain⟨more,e,_⟩:=(show ObjOk P w H' s'.heap t.P (.tbl (.tab t.q)) from a6 t.P _ (un.tbls t.P _ (a7 t i)));exact⟨more,e⟩
   refine⟨rfl,⟨λb o e=>?_,λb o e=>?_⟩,os,ab⟩
   ·rcases a3 b o e with z|⟨t,i,rfl⟩
    ·exact .inl z
    ·obtain⟨more,em⟩:=a4 t i;have y:=(l t i).2;rw[e] at y;cases y;exact .inr (.inl ⟨((l t i).1.tab (l t i).2).isCodeTable,rfl,#[],more,rfl,by rw[em];simp⟩)
   ·rcases a3 b o e with z|⟨t,i,rfl⟩
    ·exact⟨_,z⟩
    ·obtain⟨more,em⟩:=a4 t i;exact⟨_,em⟩
theorem walk_ofT {l:PySem.W.OpenLaw}{n k:Nat}{q:B66}{m:List Str}{XP:(Str->Option Value)->Heap->Prop}{YP:World->Heap->Prop}{d:DefRec}{K:Params->PySem.W.Frag}{sp:World->Sp}{x:Str}(i:List LTab)
  (hn:l.most=some n) (a5:n<=B64) (a2:d.params.defaults=[]) (hr:Room k callerA)
  (hY:∀(w:World) (h:Heap),YP w h->(K w.params).In h)
  (z:∀t∈i,((recsOf q).find? λe=>e.name==t.x).isSome=true) (r:∀(w:World),∀t∈i,B48 (K w.params) t.x=some (t.c,t.P)) (hK:∀w:World,A62 (K w.params)=true) (a0:∀t∈i,∀t'∈i,t.P=t'.P->t.q=t'.q)
  (F:∀ (w:World) (mg:Str->Option Value) (fa:Addr) (h:Heap),(K w.params).In h->h.Ns B75 mg->mg d.name=some (.ref fa)->
   ∃fd:B85,(∀(s:Shared) (u:Value),BindsTo s fd ⟨[u],[]⟩ [(x,u)])/\
    ∀base:Heap,(K w.params).In base->base.Ns B75 mg->BM mg base->FnOk l.prog w (K w.params) mg base CX0 k fa fd [x] (sp w))
  (a1:∀(w:World) (H:Hp) (a:Addr) (ns:List Int),ns.length<=n->qdI i H->SqL (K w.params) H a (ns.map V.int)->sp w [.ref a] H (λv _=>v=.bl true) λ_ _ _=>False):
  PySem.W.WalkO q m XP YP l.row.toRowW d [] (λf vs=>B37 f vs):=by
 refine Att.attach_call hn a2 λw s₀ s₁ mg mb fa o pm cd a6 a vs ns G Y ho hd a7 a4 y p j hg=>?_;have KX:=hY w _ Y;obtain⟨fd,hb,hF⟩:=F w mg fa _ KX G.T.g a4;refine qVB i KX G.T.g G.T.b G.T.builtins G.T.nolimit hg y p (F5 j a5) hr G.T.bmain (λt ht=>?_) (hK w) a0 hF hb λH hO hS=>a1 w H a ns j hO hS;obtain⟨dd,a3⟩:=Z4.mp (z t ht);exact PySem.W.tab_of G.T KX a3 (r w t ht)
section
variable{prog:B66}{w:World}{A:Around}{E:Value->Shared->Prop}{s:Shared}
end
section
variable{X:Cx}
end
section
open PySem.SeqAt
open PySem.AutoSeq1 (wpAny_loadPart')
open PySem.MeetsSeq PySem.MeetsSeq2 PySem.MeetsSeq3
theorem qQ5:∀ns:List Int,HT.lexLt ns ns=false
 |[]=>rfl
 |x::ns=>by rw[HT.lexLt_cons,if_pos rfl];exact qQ5 ns
theorem qK3:∀{vs:List Value} {ns ms:List Int},B71 vs ns->B71 vs ms->ns=ms
 |_,_,_,.nil,.nil=>rfl
 |_,_,_,.cons a t h,.cons _ _ h'=>by rw[qK3 h h']
theorem qGF:∀{vs:List Value} {ns:List Int},B71 vs ns->∀(j:Nat) (hj:j<vs.length),∃n t,ns[j]?=some n/\vs[j]=.int n t
 |_,_,.cons a t h,0,_=>⟨a,t,rfl,rfl⟩
 |_,_,.cons a t h,j+1,hj=>qGF h j (Nat.lt_of_succ_lt_succ hj)
theorem qW7 {A:Around}{s:Shared}{l b:Addr}{d a:Array Value}{ns f:List Int}(v:IsTup s.heap l d)(w:IsTup s.heap b a)(hi:B71 d.toList ns)(g:B71 a.toList f)(hu:A.units<cLine):EqAt A s (.ref l) (.ref b) (decide (ns=f)):=by
 by_cases e:l=b
 ·subst e;obtain⟨o,y,_,n1,d1⟩:=v;obtain⟨o',x,_,n2,p⟩:=w;rw[y] at x;cases x;rw[d1] at p;cases p;rw[decide_eq_true (qK3 hi g)];exact EqAt.same _
 ·refine EqAt.of_refs e ?_;have z1:d.size=ns.length:=by rw[<- hi.length];simp
  have z2:a.size=f.length:=by rw[<- g.length];simp
  have:=RcAt.tuples (A:=A) (s:=s) (e:=fun j=>decide (ns[j]?=f[j]?)) v w hu (fun j h r=>by
   obtain⟨n,t,e1,k⟩:=qGF hi j (by simpa using h)
   obtain⟨m,u,z,i⟩:=qGF g j (by simpa using r)
   have k:d[j]=.int n t:=by simpa using k
   have i:a[j]=.int m u:=by simpa using i
   rw[e1,z,k,i];have q:=EqAt.int_int (A:=A.in1) (s:=s) n t m u
   rwa[show(n==m)=decide (some n=some m) by simp[BEq.beq]] at q)
  rwa[show((F2 (min d.size a.size)).all (λj=>decide (ns[j]?=f[j]?))&&d.size==a.size)=decide (ns=f) by
   rw[L7,P2,J3,decide_eq_true_eq,beq_iff_eq]
   constructor
   ·rintro⟨h,r⟩;refine A13 λj=>?_;by_cases c:j<ns.length
    ·exact of_decide_eq_true (h j (D9.mpr (by lia)))
    ·rw[J9 (by lia),J9 (by lia)]
   ·rintro rfl;exact⟨λj _=>decide_eq_true rfl,by lia⟩] at this
theorem qM0 (l b x y:Addr)(a c:Int)(t u:Tok)(n n2:Nat)(dd a1:Option Addr)(sl a2:Array (Option Value))(i1 i2:Array Value)(ns ms:List Int)(hi:B71 i1.toList ns)(hj:B71 i2.toList ms):
  Meets (Builtin.«tuple.__lt__» ⟨[.ref l,.ref b],[]⟩)
   (fun A R s=>s.heap.get? l=some { cls:=.type "tuple",dict:=dd,data:=.seq #[.int a t,.ref x] n,slots:=sl }/\s.heap.get? b=some { cls:=.type "tuple",dict:=a1,data:=.seq #[.int c u,.ref y] n2,slots:=a2 }/\
    IsTup s.heap x i1/\IsTup s.heap y i2/\A.units+1<cLine/\R (.ok (.ret (.bool (HT.lexLt (a::ns) (c::ms))))) s):=
 .of_wp λi w A R s h=>by
  obtain⟨k,g,d,m,o⟩:=s;obtain⟨hl,hb,hx,hy,hu,h⟩:=h;have f2:=A04
  wp_walk using C39 hl,C39 hb,wpAny_forIn_list _ (fun f b s'=>b.1=none/\s'=⟨k,g,d,m,o⟩/\((f=[(R5 a t,R5 c u),(E1 x,E1 y)]/\R (.ok (.ret (.bool (HT.lexLt (a::ns) (c::ms))))) ⟨k,g,d,m,o⟩)\/
   (f=[(E1 x,E1 y)]/\R (.ok (.ret (.bool (HT.lexLt ns ms)))) ⟨k,g,d,m,o⟩)\/(f=[]/\R (.ok (.ret (.bool false))) ⟨k,g,d,m,o⟩))) _
  case turn=>
   rintro⟨p,q⟩ f b s' ⟨v,rfl,⟨hz,j⟩|⟨hz,j⟩|⟨hz,j⟩⟩
   ·cases hz;rw[HT.lexLt_cons] at j;obtain⟨e,he,r⟩:=HT.eqAt_int A.in1 ⟨k,g,d,m,o⟩ a t c u;refine B62 (he i w _ _ ?_);cases e with
    |true=>
     rw[if_pos (r.mp rfl)] at j
     wp_walk
     exact⟨rfl,rfl,.inr (.inl ⟨rfl,j⟩)⟩
    |false=>
     rw[if_neg (λq=>absurd (r.mpr q) B4)] at j;have a0:=HT.rcLt_int A.in1 ⟨k,g,d,m,o⟩ a t c u i w
     wp_walk using a0
     exact⟨_,rfl,by simpa using j⟩
   ·cases hz;have he:=qW7 (A:=A.in1) (s:=⟨k,g,d,m,o⟩) hx hy hi hj hu;refine B62 (he i w _ _ ?_);by_cases e:ns=ms
    ·rw[decide_eq_true e];subst e;rw[qQ5] at j
     wp_walk
     exact⟨rfl,rfl,.inr (.inr ⟨rfl,j⟩)⟩
    ·rw[decide_eq_false e];have a0:∀(E:Value->Shared->Prop) (Q:Value->Shared->Prop),Q (.bool (HT.lexLt ns ms)) ⟨k,g,d,m,o⟩->wpAny (model i w) A.in1 (richCompare .Lt (.ref x) (.ref y)) Q E ⟨k,g,d,m,o⟩:=λE Q hq=>HT.lt_tupInts hx hy hi hj hu hq
     wp_walk using a0
     exact⟨_,rfl,by simpa using j⟩
   ·cases hz
  case fin=>
   rintro⟨b1,b2⟩ s' ⟨v,rfl,hh⟩;simp only at v;subst v;have j:R (.ok (.ret (.bool false))) ⟨k,g,d,m,o⟩:=by
    rcases hh with⟨z,_⟩|⟨z,_⟩|⟨_,z⟩
    ·cases z
    ·cases z
    ·exact z
   wp_walk
   exact⟨_,rfl,by simpa[i0] using j⟩
  case h=>
   exact⟨rfl,rfl,.inl ⟨rfl,h⟩⟩
end
def KR2 (H:Hp)(y:V)(k:List Int):Prop:=∃r q a ns,y=.ref r/\k=a::ns/\H r=some (.tup [.int a,.ref q])/\H q=some (.tup (ns.map V.int))
theorem qeK {X:Cx}(hu:X.A.in1.units+1<cLine):KCmp X KR2:=by
 refine⟨λH H' y k sm ⟨r,q,a,ns,e1,e2,g1,g2⟩=>⟨r,q,a,ns,e1,e2,sm _ _ g1,sm _ _ g2⟩,?_⟩;intro Ab σ s H y y' u u' k k' Q E I ry ry' ⟨r,q,a,ns,e1,e2,g1,g2⟩ ⟨r',q',a',ns',e1',e2',g1',g2'⟩ h;subst e1 e2 e1' e2';cases ry;cases ry';obtain⟨a1,r1,p1,_⟩:=I.tuple (SqT.of g1);obtain⟨z,f,i,_⟩:=I.tuple (SqT.of g1');obtain⟨js,r2,p2,_⟩:=I.tuple (SqT.of g2);obtain⟨b,m,p,_⟩:=I.tuple (SqT.of g2');obtain⟨v1,v2,rfl,⟨t,rfl⟩,c2⟩:=Vals.two r1;obtain⟨a3,a2,rfl,⟨t',rfl⟩,o⟩:=Vals.two f;cases c2;cases o;have i1:B71 js.toArray.toList ns:=qFZ r2;have i2:B71 b.toArray.toList ns':=qFZ m;obtain⟨⟨a4,dd,w,sl⟩,ho,hc,n,v⟩:=id p1;obtain⟨⟨a0,j,g,l⟩,d,c,n2,e⟩:=id i;simp only at hc v c e;subst hc v c e;exact richCompare_meets_room (op:=.Lt) ⟨_,ho,rfl⟩ ⟨_,d,rfl⟩ X2 d0 (a9 _ _) (qM0 r r' q q' a a' t t' n n2 dd j sl l js.toArray b.toArray ns ns' i1 i2)
  ⟨ho,d,p2,p,hu,show p7 (HT.lexLt (a::ns) (a'::ns'))≠A51/\Q (.bool (HT.lexLt (a::ns) (a'::ns'))) s from⟨(λx=>nomatch x),h⟩⟩ (by lia)
section
variable{X:Cx}
def qbX (P:Addr)(q:Str)(fv:List Nat)(te:TE)(KR:Hp->V->List Int->Prop)(ta:TA):TE:=λσ H Q=>ta σ H λvs H1=>H1 P=some (.tbl (.tab q))/\
 ∃l xs ks m,vs=[.ref l]/\H1 l=some (.lst xs)/\ks.length=xs.length/\(∀(i:Nat) (x:V) (k:List Int),xs[i]?=some x->ks[i]?=some k->∀Hc,Sm0 H1 Hc->te (qHT fv σ x) Hc λy H'=>Sm0 Hc H'/\KR H' y k)/\
  qcJ (some .non) (xs.zip ks)=some m/\∀H',Sm0 H1 H'->Q m H'
theorem qXV {e:Expr}{ta:TA}{np pos kpos g n r:Pos}{a:B95}{body:Expr}{d:Scope}{c P:Addr}{q:Str}{p:Str}{fv:List Nat}{te:TE}{KR:Hp->V->List Int->Prop}{nn:Nat}
  (rm:Room 1 X.A) (hc:X.calm=true) (hg:Gl X "min") (hm:X.mg "min" = none) (hv:B70 "min" = some (.builtin "min")) (hb:BM X.mg X.base) (w:X.env.code=.ref c) (hd:hdIn X.K c P=true) (hq:X.env.qual ++ "<lambda>" = q)
  (S:LmScope X d p fv) (a0:defaultsOf a X.env=([],[])) (t:∀(cl:List (Str×Addr)) (pm cd ct u:Value),C20 (Y8 "<lambda>" q a body d cl pm cd ct) ⟨[u],[]⟩=pure [(p,u)])
  (KC:KCmp X KR) (ha:PA X [e] ta) (he:∀z,PE (lmCx X d p fv q z) body te) (hn:PE X (.Constant .none nn r) (tC .non)) (hs:B69 [e] X.env=[(false,eval e X.env)]:=by rfl):
  PE X (.Call (.Name "min" np) [e] [⟨some "key",.Lambda a body d n,kpos⟩,⟨some "default",.Constant .none nn r,g⟩] pos) (qbX P q fv te KR ta):=by
 intro Ab s σ H Q I h;refine C21 (qIB I hg hm hv ?_ (by decide) (by decide))
 refine PyProof.Rows.callWith_kw (thn (ha pos Ab s σ H _ I h) λus s1 ⟨vs,H1,I1,r1,q1⟩=>?_) (by rw[hs];rfl) (by rw[hs];rfl)
 obtain⟨hP,l,xs,ks,m,rfl,hl,lk,hk,em,q2⟩:=q1;obtain⟨u,rfl,rx⟩:=qE1 r1;cases rx;have C:=qWK (c:=c) (P:=P) I1.ok.mod.kin hd;have pl:=qcN (X:=X) (pos:=n) (body:=body) hb w C hq S a0;refine thn (qUH (kpos:=kpos) (nm:=some "key") pl (qUH (kpos:=g) (nm:=some "default") hn qcG) pos Ab s1 σ H1 (λzs H2=>∃f cc ctv,zs=[.ref f,.non]/\Sm0 H1 H2/\H2 f=some (LamF X q a body d cc ctv f)/\H2 cc=some (.tbl (.cod q))) I1 ⟨hP,λf cc ctv H' y h0 hf v=>⟨f,cc,ctv,rfl,y,hf,v⟩⟩) λws s2 ⟨zs,H2,I2,rz,f,cc,ctv,ez,y,hf,v⟩=>?_;subst ez;obtain⟨u2,u3,rfl,r2,r3⟩:=Vals.two rz;cases r2;cases r3;have hA:X.A.in1.frames=some X.stack:=I2.ok.frames;exact qQ3 (H:=H2) hc rm hA S t he KC ⟨lk,λi x k hx a1 Hc j=>hk i x k hx a1 Hc λb o e=>j b o (y b o e)⟩ hf v (SqL.of (y _ _ hl)) (λH' j=>SqL.of (j _ _ (y _ _ hl))) I2
  (by unfold argsOk;kernel_rfl) (some .none) rfl (some .non) (.inr ⟨.non,.none,rfl,rfl,rfl⟩) m em λH' j=>q2 H' λb o e=>j b o (y b o e)
end
end L2
namespace L2.G
open PySem PySem.Spec PyProof.Rows
section
variable[NM]
variable{prog:B66}{w:World}{A:Around}{E:Value->Shared->Prop}{s:Shared}
theorem qHP {vs:List Value}:∀p∈(B86 vs).toList,p.1=p.2:=by
 intro p a;unfold B86 at a;rw[B11] at a
 induction vs with
 |nil=>cases a
 |cons v vs ih=>
  rcases B6.mp a with h|h
  ·rw[h]
  ·exact ih h
theorem qO8 (vs:List Value):(B86 vs).toList.map (·.2)=vs:=by
 unfold B86;rw[B11,List.map_snd_zip (by simp)]
theorem qUT {vs:List Value}{xs:Array Keyed}(f:xs.Perm (B86 vs))(g:gSortedTo xs (B86 vs).size):(xs.map (·.2)).toList.Perm vs/\(xs.map (·.2)).toList.Pairwise (λu v=>NM.nm u<=NM.nm v):=by
 have d:=Y0.mp f
 constructor
 ·have:=d.map (·.2);rw[qO8] at this;rw[B12];exact this
 ·rw[B12,J4,F8];intro i j l h c;have n:=f.size_eq;have e:i<xs.size:=by simpa using l
  have b:j<xs.size:=by simpa using h
  have a:=g i j (U5 c) (by lia)
  rw[qb2 e,qb2 b] at a;have k:=qHP _ (d.mem_iff.mp (show xs[i]∈xs.toList by simp))
  have m:=qHP _ (d.mem_iff.mp (show xs[j]∈xs.toList by simp))
  rw[k,m] at a;simpa using a
theorem qR2 {κ0:B98} {a:Addr} {vs:List Value} {n:Nat} {P:Fin->Shared->Prop} (r:s.heap.get? a=some (seqObj "list" vs.toArray n)) (hz:vs.length<=B64) (gd:∀v∈vs,NM.good v)
  (hk:∀h':Heap,(∀(b:Addr) (o:Obj),b≠a->s.heap.get? b=some o->h'.get? b=some o)->2<=vs.length->(∀{Q:B98->Shared->Prop},Q κ0 {s with heap:=h'}->wpAny (model prog w) A (keyKind' vs.toArray) Q E {s with heap:=h'})/\LtOk prog w A {s with heap:=h'} κ0)
  (h:∀(out:Array Value),out.toList.Perm vs->out.toList.Pairwise (λu v=>NM.nm u<=NM.nm v)->P (.done (.ret .none)) {s with heap:=sortedHeap s.heap a vs out}):wpAny (model prog w) A (Builtin.«list.sort» ⟨[.ref a],[]⟩) P E s:=by
 have la:=B7 r;have z0:vs.toArray.size<=B64:=by simpa using hz
 rw[list_sort_plain];refine B62 (listItems_at r rfl (B62 (C15 r rfl ?_ z0 (F3 _))));have t:∃k,(s.heap.update a (Q1 λ_=>#[])).get? a=some (seqObj "list" #[] k):=⟨_,get?_update_seq r λ_=>#[]⟩;obtain⟨k,t⟩:=t;refine B62 (C28 t rfl (B62 (wpAny_newTuple ?_ (by simpa using hz))))
 refine B62 (C32 (B72 ?_));have y:(((s.heap.update a (Q1 λ_=>#[])).push (seqObj "tuple" vs.toArray 0)).push (seqObj "list" #[] 0)).get? a=some (seqObj "list" #[] k):=by
  rw[j7,j7]
  ·exact t
  ·rw[m8];exact C6 la
  ·rw[size_push',m8];exact C6 (L5 la)
 have l:∀(b:Addr) (o:Obj),b≠a->s.heap.get? b=some o->(((s.heap.update a (Q1 λ_=>#[])).push (seqObj "tuple" vs.toArray 0)).push (seqObj "list" #[] 0)).get? b=some o:=λb o hb q=>
  A5 _ (A5 _ ((Heap.get?_update_ne _ _ _ _ hb).trans q))
 have e:∀xs:Array Keyed,xs.Perm (B86 vs)->gSortedTo xs (B86 vs).size->P (.done (.ret .none)) {s with heap:=sortedHeap s.heap a vs (xs.map (·.2))}:=by
  intro xs px sx;obtain⟨q1,q2⟩:=qUT px sx;exact h _ q1 q2
 have sz:∀xs:Array Keyed,xs.Perm (B86 vs)->(xs.map (·.2)).size<=B64+1:=by
  intro xs px;rw[z9,px.size_eq,pairsOf_size]
  lia
 show wpAny _ A _ P E {s with heap:=((s.heap.update a (Q1 λ_=>#[])).push (seqObj "tuple" vs.toArray 0)).push (seqObj "list" #[] 0)};dsimp only;by_cases d:vs.toArray.size<2
 ·simp only[if_pos d];refine B62 (B63 ?_);rw[B20];refine B62 (B63 (B62 (C28 y rfl (B62 (C15 y rfl ?_ (F3 _) (sz (B86 vs) (.refl _)))))));simp only[bne_self_eq_false,G6,if_false];refine B63 (e (B86 vs) (.refl _) λi j a0 hj=>?_);rw[pairsOf_size] at hj;rw[C0] at d;rw[show i=j by lia]
  exact O4 _
 ·simp only[if_neg d];rw[C0] at d;obtain⟨z,a1⟩:=hk _ l (by lia)
  have ik:qC8 (B86 vs):=λp hp=>by
   have m:=Q3 (f:=(·.2)) hp;rw[qO8] at m;rw[qHP p hp];exact gd _ m
  refine B62 (z (B62 (B76 (gwpS_runs (κ0:=κ0) (a₀:=B86 vs) (Q:=λ_ c=>gSG κ0 (B86 vs) c/\gSortedTo (arrOf c) (B86 vs).size) ik ⟨.refl _,rfl,rfl⟩ rfl λc g u=>⟨g,u⟩) ?_ λ_ _ x=>x)));rintro⟨_,c⟩ s2 ⟨es,g,u⟩;cases(show s2=_ from es);refine B62 (C28 y rfl (B62 (C15 y rfl ?_ (F3 _) (sz _ g.perm))));dsimp only;rw[g.failed];simp only[bne_self_eq_false,G6,if_false];exact B63 (e _ g.perm u)
end
theorem qLD:∀a:List Int,HT.lexLt a a=false
 |[]=>rfl
 |x::a=>by rw[HT.lexLt_cons,if_pos rfl];exact qLD a
theorem qJY:∀a b c:List Int,HT.lexLt a b=true->HT.lexLt b c=true->HT.lexLt a c=true
 |[],[],_,h,_=>by cases h
 |[],_::_,[],_,h=>by cases h
 |[],_::_,_::_,_,_=>rfl
 |_::_,[],_,h,_=>by cases h
 |_::_,_::_,[],_,h=>by cases h
 |x::a,y::b,z::c,h1,h2=>by
  rw[HT.lexLt_cons] at h1 h2 ⊢;by_cases e1:x=y
  ·subst e1;rw[if_pos rfl] at h1;by_cases e2:x=z
   ·rw[if_pos e2] at h2 ⊢;exact qJY a b c h1 h2
   ·rw[if_neg e2] at h2 ⊢;exact h2
  ·rw[if_neg e1] at h1;have h1:=of_decide_eq_true h1;by_cases e2:y=z
   ·subst e2;rw[if_neg e1];exact decide_eq_true h1
   ·rw[if_neg e2] at h2;have h2:=of_decide_eq_true h2;rw[if_neg (by lia)]
    exact decide_eq_true (by lia)
theorem qOH:∀a b:List Int,HT.lexLt a b=false->HT.lexLt b a=false->a=b
 |[],[],_,_=>rfl
 |[],_::_,h,_=>by cases h
 |_::_,[],_,h=>by cases h
 |x::a,y::b,h1,h2=>by
  rw[HT.lexLt_cons] at h1 h2;by_cases e:x=y
  ·subst e;rw[if_pos rfl] at h1 h2;rw[qOH a b h1 h2]
  ·rw[if_neg e] at h1;rw[if_neg (λz=>e z.symm)] at h2;have:=of_decide_eq_false h1;have:=of_decide_eq_false h2
   lia
noncomputable def qIP (L:List (List Int))(a:List Int):Int:=(((L.filter λx=>HT.lexLt x a).length:Nat):Int)
theorem qH3 {α:Type}{p q:α->Bool}:∀{L:List α},(∀x∈L,p x=true->q x=true)->(∃x∈L,p x=false/\q x=true)->(L.filter p).length<(L.filter q).length
 |[],_,⟨x,hx,_⟩=>nomatch hx
 |y::L,h,⟨x,hx,h1,h2⟩=>by
  have le:∀{M:List α},(∀x∈M,p x=true->q x=true)->(M.filter p).length<=(M.filter q).length:=by
   intro M hM
   induction M with
   |nil=>exact A7 _
   |cons z M ih=>
    have i:=ih λx hx=>hM x (B3 _ hx);rw[O1,O1];cases ep:p z
    ·cases q z
     ·simpa using i
     ·simp;lia
    ·rw[hM z (by simp) ep]
     simpa using i
  rw[O1,O1];rcases B6.mp hx with e|e
  ·subst e;have:=le λx hx=>h x (B3 _ hx);rw[h1,h2];simp
   lia
  ·have i:=qH3 (λx hx=>h x (B3 _ hx)) ⟨x,e,h1,h2⟩;cases ep:p y
   ·cases q y
    ·simpa using i
    ·simp;lia
   ·rw[h y (by simp) ep]
    simpa using i
theorem qUD {L:List (List Int)}{a b:List Int}(d:a∈L)(h:HT.lexLt a b=true):qIP L a<qIP L b:=by
 unfold qIP;have:=qH3 (p:=λx=>HT.lexLt x a) (q:=λx=>HT.lexLt x b) (L:=L) (λx _ c=>qJY _ _ _ c h) ⟨a,d,qLD a,h⟩
 lia
theorem qR9 {L:List (List Int)}{a b:List Int}(d:a∈L)(c:b∈L):decide (qIP L a<qIP L b)=HT.lexLt a b:=by
 cases h:HT.lexLt a b with
 |true=>exact decide_eq_true (qUD d h)
 |false=>
  refine decide_eq_false λz=>?_;cases h2:HT.lexLt b a with
  |true=>have:=qUD c h2;lia
  |false=>rw[qOH a b h h2] at z;lia
noncomputable def qYE (xs:List V):List Int:=xs.map fun|.int i=>i|_=>0
theorem qVN (t:List Int):qYE (t.map V.int)=t:=by
 unfold qYE;rw[Z8];exact(T9 λx _=>rfl).trans (List.map_id _)
noncomputable def keyH (H:Hp):Value->List Int
 |.ref r=>match H r with
  |some (.tup xs)=>qYE xs
  |_=>[]
 |_=>[]
@[reducible] def tupNM (H:Hp)(L:List (List Int)):NM:=⟨λv=>qIP L (keyH H v),λv=>∃r t,v=.ref r/\H r=some (.tup (t.map V.int))/\t∈L⟩
theorem keyH_at {H:Hp}{r:Addr}{t:List Int}(h:H r=some (.tup (t.map V.int))):keyH H (.ref r)=t:=by
 show(match H r with|some (.tup xs)=>qYE xs|_=>[])=t
 rw[h];exact qVN t
section
variable{prog:B66}{w:World}{A:Around}{E:Value->Shared->Prop}{s:Shared}
theorem qUW {x y:Addr}{xs g:Array Value}{ns c:List Int}{Q:Bool->Shared->Prop}(z:A.units<cLine)(q:IsTup s.heap x xs)(p:IsTup s.heap y g)(ix:B71 xs.toList ns)(t:B71 g.toList c)(h:Q (HT.lexLt ns c) s):wpAny (model prog w) A (oneLt' true (.ref x) (.ref y)) Q E s:=by
 rw[oneLt'_eq];simp only[if_true];obtain⟨⟨a0,v,l,r⟩,e,o,n,k⟩:=id q;obtain⟨⟨m,f,d,i⟩,j,a,u,b⟩:=id p;simp only at o k a b;subst o k a b;refine B62 (wpAny_cRoomFor z ?_);refine B62 (wpAny_callSpecialIfBound?_slot ⟨_,e,rfl⟩ X2 (C40 X2 ⟨_,e,rfl⟩ d0 (a9 _ _) (HT.tuple_lt_ints x y xs g n u v f r i ns c ix t) ⟨e,j,?_⟩));exact B81 h
theorem qK1 {b:Bool}{Q:Bool->Shared->Prop}:∀{vs ws:List Value} {ns ms:List Int} {i:Nat} {fin:Bool},B71 vs ns->B71 ws ms->
  (fin=decide (vs.length<ws.length))->Q (HT.lexLt ns ms) s->PySem.W.KatLex prog w A b fin Q (vs.zip ws) i s
 |_,_,_,_,i,fin,.nil,.nil,ef,h=>by
  rw[ef];exact A44 h
 |_,_,_,_,i,fin,.nil,.cons _ _ _,ef,h=>by
  rw[ef];exact A44 h
 |_,_,_,_,i,fin,.cons _ _ _,.nil,ef,h=>by
  rw[ef];exact A44 h
 |_,_,_,_,i,fin,.cons (vs:=vs) (ns:=ns) x t hv,.cons (vs:=ws) (ns:=ms) y u hw,ef,h=>by
  rw[t8];refine PySem.W.kat_cons (wpAny_eqBool_int ?_);rw[HT.lexLt_cons] at h;by_cases e:x=y
  ·rw[if_pos e] at h;rw[beq_iff_eq.mpr e];refine PySem.W.kat_yes (qK1 hv hw ?_ h);rw[ef];simp
  ·rw[if_neg e] at h;rw[beq_eq_false_iff_ne.mpr e];refine PySem.W.kat_no ?_;cases eb:(b&&i==0) with
   |true=>exact oneLt_int h
   |false=>exact PySem.W.kat_one _ _ (lt_int h)
theorem qT5 {x y:Addr}{xs d:Array Value}{ns e:List Int}{b:Bool}{Q:Bool->Shared->Prop}(i:IsTup s.heap x xs)(f:IsTup s.heap y d)(j:B71 xs.toList ns)(l:B71 d.toList e)(h:Q (HT.lexLt ns e) s):wpAny (model prog w) A (keyLt' (tuples' b) (.ref x) (.ref y)) Q E s:=by
 obtain⟨o,k,r,n,g⟩:=id i;obtain⟨p,a,m,q,c⟩:=id f;refine PySem.W.kat_lt k g a c (qK1 j l ?_ h);simp
theorem qVE {b:List Addr}{ts:List (List Int)}{Q:B98->Shared->Prop}(h:Paired (λ(r:Addr) (t:List Int)=>∃xs:Array Value,IsTup s.heap r xs/\B71 xs.toList t) b ts)(c:∀t∈ts,t≠[])(y:2<=b.length)
  (q:Q (tuples' true) s):wpAny (model prog w) A (keyKind' (b.map E1).toArray) Q E s:=by
 have u:∃fs,PySem.W.KatTups s.heap (b.map E1) fs/\fs.length=b.length/\∀v∈fs,∃n t,v=.int n t:=by
  clear y
  induction h with
  |nil=>exact⟨[],trivial,rfl,λ_ z=>nomatch z⟩
  |@cons r t l1 l2 a _ ih=>
   obtain⟨fs,f,j,i⟩:=ih λt d=>c t (B3 _ d);obtain⟨xs,⟨o,m,p,n,k⟩,l⟩:=a;have d:t≠[]:=c t (by simp)
   obtain⟨xs⟩:=xs;cases l with
   |nil=>exact absurd rfl d
   |cons x tk rest=>
    refine⟨.int x tk::fs,.cons m p k rfl f,by simp[j],λv g=>?_⟩
    rcases B6.mp g with e|e
    ·exact⟨x,tk,e⟩
    ·exact i v e
 obtain⟨fs,f,j,i⟩:=u;refine PySem.W.kat_kind (T:=.type "int") f (by lia) (λv g=>?_) rfl ?_
 ·obtain⟨n,t,rfl⟩:=i v g;exact .now
 ·exact q
theorem qLN:∀(rs:List Addr) {Q:List (Option Value)->Shared->Prop},(∀r∈rs,∃xs:Array Value,IsTup s.heap r xs)->(∀L,Q L s)->wpAny (model prog w) A ((rs.map E1).mapM firstOfTuple') Q E s
 |[],_,_,h=>by rw[t9,List.mapM_nil];exact B63 (h _)
 |r::rs,Q,t,h=>by
  obtain⟨xs,o,ho,hc,n,hd⟩:=t r (by simp)
  rw[C7,B34];refine B62 ?_;rw[A56];refine B62 (w6 (show PySem.W.Looks (model prog w) s.heap (typeOf (.ref r)) o.cls from(A27 ho).andThen .now) ?_);rw[hc,if_neg (by first|decide|simp)]
  refine B62 (listItems_at ho hd (B63 ?_));exact B62 (qLN rs (Q:=λbs s'=>wpAny (model prog w) A (pure (xs[0]?::bs)) Q E s') (λr hr=>t r (B3 _ hr)) λL=>B63 (h _))
theorem qT4 {c:Addr}{b:List Addr}{Q:B98->Shared->Prop}(i:IsTup s.heap c #[])(h:∀r∈b,∃xs:Array Value,IsTup s.heap r xs)
  (q:Q oneType' s):wpAny (model prog w) A (keyKind' ((c::b).map E1).toArray) Q E s:=by
 rw[kat_kind_eq,A94,map_eq_pure_bind,C7,B34];obtain⟨o,j,t,n,l⟩:=id i;refine B62 (B62 (B62 ?_));rw[A56];refine B62 (w6 (show PySem.W.Looks (model prog w) s.heap (typeOf (.ref c)) o.cls from(A27 j).andThen .now) ?_);rw[t,if_neg (by first|decide|simp)]
 refine B62 (listItems_at j l (B63 ?_));refine B62 (qLN b h λL=>B63 (B63 ?_));have z:((((#[]:Array Value)[0]?)::L).toArray.all λx=>x.isSome)=false:=by simp
 have e2:((((((#[]:Array Value)[0]?)::L).toArray)[0]?).bind id).isSome=false:=by simp
 rw[if_neg (by rw[z];exact B4),if_neg (by rw[e2];exact B4)]
 rw[oneTypeOnly'_eq,A94,map_eq_pure_bind];refine B62 (B62 (B62 (PySem.W.kas_mapM (r:=X8 "tuple") _ (λv k Q' y=>?_) (B63 ?_))))
 ·rw[<- C7] at k;obtain⟨r,m,rfl⟩:=D2.mp k;have:∃xs:Array Value,IsTup s.heap r xs:=by
   rcases B6.mp m with e|e
   ·rw[e];exact⟨_,i⟩
   ·exact h r e
  obtain⟨xs,p,f,d,n2,u⟩:=this;refine w6 (show PySem.W.Looks (model prog w) s.heap (typeOf (.ref r)) p.cls from(A27 f).andThen .now) ?_;rw[d];exact y
 ·have g:(B49 (λ_=>X8 "tuple") (E1 c::B49 E1 b)).toArray[0]?=some (X8 "tuple"):=by simp
  have a:((B49 (λ_=>X8 "tuple") (E1 c::B49 E1 b)).toArray.all λx=>x==X8 "tuple")=true:=by
   simp only[List.all_toArray,List.all_map,J3];intro _ _
   rfl
  rw[g];simp only[a,if_true];exact B63 (B63 q)
end
section
variable{X:Cx}
abbrev qGA (H:Hp)(rs:List Addr)(ts:List (List Int)):Prop:=Paired (λ(r:Addr) (t:List Int)=>H r=some (.tup (t.map V.int))) rs ts
theorem qGO:∀{rs:List Addr} {its:List Value},Vals (rs.map V.ref) its->its=rs.map E1
 |[],_,.nil=>rfl
 |r::rs,_,.cons h t=>by
  rw[C7,<- qGO t];have:_=E1 r:=h;rw[this]
def qIM:Value->Addr
 |.ref a=>a
 |_=>0
theorem qO2:∀{vs:List Value},(∀v∈vs,∃a,v=.ref a)->(vs.map qIM).map E1=vs
 |[],_=>rfl
 |v::vs,h=>by
  obtain⟨a,rfl⟩:=h v (by simp)
  rw[C7,C7,qO2 λv hv=>h v (B3 _ hv)]
  rfl
theorem qQU {H:Hp}:∀{rs:List Addr} {ts:List (List Int)},qGA H rs ts->ts=rs.map λr=>keyH H (.ref r)
 |_,_,.nil=>rfl
 |_,_,.cons h t=>by rw[C7,keyH_at h,<- qQU t]
theorem qTR {H:Hp}:∀{rs:List Addr},(∀r∈rs,∃t:List Int,H r=some (.tup (t.map V.int)))->qGA H rs (rs.map λr=>keyH H (.ref r))
 |[],_=>.nil
 |r::rs,h=>by
  obtain⟨t,e⟩:=h r (by simp)
  exact .cons (by dsimp only;rw[keyH_at e];exact e) (qTR λr hr=>h r (B3 _ hr))
theorem qIV {H:Hp}:∀{rs:List Addr} {ts:List (List Int)},qGA H rs ts->∀{r:Addr},r∈rs->∃t,t∈ts/\H r=some (.tup (t.map V.int))
 |_,_,.nil,_,h=>nomatch h
 |_,_,.cons (b:=t) g T,r,h=>by
  rcases B6.mp h with e|e
  ·exact⟨t,by simp,by rw[e];exact g⟩
  ·obtain⟨t,h1,h2⟩:=qIV T e;exact⟨t,B3 _ h1,h2⟩
theorem qU7 {Ab:List (Addr×Obj)}{s:Shared}{σ:St}{H:Hp}{Q:VK}{A:Around}{E:Value->Shared->Prop}{d:List Addr}{ts:List (List Int)}{D:Addr}(I:Inv X Ab σ (Ag H D (.lst (d.map V.ref))) s)(hD:H D=none)(T:qGA H d ts)
  (hk:(∀t∈ts,t≠[])\/∃ts',ts=[]::ts') (hu:A.units+8<cLine)
  (q:∀rs' ts',rs'.Perm d->qGA H rs' ts'->ts'.Perm ts->ts'.Pairwise (λa b=>HT.lexLt b a=false)->Q (.ref D) (Ag H D (.lst (rs'.map V.ref)))):
  wpAny (model X.prog X.w) A (call (.builtin "list.sort") [.ref D]) (λ_ s'=>EP X Ab σ Q (.ref D) s') E s:=by
 obtain⟨z,a0,n,rv,hl,e⟩:=I.lstM qA1;have ei:=qGO rv;subst ei;have hz:(d.map E1).length<=B64:=by simpa using z
 letI:NM:=tupNM H ts
 have gd:∀v∈d.map E1,NM.good v:=λv hv=>by
  obtain⟨r,hr,rfl⟩:=D2.mp hv;obtain⟨t,ht,g⟩:=qIV T hr;exact⟨r,t,rfl,g,ht⟩
 have j:∀(h':Heap),(∀(b:Addr) (o:Obj),b≠D->s.heap.get? b=some o->h'.get? b=some o)->∀(r:Addr) (t:List Int),H r=some (.tup (t.map V.int))->∃xs:Array Value,IsTup h' r xs/\B71 xs.toList t:=by
  intro h' c r t g;have nr:r≠D:=qA6 g hD;obtain⟨a0,r1,⟨o,ho,hc,n,hd⟩,_⟩:=I.tuple (SqT.of (show(Ag H D (.lst (d.map V.ref))) r=some (.tup (t.map V.int)) by rw[qA9 nr];exact g))
  exact⟨a0.toArray,⟨o,c r o nr ho,hc,n,hd⟩,qFZ r1⟩
 have f:∀(A':Around) (h':Heap) (κ:B98),(∀(x y:Addr) (xs ys:Array Value) (ns ms:List Int) (Q:Bool->Shared->Prop) (E:Value->Shared->Prop),IsTup h' x xs->IsTup h' y ys->B71 xs.toList ns->B71 ys.toList ms->Q (HT.lexLt ns ms) {s with heap:=h'}->wpAny (model X.prog X.w) A' (keyLt' κ (.ref x) (.ref y)) Q E {s with heap:=h'})->
   (∀(b:Addr) (o:Obj),b≠D->s.heap.get? b=some o->h'.get? b=some o)->LtOk X.prog X.w A' {s with heap:=h'} κ:=by
  intro A' h' κ a3 c;refine⟨λ{x y Q E} hx hy h=>?_⟩;obtain⟨r1,t1,rfl,g1,m1⟩:=hx;obtain⟨r2,t2,rfl,g2,m2⟩:=hy;obtain⟨xs,m,l⟩:=j h' c r1 t1 g1;obtain⟨ys,i2,j2⟩:=j h' c r2 t2 g2;refine a3 r1 r2 xs ys t1 t2 Q E m i2 l j2 ?_;have e1:NM.nm (E1 r1)=qIP ts t1:=by show qIP ts (keyH H (.ref r1))=_;rw[keyH_at g1]
  have e2:NM.nm (E1 r2)=qIP ts t2:=by show qIP ts (keyH H (.ref r2))=_;rw[keyH_at g2]
  rw[e1,e2,qR9 m1 m2] at h;exact h
 have a1:∀out:Array Value,out.toList.Perm (d.map E1)->out.toList.Pairwise (λu v=>NM.nm u<=NM.nm v)->EP X Ab σ Q (.ref D) {s with heap:=sortedHeap s.heap D (d.map E1) out}:=by
  intro out p1 p2;have a5:∀v∈out.toList,∃a,v=E1 a:=λv hv=>by
   obtain⟨r,_,er⟩:=D2.mp (p1.mem_iff.mp hv);exact⟨r,er.symm⟩
  have k:=qO2 a5;have p3:(out.toList.map qIM).Perm d:=by
   have:=p1.map qIM;rw[Z8] at this;have e:d.map (qIM ∘ E1)=d:=(T9 λx _=>rfl).trans (List.map_id _)
   rwa[e] at this
  obtain⟨e2,a2⟩:=sortedHeap_at (vs:=d.map E1) (out:=out) e;have T':qGA H (out.toList.map qIM) ((out.toList.map qIM).map λr=>keyH H (.ref r)):=qTR λr hr=>by
   obtain⟨t,_,g⟩:=qIV T (p3.mem_iff.mp hr);exact⟨t,g⟩
  have p4:((out.toList.map qIM).map λr=>keyH H (.ref r)).Perm ts:=by
   have:=p3.map λr=>keyH H (.ref r);rw[<- qQU T] at this;exact this
  have p5:((out.toList.map qIM).map λr=>keyH H (.ref r)).Pairwise (λa b=>HT.lexLt b a=false):=by
   rw[<- k,J4] at p2;rw[J4];refine p2.imp_of_mem λ{a b} ha hb le=>?_;have ma:keyH H (.ref a)∈ts:=p4.mem_iff.mp (D2.mpr ⟨a,ha,rfl⟩);have mb:keyH H (.ref b)∈ts:=p4.mem_iff.mp (D2.mpr ⟨b,hb,rfl⟩);have le:qIP ts (keyH H (.ref a))<=qIP ts (keyH H (.ref b)):=le;rw[<- qR9 mb ma];exact decide_eq_false (by lia)
  refine⟨.ref D,Ag H D (.lst ((out.toList.map qIM).map V.ref)),?_,rfl,q _ _ p3 T' p4 p5⟩;have hu:Ag (Ag H D (.lst (d.map V.ref))) D (.lst ((out.toList.map qIM).map V.ref))=Ag H D (.lst ((out.toList.map qIM).map V.ref)):=qJB;rw[<- hu];refine I.write (x:=D) (e:=D) (t':=s.toks) (by rw[qA1];exact trivial) (.inl rfl) (λb u hb a4=>?_) ⟨_,a2⟩ ?_
  ·rw[sortedHeap_old hb (B7 a4)];exact a4
  ·refine⟨?_,out.toList,e2,?_,by simpa using a2⟩
   ·rw[A0,p3.length_eq];simpa using z
   ·have:=qJ9 (out.toList.map qIM);rw[k] at this;exact this
 rcases hk with hk|⟨ts',hk⟩
 ·refine B79 slot_list_sort ⟨_,e,rfl⟩ entry_list_sort (qR2 (κ0:=tuples' true) (n:=n) e hz gd (λh' c h2=>⟨λ{Q} p=>?_,f _ h' _ (λx y xs ys ns ms Q E m i2 l j2 p=>qT5 m i2 l j2 p) c⟩) λout p1 p2=>⟨_,rfl,a1 out p1 p2⟩) (args_list_sort _);refine qVE (s:={s with heap:=h'}) (ts:=ts) ?_ hk (by simpa using h2) p
  exact Paired.mapP T λr t g=>j h' c r t g
 ·refine B79 slot_list_sort ⟨_,e,rfl⟩ entry_list_sort (qR2 (κ0:=oneType') (n:=n) e hz gd (λh' c h2=>⟨λ{Q} p=>?_,f _ h' _ (λx y xs ys ns ms Q E m i2 l j2 p=>?_) c⟩) λout p1 p2=>⟨_,rfl,a1 out p1 p2⟩) (args_list_sort _)
  ·cases T with
   |nil=>cases hk
   |@cons r t l1 l2 g T=>
    have et:t=[]:=by cases hk;rfl
    subst et;obtain⟨xs,m,l⟩:=j h' c r [] g;obtain⟨xs⟩:=xs;cases l;refine qT4 (s:={s with heap:=h'}) m (λr hr=>?_) p;obtain⟨t,_,g⟩:=qIV T hr;obtain⟨xs,i,_⟩:=j h' c r t g;exact⟨xs,i⟩
  ·rw[keyLt'_oneType];exact qUW (s:={s with heap:=h'}) (by first|exact X1 (by show _<=A.units+8;simp[Around.in1]) hu|(show A.units+1<cLine;lia)|(show A.units<cLine;lia)) m i2 l j2 p
theorem qc3 {prog:B66} {w:World} {d:Addr} {j:Obj} {es:Array DictEntry} {ep:Nat} (t:(d==B88)=false) (n:j.cls=.type "dict") (l:j.data=.dict es ep):
  PySem.W.KdlSrc prog w "dict" d d es.size (λi v=>∃h:i<es.size,v=es[i].key) (λh=>h.get? d=some j) where
 type:=λs h=>⟨_,h,n⟩
 there:=λh x=>⟨B7 x,B7 x⟩
 keep:=λh c x k=>k d (.inl rfl) _ x
 notList:=by decide
 notTuple:=by decide
 hint:=λA E s Q x q=>PySem.W.kdl_hint_dict ⟨_,x,n⟩ q
 iter:=λA s u x=>by
  have m:d≠s.heap.objs.size:=C6 (B7 x);refine⟨_,λi h=>qTL h s.heap.objs.size d i es.size ep/\h.get? d=some j,λE Q q=>qOU ⟨_,x,n⟩ t x l q,?_,⟨B5 _ rfl,A5 _ x⟩⟩;refine⟨λb f=>?_,λi h c a k=>⟨k _ (by simp) _ a.1,k _ (by simp) _ a.2⟩,λi g Q E r a q=>?_,λg Q E a q=>?_,λi g Q E a q=>C44 ⟨_,a.1,rfl,rfl⟩ q⟩
  ·have e:b=s.heap.objs.size:=by simpa using f
   simp[e]
  ·refine qOV a.1 a.2 l r λc p k=>?_;exact q _ c g.toks ⟨r,rfl⟩ ⟨p,(k.2 d m).trans a.2⟩ λb o f e=>(k.2 b (λz=>f (by simp[z]))).trans e
  ·refine qS2 u a.1 (A7 _) a.2 l λc k=>?_;exact q c g.toks λb o f e=>k b o (λz=>f (by simp[z])) e
theorem qPH {Ab:List (Addr×Obj)}{σ:St}{H:Hp}{Q:VK}{f:List Addr}{ts:List (List Int)}(k:X.A.units+64<cLine){s1:Shared}(I1:Inv X Ab σ H s1)(T:qGA H f ts)(j:(∀t∈ts,t≠[])\/∃ts',ts=[]::ts')(h:f.length<=B64)
  (q:∀ a rs' ts',H a=none->rs'.Perm f->qGA H rs' ts'->ts'.Perm ts->ts'.Pairwise (fun a b=>HT.lexLt b a=false)->Q (.ref a) (Ag H a (.lst (rs'.map V.ref)))):wpAny (model X.prog X.w) X.A.in1 (do
   let l <- newList (f.map E1)
   let _ <- C02 [l] (call (.builtin "list.sort") [l] [])
   ret l) (λfin s'=>∃r,fin=.done (.ret r)/\EP X Ab σ Q r s') X.xe s1:=by
 refine B62 (C32 ?_ (by rw[A0];exact h))
 have g:=I1.hok.fresh (A7 s1.heap.objs.size);have i:=I1.laid (a:=s1.heap.objs.size) (t':=s1.toks) (o:=.lst (f.map V.ref)) (h':=s1.heap.push {cls:=.type "list",data:=.seq (f.map E1).toArray}) (λb u e=>A5 _ e) (A7 _) ⟨by rw[A0];exact h,_,0,qJ9 f,B5 _ rfl⟩
 refine B62 (B72 (B76 (qU7 (E:=X.xe) i g T j (by show X.A.units+1+8<cLine;lia) λrs' ts' a b c d=>q _ rs' ts' g a b c d) (λ_ s' x=>?_) λ_ _ e=>e))
 exact B63 ⟨_,rfl,x⟩
theorem call_sortedTD (hc:X.calm=true) (hu:X.A.units+64<cLine):qCG X (.builtin "sorted") (fun xs H Q=>∃ p o Af ts,xs=[.ref p]/\H p=some (.frz o (.dT Af))/\Af.map (·.1)=ts.map (fun t=>t.map (G0:Int->Key))/\(∃ ts',ts=[]::ts')/\
  ∀a rs' ts',H a=none->qGA H rs' ts'->ts'.Perm ts->ts'.Pairwise (λa b=>HT.lexLt b a=false)->Q (.ref a) (Ag H a (.lst (rs'.map V.ref)))):=by
 intro Ab s σ H xs us Q I r h;obtain⟨p,o,Af,ts,rfl,hq,n,y,q⟩:=h;obtain⟨u,rfl,rx⟩:=qE1 r;cases rx;refine Y6 kind_sorted plain_sorted entry_sorted (args_sorted1 _) ?_;unfold Builtin.«sorted»;refine B62 (m:=checkCount "sorted" 1 1 _) (B63 ?_);obtain⟨e1,e2,e3,es,ep,e4,e5,a0⟩:=I.heldT hq;obtain⟨a4,hz,_⟩:=(show ObjOk X.prog X.w H s.heap p (.frz o (.dT Af)) from I.hok p _ hq);refine B62 (q9 (A:=X.A.in1) (qc3 e2 e3 e4) (I.ok.hd hc) e1 (by rw[e5];exact hz) λh' tk c kept d=>?_)
 obtain⟨l1,l2⟩:=d;have lt:ts.length=Af.length:=by
  have:=congrArg T3 n;simpa using this.symm
 -- the keys' addresses
 have j:∀(i:Nat),i<c.toList.length->∃(r:Addr) (t:List Int),c.toList[i]?=some (.ref r)/\ts[i]?=some t/\H r=some (.tup (t.map V.int)):=by
  intro i hi;have x:i<c.size:=by simpa using hi
  obtain⟨h3,e6⟩:=l2 i c[i] (C4 x);obtain⟨k,v,r,g1,g2,g3⟩:=a0 i h3;have f:(Af.map (·.1))[i]?=some k:=by rw[B9,g1];rfl
  rw[n,B9] at f;cases et:ts[i]? with
  |none=>rw[et] at f;cases f
  |some t=>
   rw[et] at f;have f:t.map (G0:Int->Key)=k:=D5 f;refine⟨r,t,?_,rfl,?_⟩
   ·rw[F0,C4 x,e6,g2]
   ·rw[g3,<- f,Z8]
    rfl
 have e:∀(l:List Value) (ts:List (List Int)),l.length=ts.length->(∀(i:Nat),i<l.length->∃(r:Addr) (t:List Int),l[i]?=some (.ref r)/\ts[i]?=some t/\H r=some (.tup (t.map V.int)))->∃rs:List Addr,l=rs.map E1/\qGA H rs ts:=by
  intro l
  induction l with
  |nil=>
   intro ts g _;cases ts with
   |nil=>exact⟨[],rfl,.nil⟩
   |cons _ _=>cases g
  |cons v l ih=>
   intro ts g h2;cases ts with
   |nil=>cases g
   |cons t ts=>
    obtain⟨r,t',a1,a2,a3⟩:=h2 0 (by simp)
    obtain⟨rs,b1,b2⟩:=ih ts (by simpa using g) λi hi=>by
     have:=h2 (i+1) (by simpa using hi)
     simpa using this
    have a1:v=.ref r:=by simpa using a1
    have a2:t=t':=by simpa using a2
    subst a1 a2;exact⟨r::rs,by rw[b1];rfl,.cons a3 b2⟩
 obtain⟨rs,e7,T⟩:=e c.toList ts (by rw[C2,l1,e5,lt]) j
 have z:rs.length<=B64:=by rw[C1 T,lt];exact hz
 have:=qPH (s1:={s with heap:=h',toks:=tk}) hu (I.kept (t':=tk) kept) T (.inr y) z (Q:=Q) λa rs' ts' g h2 h3 h4 h5=>q a rs' ts' g h3 h4 h5;rw[<- e7] at this;exact this
end
open PySem PySem.Spec PyProof.Rows PySem.W
section
variable{X:Cx}{Ab:List (Addr×Obj)}{σ:St}{params:B95}{body:Expr}{scope:Scope}{p:Str}{fv:List Nat}{q:Str}{te:TE}{l f cc:Addr}{ctv:Value}{H0:Hp}{xs:List V}{ks:List (List Int)}{Q:VK}
end
end L2.G
namespace L2
open PySem PySem.Spec PyProof.Rows
section
variable{X:Cx}
end
noncomputable def lowI (b:Int)(l:List Int):Int:=l.foldl (λb x=>if x<b then x else b) b
theorem qV5:∀(l:List Int) (b:Int),lowI b l<=b/\(∀x∈l,lowI b l<=x)/\(lowI b l=b\/lowI b l∈l)
 |[],b=>⟨O4 _,(λ_ z=>nomatch z),.inl rfl⟩
 |y::l,b=>by
  obtain⟨h1,h2,h3⟩:=qV5 l (if y<b then y else b)
  have e:lowI b (y::l)=lowI (if y<b then y else b) l:=rfl
  rw[e];have hb:(if y<b then y else b)<=b/\(if y<b then y else b)<=y:=by split<;>lia
  refine⟨by lia,λx hx=>?_,?_⟩
  ·rcases B6.mp hx with hx|hx
   ·lia
   ·exact h2 x hx
  ·rcases h3 with h3|h3
   ·split at h3
    ·rw[if_pos (by assumption)]
     exact .inr (by rw[h3];exact D8)
    ·rw[if_neg (by assumption)]
     exact .inl h3
   ·exact .inr (B3 _ h3)
section
variable{prog:B66}{w:World}{A:Around}{R:Result->Shared->Prop}{I:Addr}{fp wr:List Addr}{n:Nat}{P:Nat->Value->Prop}{St:Nat->Heap->Prop}
theorem qaO (W:Walks prog w A.in1 I fp wr n P St)(kw:List (Str×Value))(ns:List Int)(hn:ns.length=n)(a4:∀i v,P i v->∃t,v=.int (ns.getD i 0) t)(S:Addr)(a3:S∉fp):
  ∀(k j:Nat) (s:Shared) (b:Int) (t:Tok) (c:Nat),n-j=k->j<=n->St j s.heap->s.heap.get? S=some {cls:=.type "list",dict:=none,data:=.seq #[.int b t,.int b t] c,slots:=#[]}->
  (∀t' h' tk,(∀x o,x∉wr->x≠S->s.heap.get? x=some o->h'.get? x=some o)->R (.ok (.ret (.int (lowI b (ns.drop j)) t'))) {s with heap:=h',toks:=tk})->
  B97 (model prog w) A (.builtin "min.loop" ⟨[.ref I,.none,.ref S],kw⟩) R s:=by
 have a2:S∉wr:=λh=>a3 (W.sub _ h);have f:(toString "min" ++ toString ".loop" : String) = "min.loop":=by decide
 intro k
 induction k with
 |zero=>
  intro j s b t c hk hj st hS g;have e:j=n:=by lia
  refine B73 A28 ?_;rw[F4 U4 _];show wpAny _ A.in1 (seqItems? (.ref S) >>= _) _ _ s;refine B62 (B93 hS rfl ?_);show wpAny _ A.in1 (tryCatch (pyNext (.ref I)) _ >>= _) _ _ s;refine B62 (B84 (W.done s _ _ (e▸st) λh' tk d=>?_));show wpAny _ A.in1 (updateSeq S (λ_=>#[]) >>= _) _ _ _;refine B62 (C07 (d S _ a2 hS) rfl (B62 (C09 (B63 ?_))));rw[d9 (by lia)] at g
  exact g t _ tk λx o l a ex=>(E2 _ _ (J8 a)).trans (d x o l ex)
 |succ k ih=>
  intro j s b t c hk hj st hS g;have r:j<n:=by lia
  refine B73 A28 ?_;rw[F4 U4 _];show wpAny _ A.in1 (seqItems? (.ref S) >>= _) _ _ s;refine B62 (B93 hS rfl ?_);show wpAny _ A.in1 (tryCatch (pyNext (.ref I)) _ >>= _) _ _ s;refine B62 (B84 (W.item j s _ _ r st λv h' tk hP a1 d=>?_));have q:=d S _ a2 hS;obtain⟨u,rfl⟩:=a4 j v hP;have ed:ns.drop j=ns.getD j 0::ns.drop (j+1):=by
   have a0:j<ns.length:=by lia
   rw[G3 a0,U2,A4 a0]
   rfl
  rw[ed] at g;generalize ns.getD j 0=y at g hP ⊢;show wpAny _ A.in1 (tryCatch (C02 [R5 y u,R5 y u] (richCompare .Lt (.int y u) (.int b t) >>= _)) _ >>= _) _ _ _;refine B62 (B84 (B72 (B62 (richCompare_gives (op:=.Lt) (typeIs_int _ _ u) (typeIs_int _ _ t) F.slot_int_lt F.entry_int_lt (F.args_int_lt_2 _ _) (gives_int_lt _ _ u t) (λx=>nomatch x) ?_))));refine B62 (B72 (B81 (B62 (C09 (B63 ?_)))));by_cases hb:y<b
  ·rw[decide_eq_true hb,if_pos rfl];have et:lowI b (y::ns.drop (j+1))=lowI y (ns.drop (j+1)):=by show lowI (if y<b then y else b) _=_;rw[if_pos hb]
   rw[et] at g;refine B62 (C07 q rfl (B62 (C09 ?_)));rw[f];refine B63 ⟨B83 U4 _,ih (j+1) _ y u _ (by lia) r (W.frame _ _ _ a1 λx l o ex=>?_) (G8 _ q rfl) λt' h2 m p=>?_⟩
   ·exact(E2 _ _ (λz:S=x=>a3 (by rw[z];exact l))).trans ex
   ·exact g t' h2 m λx o l a ex=>p x o l a ((E2 _ _ (J8 a)).trans (d x o l ex))
  ·rw[decide_eq_false hb,if_neg B4];have et:lowI b (y::ns.drop (j+1))=lowI b (ns.drop (j+1)):=by show lowI (if y<b then y else b) _=_;rw[if_neg hb]
   rw[et] at g;refine B62 (C09 ?_);rw[f];exact B63 ⟨B83 U4 _,ih (j+1) _ b t c (by lia) r a1 q λt' h2 m p=>g t' h2 m λx o l a ex=>p x o l a (d x o l ex)⟩
theorem qV4 (W:Walks prog w A.in1 I fp wr n P St)(kw:List (Str×Value))(ns:List Int)(l:ns.length=n)(b:∀i v,P i v->∃t,v=.int (ns.getD i 0) t)(S:Addr)(d:S∉fp){s:Shared}{c:Nat}(st:St 0 s.heap)
  (hS:s.heap.get? S=some {cls:=.type "list",dict:=none,data:=.seq #[] c,slots:=#[]})
  (h1:∀y r,ns=y::r->∀t' h' tk,(∀x o,x∉wr->x≠S->s.heap.get? x=some o->h'.get? x=some o)->R (.ok (.ret (.int (lowI y r) t'))) {s with heap:=h',toks:=tk})
  (h2:ns=[]->∃nm dv,kw=[(nm,dv)]/\∀h' tk,(∀x o,x∉wr->x≠S->s.heap.get? x=some o->h'.get? x=some o)->R (.ok (.ret dv)) {s with heap:=h',toks:=tk}):
  B97 (model prog w) A (.builtin "min.loop" ⟨[.ref I,.none,.ref S],kw⟩) R s:=by
 have q:S∉wr:=λh=>d (W.sub _ h);have e:(toString "min" ++ toString ".loop" : String) = "min.loop":=by decide
 refine B73 A28 ?_;rw[F4 U4 _];show wpAny _ A.in1 (seqItems? (.ref S) >>= _) _ _ s;refine B62 (B93 hS rfl ?_);show wpAny _ A.in1 (tryCatch (pyNext (.ref I)) _ >>= _) _ _ s;cases ns with
 |nil=>
  obtain⟨nm,dv,rfl,h3⟩:=h2 rfl;refine B62 (B84 (W.done s _ _ (l▸st) λh' tk a=>?_));show wpAny _ A.in1 (rule _ >>= λ_=>ret dv) _ _ _;exact B62 (B99 (B63 (h3 _ tk λx o f _ k=>a x o f k)))
 |cons y r=>
  refine B62 (B84 (W.item 0 s _ _ (by rw[<- l];simp) st λv h' tk hP m a=>?_))
  have g:=a S _ q hS;obtain⟨u,rfl⟩:=b 0 v hP;show wpAny _ A.in1 (updateSeq S (λ_=>#[R5 y u,R5 y u]) >>= _) _ _ _;refine B62 (C07 g rfl ?_);rw[e];refine B63 ⟨B83 U4 _,qaO W kw (y::r) l b S d _ 1 _ y u _ rfl (by rw[<- l];simp) (W.frame _ _ _ m λx f o k=>?_) (G8 _ g rfl) λt' h2 p a0=>?_⟩
  ·exact(E2 _ _ (λz:S=x=>d (by rw[z];exact f))).trans k
  ·exact h1 y r rfl t' h2 p λx o f j k=>a0 x o f j ((E2 _ _ (J8 j)).trans (a x o f k))
end
section
variable{X:Cx}
noncomputable def lowD (dv:Option Int):List Int->Option Int
 |[]=>dv
 |y::r=>some (lowI y r)
theorem qaP {Ab:List (Addr×Obj)}{s:Shared}{σ:St}{H:Hp}{Q:VK}{p:Addr}{ns:List Int}{j:List (Str×Value)}{x:Option Int}(hc:X.calm=true)(I:Inv X Ab σ H s)(hq:SqL X.K H p (ns.map V.int))
  (ok:argsOk "min" ⟨[.ref p],j⟩) (n:Option Value) (hb:T8 "min" ["key","default"] 0 ⟨[],j⟩=pure [none,n]) (z:n=none/\x=none\/∃d t,n=some (.int d t)/\x=some d)
  (m:Int) (k:lowD x ns=some m) (q:Q (.int m) H):wpAny (model X.prog X.w) X.A (call (.builtin "min") [.ref p] j) (EP X Ab σ Q) X.xe s:=by
 obtain⟨l,rv,pl,hz⟩:=I.list hq;have u:=pl.isList;have h:p<s.heap.objs.size:=by obtain⟨_,e,_⟩:=u;exact B7 e
 have a:=rv.length;rw[A0] at a;have ia:=qCB rv;have f:(toString "min" ++ toString ".loop" : String) = "min.loop":=by decide
 refine qIF F.kind_min F.plain_min F.entry_min ok ?_;show wpAny _ _ (T8 "min" ["key","default"] 0 ⟨[],j⟩ >>= _) _ _ s;refine B62 (C08 hb ?_);refine B62 (B63 ?_);refine B62 (B87 u ?_);refine B62 (B74 ?_);rw[f];have w0:X.A.in1.handled=none:=I.ok.hd hc;refine B63 ⟨_,rfl,B83 U4 _,?_⟩;refine qV4 (A47 w0 _ p (C6 h) l.toArray) _ ns (by simpa using a) (λi v hv=>?_) _ ?_ (c:=0) ?_ (B5 _ rfl) ?_ ?_
 ·exact X7 ia i v (by simpa using hv)
 ·simp only[N9,B6,O0,or_false,not_or];exact⟨m5 _,V9 (L5 h)⟩
 ·exact⟨⟨_,A5 _ (B5 _ rfl),rfl,rfl⟩,(u.push _).push _⟩
 ·intro y r e t' h' tk hk;subst e;cases k;refine⟨_,rfl,.int _,H,I.kept (t':=tk) λb o g=>hk b o ?_ ?_ (A5 _ (A5 _ g)),⟨t',rfl⟩,q⟩
  ·simp only[B6,O0,or_false];exact C6 (B7 g)
  ·rw[N9];exact C6 (L5 (B7 g))
 ·intro e;subst e;rcases z with⟨_,e2⟩|⟨d,t,rfl,rfl⟩
  ·rw[e2] at k;cases k
  ·cases k;refine⟨_,_,rfl,λh' tk hk=>⟨_,rfl,.int _,H,I.kept (t':=tk) λb o g=>hk b o ?_ ?_ (A5 _ (A5 _ g)),⟨t,rfl⟩,q⟩⟩
   ·simp only[B6,O0,or_false];exact C6 (B7 g)
   ·rw[N9];exact C6 (L5 (B7 g))
theorem qWO (a:X.calm=true):qCG X (.builtin "min") (λxs H Q=>∃p ns m,xs=[.ref p]/\SqL X.K H p (ns.map V.int)/\lowD none ns=some m/\Q (.int m) H):=by
 intro f s σ H xs e Q I r h;obtain⟨p,ns,m,rfl,b,c,q⟩:=h;obtain⟨u,rfl,d⟩:=qE1 r;cases d;exact qaP a I b (F.args_min1 _) none rfl (.inl ⟨rfl,rfl⟩) m c q
end
structure Clb (P:B66)(w:World)(K:PySem.W.Frag)(mg:Str->Option Value)(base:Heap)(n:Nat)(f:Addr)(fd:B85)(x:Str)(ps:List Str)(sp:Sp):Prop where
 G:FnOk P w K mg base CX0 n f fd ps sp
 b:Binds K fd ps []
 k:T0 K (.ref f)=true
 m:mg x=some (.ref f)
theorem qAT {X:Cx}{n k:Nat}{f:Addr}{i:B85}{x:Str}{ps:List Str}{sp:Sp}{e:Expr}{es:List Expr}{t:TA}{p pos:Pos}(C:Clb X.prog X.w X.K X.mg X.base n f i x ps sp)(g:Room k X.A)(j:Gl X x)
  (l:PA X (e::es) t) (a:n<=k:=by decide) (c:(x==("__debug__" : Str))=false:=by decide) (h:B69 (e::es) X.env=(false,eval e X.env)::B69 es X.env:=by rfl) (d:(backTo pos (B69 es X.env)).any (·.1)=false:=by rfl):
  PE X (.Call (.Name x p) (e::es) [] pos) (qc1 sp [] E0 t):=qaG C.G (g.mono a) j C.m C.k C.b .nil qeC l c h d
theorem nmD {i:Nat}{t u:TS}{D:Ends}{x:V}{σ:St}{H:Hp}(h:∀D':Ends,(∀σ H,D.nx σ H->D'.nx σ H)->(∀v H,D.rt v H->D'.rt v H)->tSeq t u D' (σ.set i (some x)) H):qVU i x σ H λσ2 H2=>tSeq t u D σ2 H2:=h D (λ_ _ z=>z) λ_ _ z=>z
def Tf (K:PySem.W.Frag)(x:Str)(s:Stmt)(f:Addr):Prop:=w5 K B75 x=some (some (.ref f))/\∃fd,Fun K x x s f fd
theorem Tf.use {K:PySem.W.Frag}{h:Heap}{mg:Str->Option Value}{x:Str}{s:Stmt}{f:Addr}(X:K.In h)(G:h.Ns B75 mg)(T:Tf K x s f):∃fd,Fun K x x s f fd/\mg x=some (.ref f):=
 let⟨a,fd,F⟩:=T
 ⟨fd,F,A83 X G a⟩
theorem Tf.clb {P:B66}{w:World}{K:PySem.W.Frag}{h base:Heap}{mg:Str->Option Value}{x:Str}{s:Stmt}{f:Addr}{n:Nat}{ps:List Str}{sp:Sp}(X:K.In h)(G:h.Ns B75 mg)(T:Tf K x s f)(a:∀fd,Fun K x x s f fd->FnOk P w K mg base CX0 n f fd ps sp)
  (b:∀(kV doc pm:Value) (an:Option Addr) (cdv ct:Value) (us:List Value),us.length=ps.length->C20 (T1 x x (qEW s) (qAV s) (qAA s) .none kV doc pm an cdv ct) ⟨us,[]⟩=pure (ps.zip us)):∃fd,Clb P w K mg base n f fd x ps sp:=
 let⟨fd,F,m⟩:=T.use X G
 ⟨fd,a fd F,F.binds b,F.kp,m⟩
def Zs (K:PySem.W.Frag):List Str->Prop
 |[]=>True
 |x::r=>w5 K B75 x=some none/\Zs K r
def Zm (mg:Str->Option Value):List Str->Prop
 |[]=>True
 |x::r=>mg x=none/\Zm mg r
theorem Zs.mg {K:PySem.W.Frag}{h:Heap}{mg:Str->Option Value}(X:K.In h)(G:h.Ns B75 mg):∀{l:List Str},Zs K l->Zm mg l
 |[],_=>trivial
 |_::_,⟨a,b⟩=>⟨PySem.W.mg_none_of X G a,Zs.mg X G b⟩
theorem qBK {N P:List Str}{a:Scope}(f:a.kind=.function:=by rfl)(h:a.isCoroutine=false:=by rfl)(d:a.isGenerator=false:=by rfl)(b:N.Nodup:=by decide +kernel)(g:N.take P.length=P:=by rfl)(e:∀x∈P,a.names.lookup x=some .local\/a.names.lookup x=some .cell:=by decide +kernel)(c:∀y∈a.names,y.2≠.free:=by decide +kernel):FnScope N P a:=⟨f,h,d,b,g,e,c⟩
section
variable{P:B66}{w:World}{K:PySem.W.Frag}{mg:Str->Option Value}{base:Heap}
theorem Fun.okA {x a:Str}{st:Stmt}{f:Addr}{d:B85}{N ps:List Str}{k:Nat}{sp:Sp}(F:Fun K x a st f d)(S:FnScope N ps (qAA st))
  (b:∀ (cdv:Value) (A:Around) (outer:List Env) (s:Shared) (H:Hp) (vs:List V) (Q:VK) (E:XK),Room k (A.deeper (envOfC a (qAA st) s.heap.objs.size f cdv))->sp vs H Q E->
   ∃t,PSs (cxOf CX0 P w K mg base N a (qAA st) f cdv A outer s H E).nox (qAV st) t/\t {nx:=λ_ H'=>Q .non H',rt:=Q} (start N vs) H)
  (c:∀vs H Q E,sp vs H Q E->vs.length=ps.length:=by intro vs H Q E h;(repeat (obtain⟨_,h⟩:=h));subst_vars;rfl):FnOk P w K mg base CX0 (k+1) f d ps sp:=F.ok S c b
@[elab_as_elim] theorem us5 {α:Type}{P:List α->Prop}(f:List α)(g:f.length=5)(h:∀a b c d e,P [a,b,c,d,e]):P f:=by
 match f,g with
 |[a,b,c,d,e],_=>exact h a b c d e
def Bs (P:B66)(w:World)(base:Heap):Prop:=P=P/\w=w/\base=base
theorem Tf.c {h:Heap}{x:Str}{s:Stmt}{f:Addr}{n:Nat}{ps:List Str}{sp:Sp}(X:K.In h)(G:h.Ns B75 mg)(B:Bs P w base)(T:Tf K x s f)(a:∀fd,Fun K x x s f fd->FnOk P w K mg base CX0 n f fd ps sp)
  (b:∀ (kV doc pm:Value) (an:Option Addr) (cdv ct:Value) (us:List Value),us.length=ps.length->C20 (T1 x x (qEW s) (qAV s) (qAA s) .none kV doc pm an cdv ct) ⟨us,[]⟩=pure (ps.zip us):=by
   intro _ _ _ _ _ _ us hl;first|exact us1 us hl (λ_=>rfl)|exact us2 us hl (λ_ _=>rfl)|exact us3 us hl (λ_ _ _=>rfl)|exact us4 us hl (λ_ _ _ _=>rfl)|exact us5 us hl (λ_ _ _ _ _=>rfl)|exact us0 us hl rfl):∃fd,Clb P w K mg base n f fd x ps sp:=T.clb X G a b
end
section
variable{X:Cx}{pos:Pos}
theorem qBN {x:Str}(i:Nat)(b:X.N.Nodup:=by exact qeF (by kernel_rfl))(hi:X.N[i]?=some x:=by rfl)(a:Loc X.env.scope x:=by exact E8 rfl)(c:X.fn x=true\/X.env.scope.names.lookup x=some .local:=by first|exact .inl rfl|exact .inr rfl|assumption):PG X (.Name x pos) (qVU i):=qAR b hi a c
end
section
variable{prog:B66}{w:World}{A:Around}{E:Value->Shared->Prop}{s:Shared}
theorem qYD {a:List Value}{b:List Int}(h:B71 a b):a.length=b.length/\∀(i:Nat) (y:Int),b[i]?=some y->∃tk,a[i]?=some (.int y tk):=by
 induction h with
 |nil=>exact⟨rfl,λi y e=>by simp at e⟩
 |cons n tk hm ih=>
  refine⟨by rw[D3,D3,ih.1],λi y e=>?_⟩
  cases i with
  |zero=>cases e;exact⟨_,rfl⟩
  |succ i=>exact ih.2 i y e
theorem qIN {t:Addr}{a:Array Value}{b:List Int}{x:Int}{u:Tok}{j:Nat}{Q:Value->Shared->Prop}(ht:IsTup s.heap t a)(hi:B71 a.toList b)(l:b[j]?=some x)(hn:∀i,i<j->b[i]?≠some x)
  (h:Q (.int j s.toks) {s with toks:=s.toks+1}):wpAny (model prog w) A (Builtin.«tuple.index» ⟨[.ref t,.int x u],[]⟩) (λfin s'=>∃v,fin=.done (.ret v)/\Q v s') E s:=by
 obtain⟨q,p⟩:=qYD hi;have o:a.size=b.length:=by simpa using q
 have a0:j<a.size:=by rw[o];exact(A3.mp l).1
 show wpAny _ _ (Builtin.Tuple.tupleItemsOf (.ref t) >>= _) _ _ s;refine B62 (tupleItemsOf_ ht ?_);refine B62 (B63 ?_);refine B62 (B63 ?_);refine B62 ?_;rw[A48];have en:(A45 [0:min a.size a.size])=a.size:=by simp[A45]
 rw[en];refine wpAny_forIn_list _ (λc r s'=>r.1=none/\s'=s/\∃i,c=List.range' i (a.size-i) 1/\i<=j) _ ?_ ?_ _ _ ⟨rfl,rfl,0,by simp,F3 _⟩
 ·rintro y c r s' ⟨hr,rfl,i,e,hij⟩;obtain⟨m,z⟩:∃m,a.size-i=m+1:=⟨a.size-i-1,by lia⟩
  rw[z,List.range'_succ] at e
  injection e with e1 e2
  subst e1;have d:y<b.length:=by lia
  obtain⟨tk,n⟩:=p y _ (A4 d);have k:a[y]?=some (.int b[y] tk):=by simpa using n
  dsimp only;rw[k];dsimp only;refine B62 (wpAny_eqBool_int ?_);by_cases g:b[y]=x
  ·have ey:y=j:=by
    by_cases f:y<j
    ·exact absurd (by rw[A4 d,g]) (hn y f)
    ·lia
   subst ey;rw[show(b[y]==x)=true from by rw[g];exact beq_self_eq_true _]
   refine B62 (B62 (wpAny_mkInt (B63 ?_)));exact B63 (B63 ⟨_,rfl,h⟩)
  ·rw[show(b[y]==x)=false from by simpa using g]
   refine B63 ⟨rfl,rfl,y+1,by rw[e2];congr 1;lia,?_⟩
   rcases Nat.lt_or_ge y j with f|hge
   ·exact f
   ·have:y=j:=by lia
    subst this;rw[A4 d] at l;exact absurd (D5 l) g
 ·rintro⟨b1,b2⟩ s' ⟨hb,rfl,i,e,hij⟩;have:(List.range' i (a.size-i) 1).length=0:=by rw[<- e];rfl
  rw[List.length_range'] at this
  lia
end
section
variable{X:Cx}
def qRA (K:PySem.W.Frag):V->List V->Hp->VK->Prop:=λx vs H Q=>∃(a:Addr) (ys:List Int) (y:Int) (j:Nat),x=.ref a/\vs=[.int y]/\SqT K H a (ys.map V.int)/\ys[j]?=some y/\(∀i,i<j->ys[i]?≠some y)/\Q (.int j) H
theorem qSZ:MtR X "tuple.index" (qRA X.K):=by
 intro o s σ H x n v l Q I k g h;obtain⟨a,m,y,j,rfl,rfl,i,e,f,q⟩:=h;cases k;obtain⟨u,rfl,c⟩:=g.one;obtain⟨t,rfl⟩:=c;obtain⟨d,r,b,z⟩:=I.tuple i;refine B79 F.slot_tuple_index b.typeIs F.entry_tuple_index (qIN b (qFZ (by simpa using r)) e f ?_) (F.args_tuple_index_2 _ _)
 exact⟨.int j,H,I.tok _,⟨_,rfl⟩,q⟩
theorem qDL {K:PySem.W.Frag} (a:X.K=K):MtR X "tuple.index" (qRA K):=by
 subst a;exact qSZ
def tBMT (r:V->List V->Hp->VK->Prop)(to:TE)(t:TA):TE:=λσ H Q=>to σ H λx H1=>(∃a xs,x=.ref a/\BareT H1 a xs)/\t σ H1 λxs H2=>r x xs H2 Q
theorem qO5 {o e:Expr} {es:List Expr} {q:TE} {t:TA} {name:Str} {f c:Pos} {id:String} {r:V->List V->Hp->VK->Prop} (pa:PlainAttrs "tuple") (k:Slot "tuple" name id) (m:typeOf (.builtin id)=pure (.type "method_descriptor")) (z:MtR X id r) (ho:PE X o q) (ha:PA X (e::es) t)
  (g:C30 o name X.env (eval o X.env)=eval o X.env:=by rfl)
  (l:((backTo c (B69 (e::es) X.env)).all (fun x=>!x.1) && (backToKw c (C27 [] X.env)).all (fun x=>x.1.isSome)
   && decide ((e::es).length+([]:List C22).length+(if([]:List C22).isEmpty then 0 else 1)<30))=true:=by rfl)
  (i:(f.endLine==c.line)=true:=by rfl) (hs:B69 (e::es) X.env=(false,eval e X.env)::B69 es X.env:=by rfl) (d:(backTo c (B69 es X.env)).any (·.1)=false:=by rfl):
  PE X (.Call (.Attribute o name f) (e::es) [] c) (tBMT r q t):=by
 intro n s σ H Q I h;refine wpAny_Call_method_late g l i rfl (thn (ho n s σ H _ I h) λv s1 ⟨x,H1,I1,r1,ty,q1⟩=>?_);obtain⟨a,xs,rfl,p,hq,hc,y⟩:=ty;cases r1;obtain⟨j,_⟩:=(show ObjOk X.prog X.w H1 s1.heap a (.frz p (.tup xs)) from I1.hok a _ hq);refine⟨"tuple",id,pa,k,m,⟨p,j,hc⟩,λb e=>?_,?_⟩
 ·cases e;exact⟨p,j,y⟩
 have u:=ha c n s1 σ H1 _ I1 q1;rw[hs] at u ⊢;refine d7 (by show(false||(backTo c (B69 es X.env)).any (·.1))=false;rw[d]<;>rfl) (A52 ?_)
 exact thn u λus s2 ⟨vs,H2,I2,r2,q2⟩=>z n s2 σ H2 (.ref a) vs (.ref a) us Q I2 rfl r2 q2
theorem Rd.same {H H':Hp}{a:Addr}{u:HO}(h:Rd H a u)(s:∀b o,H b=some o->H' b=some o):Rd H' a u:=by
 rcases h with h|⟨o,h⟩
 ·exact .inl (s _ _ h)
 ·exact .inr ⟨o,s _ _ h⟩
end
section
variable{X:Cx}{tg:Expr}
end
section
variable{X:Cx}
end
end L2
namespace Fw
open PySem L2
theorem qBJ:B70 "len" = some (.builtin "len"):=by decide +kernel
theorem qP2:B70 "min" = some (.builtin "min"):=by decide +kernel
theorem qdG:B70 "max" = some (.builtin "max"):=by decide +kernel
theorem qCL:B70 "sorted" = some (.builtin "sorted"):=by decide +kernel
theorem qWS:B70 "divmod" = some (.builtin "divmod"):=by decide +kernel
theorem qKL:B70 "all" = some (.builtin "all"):=by decide +kernel
theorem qAW:B70 "isinstance" = some (.builtin "isinstance"):=by decide +kernel
theorem qS8:B70 "int" = some (.type "int"):=by decide +kernel
theorem qWU:B70 "bool" = some (.type "bool"):=by decide +kernel
theorem qFM:B70 "list" = some (.type "list"):=by decide +kernel
theorem qAP:B70 "tuple" = some (.type "tuple"):=by decide +kernel
theorem qP1:B70 "set" = some (.type "set"):=by decide +kernel
theorem qS7:B70 "range" = some (.type "range"):=by decide +kernel
theorem qIG:B70 "enumerate" = some (.type "enumerate"):=by decide +kernel
structure StAt (H:Hp)(d c:Addr)(t:Int)(ns:List Int):Prop where
 dict:H d=some (.dK [(O2 "cells",.ref c),(O2 "turn",.int t)])
 list:H c=some (.lst (ns.map V.int))
 ne:0<ns.length
 len:ns.length<=63
 pos:0<=t
def Keep (d c:Addr)(H H':Hp):Prop:=∀b o,H b=some o->b≠d->b≠c->H' b=some o
theorem Keep.trans {d c:Addr}{H H1 H2:Hp}(a:Keep d c H H1)(b:Keep d c H1 H2):Keep d c H H2:=λx o h n m=>b x o (a x o h n m) n m
theorem Keep.of_same {d c:Addr}{H H':Hp}(h:Same H H'):Keep d c H H':=λb o e _ _=>h b o e
theorem qA2 {H:Hp}{p:Addr}(h:H p=none)(o:HO):Same H (Ag H p o):=λb u q=>by rw[qA9 (qA6 q h)];exact q
theorem qDW {d c:Addr}{H:Hp}{p:Addr}(h:H p=none)(o:HO):Keep d c H (Ag H p o):=.of_same (qA2 h o)
theorem StAt.ndc {H:Hp}{d c:Addr}{t:Int}{ns:List Int}(S:StAt H d c t ns):d≠c:=qCP S.dict S.list (by intro z;cases z)
theorem StAt.same {H H':Hp}{d c:Addr}{t:Int}{ns:List Int}(S:StAt H d c t ns)(h:Same H H'):StAt H' d c t ns:=⟨h _ _ S.dict,h _ _ S.list,S.ne,S.len,S.pos⟩
theorem StAt.new {H:Hp}{d c p:Addr}{t:Int}{ns:List Int}(S:StAt H d c t ns)(h:H p=none)(o:HO):StAt (Ag H p o) d c t ns:=S.same (qA2 h o)
theorem s_cs:¬(D4 "cells" = D4 "turn"):=by decide +kernel
theorem s_ct:¬((O2 (D4 "cells"):Key)=O2 (D4 "turn")):=λh=>s_cs (B57 h)
theorem qbB {H:Hp} {d c:Addr} {t:Int} {ns:List Int} (S:StAt H d c t ns):DGet H d (.str "turn") (some (.int t)):=by
 have h:=DGet.k (k:=O2 "turn") S.dict;rw[qBQ s_ct,qBP rfl] at h;exact h
theorem qN6 {H:Hp} {d c:Addr} {t:Int} {ns:List Int} (S:StAt H d c t ns):DGet H d (.str "cells") (some (.ref c)):=by
 have h:=DGet.k (k:=O2 "cells") S.dict;rw[qBP rfl] at h;exact h
theorem qXN (c:Addr) (t u:Int):putK [((O2 "cells" : Key),V.ref c),(O2 "turn",V.int t)] (O2 "turn") (V.int u)=[((O2 "cells" : Key),V.ref c),(O2 "turn",V.int u)]:=by
 unfold putK;simp[s_cs]
theorem qb9 {H:Hp} {d c:Addr} {t u:Int} {ns:List Int} (S:StAt H d c t ns):DPut H d (.str "turn") (.int u) (Ag H d (.dK [(O2 "cells",.ref c),(O2 "turn",.int u)])):=by
 have h:=DPut.k (k:=O2 "turn") (v:=.int u) S.dict (by rw[B77];exact(by decide:2<16777216))
 rw[qXN] at h;exact h
theorem StAt.turn {H:Hp} {d c:Addr} {t u:Int} {ns:List Int} (S:StAt H d c t ns) (h:0<=u):StAt (Ag H d (.dK [(O2 "cells",.ref c),(O2 "turn",.int u)])) d c u ns:=
 ⟨qA1,by rw[qA9 (J8 S.ndc)];exact S.list,S.ne,S.len,h⟩
theorem StAt.put {H:Hp}{d c:Addr}{t:Int}{ns a:List Int}(S:StAt H d c t ns)(h:a.length=ns.length):StAt (Ag H c (.lst (a.map V.int))) d c t a:=
 ⟨by rw[qA9 S.ndc];exact S.dict,qA1,by rw[h];exact S.ne,by rw[h];exact S.len,S.pos⟩
abbrev TB:Int:=1000000000
def qL4:Sp:=λvs H Q _=>∃d c t ns m,vs=[.ref d,.int m]/\StAt H d c t ns/\t<=TB/\1<=m/\m<=1000000/\∀k ns' H',0<=k->k<m->StAt H' d c (t+1) ns'->Keep d c H H'->Q (.int k) H'
def qU4 (K:PySem.W.Frag):Sp:=λvs H Q _=>∃(a:Addr) (ns:List Int),vs=[.ref a]/\SqL K H a (ns.map V.int)/\ns.length<=63/\∀d c ms H',StAt H' d c 0 ms->Same H H'->H d=none->H c=none->Q (.ref d) H'
noncomputable def cutI {α:Type}(xs:List α)(lo hi:Option Int):List α:=(xs.drop (HT.sIx xs.length 0 lo)).take (HT.sIx xs.length xs.length hi-HT.sIx xs.length 0 lo)
theorem qN8 {α:Type}(f:α->V)(xs:List α)(lo hi:Option Int):cutV (xs.map f) lo hi=(cutI xs lo hi).map f:=by
 unfold cutV cutI;rw[A0,<- B50,<- B51]
theorem qYX {α:Type}(xs:List α)(lo hi:Option Int):(cutI xs lo hi).length<=xs.length:=by
 unfold cutI;rw[C5,M9]
 lia
theorem qZD (c:Addr) (t:Int):qG8 [] [((O2 (D4 "cells"):Key),V.ref c),(O2 (D4 "turn"),V.int t)]=[((O2 (D4 "cells"):Key),V.ref c),(O2 (D4 "turn"),V.int t)]:=by
 unfold qG8;simp only[V5,B32];unfold putK;simp[s_cs]
theorem qaW {xs:List V}{j:Nat}(h:j<xs.length):ixN xs.length (j:Int)=some j:=by
 unfold ixN;rw[if_pos (by lia),if_pos (by lia),E4]
def qe3 (K:PySem.W.Frag):Sp:=λvs H Q _=>∃(a:Addr) (ns:List Int),vs=[.ref a]/\SqL K H a (ns.map V.int)/\ns.length<=63/\∀H',Q (.bl true) H'
theorem cut {t u:TS}{D:Ends}{σ:St}{H:Hp}(h:∀N:St->Hp->Prop,(∀σ H,u D σ H->N σ H)->t {D with nx:=N} σ H):tSeq t u D σ H:=h _ λ_ _ z=>z
theorem opq {A:Prop}(h:∀G:Prop,(A->G)->G):A:=h A id
structure Rise (k:Int)(zs:List Int):Prop where
 up:zs.Pairwise (·<·)
 in_:∀x∈zs,0<=x/\x<k
theorem Rise.nil {k:Int}:Rise k []:=⟨.nil,λ_ h=>nomatch h⟩
theorem Rise.mono {j k:Int}{zs:List Int}(h:Rise j zs)(l:j<=k):Rise k zs:=⟨h.up,λx a=>⟨(h.in_ x a).1,by have:=(h.in_ x a).2;lia⟩⟩
theorem Rise.sub {k:Int}{zs a:List Int}(h:Rise k zs)(s:a.Sublist zs):Rise k a:=⟨h.up.sublist s,λx b=>h.in_ x (s.subset b)⟩
theorem Rise.snoc {k:Int}{zs:List Int}(h:Rise k zs)(e:0<=k):Rise (k+1) (zs++[k]):=by
 refine⟨P9.mpr ⟨h.up,A22 _ _,λa d b c=>?_⟩,λx hx=>?_⟩
 ·rw[A6.mp c];exact(h.in_ a d).2
 ·rcases A8.mp hx with hx|hx
  ·have:=h.in_ x hx;lia
  ·rw[A6.mp hx];lia
theorem Rise.shift {k j:Int}{zs:List Int}(h:Rise k zs)(g:0<=j):Rise (k+j) (zs.map (·+j)):=by
 refine⟨J4.mpr (h.up.imp λ{a b} d=>by lia),λx f=>?_⟩
 obtain⟨y,c,e⟩:=D2.mp f;have:=h.in_ y c
 lia
theorem Rise.nodup {k:Int}{zs:List Int}(h:Rise k zs):zs.Nodup:=h.up.imp λ{a b} c=>by lia
theorem Rise.len {zs:List Int}{k:Nat}(h:Rise (k:Int) zs):zs.length<=k:=by
 have a:zs ⊆ (F2 k).map λ(i:Nat)=>(i:Int):=λx b=>by
  have:=h.in_ x b;exact D2.mpr ⟨x.toNat,D9.mpr (by lia),by lia⟩
 have:=O6 h.nodup a;simpa using this
theorem mem_addI {zs:List Int}{k x:Int}:x∈addI zs k↔x∈zs\/x=k:=by
 unfold addI
 split
 ·rename_i h
  constructor
  ·exact .inl
  ·rintro(z|rfl)
   ·exact z
   ·exact h
 ·simp
theorem qaM {zs:List Int}{k:Int}(h:zs.Nodup):(addI zs k).Nodup:=by
 unfold addI
 split
 ·exact h
 ·rename_i hk
  exact qGD h hk
theorem qWD:∀(l zs:List Int),zs.Nodup->(l.foldl addI zs).Nodup/\∀x,x∈l.foldl addI zs↔x∈zs\/x∈l
 |[],zs,h=>⟨h,λx=>by simp⟩
 |k::r,zs,h=>by
  obtain⟨a,b⟩:=qWD r (addI zs k) (qaM h);refine⟨a,λx=>?_⟩;rw[V5,b x,mem_addI,B6,or_assoc]
theorem qLR (l:List Int):(dedI l).Nodup:=(qWD l [] .nil).1
theorem mem_dedI {l:List Int}{x:Int}:x∈dedI l↔x∈l:=by
 have:=(qWD l [] .nil).2 x;unfold dedI;rw[this];simp
theorem qYW (l:List Int):(dedI l).length<=l.length:=by
 have:=qE5 l [];simpa[dedI] using this
theorem qFB {zs:List Int}(e:zs.Pairwise (·<=·))(d:zs.Nodup):zs.Pairwise (·<·):=by
 have c:zs.Pairwise (λa b=>a<=b/\a≠b):=A46.mpr ⟨e,d⟩;exact c.imp λ{a b} ⟨x,y⟩=>by lia
theorem qMG {k:Int}{a zs:List Int}(b:zs.Perm (dedI a))(hs:zs.Pairwise (·<=·))(h:∀x∈a,0<=x/\x<k):Rise k zs:=
 ⟨qFB hs (b.nodup_iff.mpr (qLR a)),λx c=>h x (mem_dedI.mp (b.mem_iff.mp c))⟩
noncomputable def qBX (lo hi:Int):List Int:=(F2 (hi-lo).toNat).map λ(i:Nat)=>lo+i
theorem qJL (lo hi:Int):qE9 lo hi=(qBX lo hi).map V.int:=by
 unfold qE9 qBX;rw[Z8]
 rfl
theorem mem_rangeI {lo hi x:Int}:x∈qBX lo hi↔lo<=x/\x<hi:=by
 unfold qBX;rw[D2]
 constructor
 ·rintro⟨i,a,e⟩;have:=D9.mp a
  lia
 ·intro h;exact⟨(x-lo).toNat,D9.mpr (by lia),by lia⟩
theorem qL8 (lo hi:Int):(qBX lo hi).length=(hi-lo).toNat:=by unfold qBX;simp
theorem qF7 (lo hi:Int):(qBX lo hi).Pairwise (·<·):=by
 unfold qBX;exact J4.mpr (U1.imp λ{a b} h=>by lia)
theorem qPN {lo hi:Int}(h:0<=lo):Rise hi (qBX lo hi):=⟨qF7 _ _,λx a=>by have:=mem_rangeI.mp a;lia⟩
theorem qWJ {α:Type}(xs:List α)(k:Nat)(h:k<=xs.length):cutI xs (some (k:Int)) none=xs.drop k:=by
 unfold cutI;rw[HT.sIx_nat,HT.sIx_none,B25 h];exact D0 (by rw[M9];exact A7 _)
theorem qbE {α:Type}(xs:List α)(k:Nat):cutI xs none (some (k:Int))=xs.take k:=by
 unfold cutI;rw[HT.sIx_nat,HT.sIx_none,z8,A99];rcases Nat.le_total k xs.length with h|h
 ·rw[B25 h]
 ·rw[Nat.min_eq_right h,D0 h,D0 (A7 _)]
abbrev NetL (H:Hp):List Addr->List (List Int)->Prop:=Paired λr zs=>H r=some (.tup (zs.map V.int))
theorem NetL.keep {d c:Addr}{H H':Hp}{b:List Addr}{Ae:List (List Int)}(h:NetL H b Ae)(a:∀r zs,H r=some (.tup zs)->r≠d/\r≠c)(k:Keep d c H H'):NetL H' b Ae:=by
 induction h with
 |nil=>exact .nil
 |cons r t ih=>exact .cons (k _ _ r (a _ _ r).1 (a _ _ r).2) ih
theorem NetL.same {H H':Hp}{a:List Addr}{Ae:List (List Int)}(h:NetL H a Ae)(k:∀r zs,H r=some (.tup zs)->H' r=some (.tup zs)):NetL H' a Ae:=by
 induction h with
 |nil=>exact .nil
 |cons r t ih=>exact .cons (k _ _ r) ih
theorem NetL.get {H:Hp}:∀{rs:List Addr} {Ae:List (List Int)} {i:Nat} {zs:List Int},NetL H rs Ae->Ae[i]?=some zs->∃r,rs[i]?=some r/\H r=some (.tup (zs.map V.int))
 |_,_,_,_,.nil,e=>by simp at e
 |_,_,0,_,.cons r _,e=>by simp at e;subst e;exact⟨_,rfl,r⟩
 |_,_,i+1,zs,.cons _ t,e=>by
  obtain⟨r,h1,h2⟩:=NetL.get (i:=i) (zs:=zs) t (by simpa using e)
  exact⟨r,by simpa using h1,h2⟩
def NetAt (H:Hp)(a:Addr)(Ae:List (List Int)):Prop:=∃rs:List Addr,H a=some (.tup (rs.map V.ref))/\NetL H rs Ae
theorem StAt.tup {H:Hp}{d c:Addr}{t:Int}{ns:List Int}(S:StAt H d c t ns){r:Addr}{zs:List V}(h:H r=some (.tup zs)):r≠d/\r≠c:=
 ⟨qCP h S.dict (by intro z;cases z),qCP h S.list (by intro z;cases z)⟩
theorem NetAt.keep {H H':Hp}{d c:Addr}{t:Int}{ns:List Int}(S:StAt H d c t ns){a:Addr}{Ae:List (List Int)}(h:NetAt H a Ae)(k:Keep d c H H'):NetAt H' a Ae:=by
 obtain⟨f,b,g⟩:=h;exact⟨f,k _ _ b (S.tup b).1 (S.tup b).2,g.keep (λr i e=>S.tup e) k⟩
theorem NetAt.same {H H':Hp}{a:Addr}{Ae:List (List Int)}(h:NetAt H a Ae)(k:Same H H'):NetAt H' a Ae:=by
 obtain⟨b,d,c⟩:=h;exact⟨b,k _ _ d,c.same λr f e=>k _ _ e⟩
theorem NetAt.len {H:Hp}{a:List Addr}{Ae:List (List Int)}(h:NetL H a Ae):a.length=Ae.length:=C1 h
def WFn (Ae:List (List Int)):Prop:=∀(i:Nat) zs,Ae[i]?=some zs->Rise (i:Int) zs
theorem WFn.snoc {Ae:List (List Int)}{zs:List Int}(h:WFn Ae)(b:Rise (Ae.length:Int) zs):WFn (Ae++[zs]):=by
 intro i a e;rcases k5 i Ae.length with l|l|l
 ·rw[J2 l] at e;exact h i a e
 ·subst l;simp at e;subst e;exact b
 ·rw[J9 (by rw[B0,B8];lia)] at e
  cases e
theorem WFn.nil:WFn []:=λi a e=>by simp at e
theorem qCW {α β:Type}{F:α->β->Prop}{a:α}{b:β}{l₁:List α}{l₂:List β}(h:Paired F l₁ l₂)(r:F a b):Paired F (l₁++[a]) (l₂++[b]):=T5 h r
def qPG:Sp:=λvs H Q _=>∃d c t ns k,vs=[.ref d,.int k]/\StAt H d c t ns/\t<=TB-20/\0<=k/\k<=1000/\
 ∀r zs t' ns' H',StAt H' d c t' ns'->t<=t'->t'<=t+9->Keep d c H H'->H' r=some (.tup (zs.map V.int))->Rise k zs->Q (.ref r) H'
def qc5:Sp:=λvs H Q _=>∃d c t ns m,vs=[.ref d,.int m]/\StAt H d c t ns/\t<=TB-10000/\1<=m/\m<=400/\
 ∀a Ae t' ns' H',StAt H' d c t' ns'->t<=t'->t'<=t+10*m+10->Keep d c H H'->NetAt H' a Ae->WFn Ae->(Ae.length:Int)=m->Q (.ref a) H'
def qZ4:Sp:=λvs H Q _=>∃d c t ns m,vs=[.ref d,.int m]/\StAt H d c t ns/\t<=TB-1000/\1<=m/\m<=400/\
 ∀a Ae t' ns' H',StAt H' d c t' ns'->t<=t'->t'<=t+m->Keep d c H H'->NetAt H' a Ae->WFn Ae->(Ae.length:Int)=m->Q (.ref a) H'
theorem qeB {a b k:Int}(c:0<=k)(d:k<4):∃v,atI [V.int a,V.int b] (k/3)=some (.int v)/\(v=a\/v=b):=by
 rcases(by lia:k=0\/k=1\/k=2\/k=3) with rfl|rfl|rfl|rfl
 ·exact⟨a,rfl,.inl rfl⟩
 ·exact⟨a,rfl,.inl rfl⟩
 ·exact⟨a,rfl,.inl rfl⟩
 ·exact⟨b,rfl,.inr rfl⟩
theorem qeA {k:Int}(a:0<=k)(b:k<6):∃v,atI [V.int 0,V.int 0,V.int 1,V.int 2,V.int 2,V.int 3] k=some (.int v)/\0<=v/\v<=3:=by
 rcases(by lia:k=0\/k=1\/k=2\/k=3\/k=4\/k=5) with rfl|rfl|rfl|rfl|rfl|rfl
 all_goals exact⟨_,rfl,by decide,by decide⟩
theorem qAB {H Hc:Hp}{p:Addr}{o:HO}(h:Same H Hc)(a:H p=none):Same H (Ag Hc p o):=λb u e=>by rw[qA9 (qA6 e a)];exact h b u e
theorem qRT {d c:Addr}{H Hc:Hp}{p:Addr}{o:HO}(h:Keep d c H Hc)(g:H p=none):Keep d c H (Ag Hc p o):=λb u e a f=>by rw[qA9 (qA6 e g)];exact h b u e a f
theorem qDU {H:Hp}{p:Addr}{xs:List V}{o:HO}{a:List Addr}{Ae:List (List Int)}(h:NetL H a Ae)(b:H p=some (.lst xs)):NetL (Ag H p o) a Ae:=
 h.same λr c e=>by rw[qA9 (qCP e b (by intro z;cases z))];exact e
theorem qB6 (a:List Addr)(r:Addr):a.map V.ref++[V.ref r]=(a++[r]).map V.ref:=by rw[B1];rfl
theorem qcD (b:Bool)(x:Int):(E7 (if b=true then(1:Int) else 0).toNat [V.int x]).flatten=(if b=true then[x] else[]).map V.int:=by cases b<;>rfl
theorem qAS {α β:Type}{F:α->β->Prop}:∀{l₁:List α} {l₂:List β} {i:Nat} {a:α},Paired F l₁ l₂->l₁[i]?=some a->∃b,l₂[i]?=some b/\F a b
 |_,_,_,_,.nil,e=>by simp at e
 |_,_,0,_,.cons r _,e=>by simp at e;subst e;exact⟨_,rfl,r⟩
 |_,_,i+1,a,.cons _ t,e=>by
  obtain⟨b,h1,h2⟩:=qAS (i:=i) (a:=a) t (by simpa using e)
  exact⟨b,by simpa using h1,h2⟩
theorem qSW {α β:Type}{F G:α->β->Prop}{l₁:List α}{l₂:List β}(h:Paired F l₁ l₂)(k:∀a b,F a b->G a b):Paired G l₁ l₂:=by
 induction h with
 |nil=>exact .nil
 |cons r t ih=>exact .cons (k _ _ r) ih
theorem qC4 {a:List Addr}{i:Nat}{x:V}(h:(a.map V.ref)[i]?=some x):∃r,a[i]?=some r/\x=.ref r:=by
 rw[B9] at h;cases e:a[i]? with
 |none=>rw[e] at h;cases h
 |some r=>rw[e] at h;exact⟨r,rfl,(D5 h).symm⟩
theorem qB5 {zs:List Int}{i:Nat}{x:V}(h:(zs.map V.int)[i]?=some x):∃z,zs[i]?=some z/\x=.int z:=by
 rw[B9] at h;cases e:zs[i]? with
 |none=>rw[e] at h;cases h
 |some r=>rw[e] at h;exact⟨r,rfl,(D5 h).symm⟩
theorem qR3 {α:Type}{l:List α}{a b:α}{j:Nat}(h:(l++[a])[j]?=some b):l[j]?=some b\/(j=l.length/\b=a):=by
 rcases k5 j l.length with z|z|z
 ·rw[J2 z] at h;exact .inl h
 ·subst z;simp at h;exact .inr ⟨rfl,h.symm⟩
 ·rw[J9 (by rw[B0,B8];lia)] at h
  cases h
theorem qDN (a:Int)(zs:List Int):inV (.int a) (zs.map V.int)=decide (a∈zs):=by
 unfold inV
 induction zs with
 |nil=>simp
 |cons z r ih=>
  rw[C7,W3,ih];have e:eqV (.int z) (.int a)=decide (a=z):=by
   by_cases h:z=a
   ·subst h;simp[eqV]
   ·have b:¬a=z:=λq=>h q.symm;simp[eqV,h,b]
  rw[e];simp[B6]
theorem qBZ (zs:List Int):(zs.map V.int).all qMT=true:=by
 rw[J3];intro x a;obtain⟨z,_,rfl⟩:=D2.mp a
 rfl
noncomputable def qD7 (ns st:List Int) (Aa wk:Int):V:=if wk∈st then .str "there" else if∀x∈ns,x∈st then(if Aa<=(st.length:Int) then .str "full" else .non) else .str "needs"
noncomputable def qD2 (st:List Int) (wk:Int):V:=if wk∈st then .non else .str "empty"
def qNU:Sp:=λvs H Q _=>∃(a s:Addr) (Ae:List (List Int)) (st ns:List Int) (Aa wk:Int),vs=[.ref a,.int Aa,.ref s,.int wk]/\NetAt H a Ae/\H s=some (.tup (st.map V.int))/\st.length<=1000/\0<=wk/\Ae[wk.toNat]?=some ns/\
 ∀H',Same H H'->Q (qD7 ns st Aa wk) H'
noncomputable def qCH (ns st:List Int) (Aa:Int) (Ac:Str) (wk:Int):V:=if Ac = "do" then qD7 ns st Aa wk else qD2 st wk
def qJG:Sp:=λvs H Q _=>∃(a s mv:Addr) (Ae:List (List Int)) (st ns:List Int) (Aa wk:Int) (Ac:Str),vs=[.ref a,.int Aa,.ref s,.ref mv]/\NetAt H a Ae/\H s=some (.tup (st.map V.int))/\st.length<=1000/\H mv=some (.tup [.str Ac,.int wk])/\(Ac = "do"\/Ac = "clear")/\0<=wk/\Ae[wk.toNat]?=some ns/\ns.length<=1000/\
 ∀H',Same H H'->Q (qCH ns st Aa Ac wk) H'
theorem qPD (ns st:List Int)(Aa:Int)(Ac:Str)(a:Int):qCH ns st Aa Ac a=.non\/∃y,qCH ns st Aa Ac a=.str y:=by
 unfold qCH qD7 qD2
 split
 ·split
  ·exact .inr ⟨_,rfl⟩
  ·split
   ·split
    ·exact .inr ⟨_,rfl⟩
    ·exact .inl rfl
   ·exact .inr ⟨_,rfl⟩
 ·split
  ·exact .inl rfl
  ·exact .inr ⟨_,rfl⟩
theorem qAF:¬(D4 "clear" = D4 "do"):=by decide +kernel
theorem qIC {xs:List V}{i:Int}{x:V}(a:0<=i)(h:xs[i.toNat]?=some x):atI xs i=some x:=by
 have e:i=((i.toNat:Nat):Int):=by lia
 rw[e];exact qWZ (by simpa using h)
theorem NetAt.get {H:Hp}{a:Addr}{Ae:List (List Int)}{ns:List Int}{i:Nat}(h:NetAt H a Ae)(e:Ae[i]?=some ns):∃(rs:List Addr) (r:Addr),H a=some (.tup (rs.map V.ref))/\rs.length=Ae.length/\(rs.map V.ref)[i]?=some (.ref r)/\H r=some (.tup (ns.map V.int)):=by
 obtain⟨rs,f,b⟩:=h;obtain⟨r,c,d⟩:=b.get e;exact⟨rs,r,f,C1 b,by rw[B9,c];rfl,d⟩
theorem qM1 {ns st:List Int}{i:Nat}{z:Int}(a:ns[i]?=some z):((ns.take i).map λx=>decide (x∈st)).map V.bl++[V.bl (decide (z∈st))]=((ns.take (i+1)).map λx=>decide (x∈st)).map V.bl:=by
 rw[C8,a,C9,B1,B1]
 rfl
theorem all_in {ns st:List Int}:(((ns.map λx=>decide (x∈st)).all id)=true)↔∀x∈ns,x∈st:=by
 rw[J3]
 constructor
 ·intro h x a;have:=h _ (D2.mpr ⟨x,a,rfl⟩);exact of_decide_eq_true this
 ·intro h b c;obtain⟨x,a,rfl⟩:=D2.mp c;exact decide_eq_true (h x a)
def seqO (b:Bool)(xs:List V):HO:=match b with|true=>.tup xs|false=>.lst xs
noncomputable def tyOf (b:Bool):Value:=match b with|true=>.type "tuple" |false=>.type "list"
section
variable{K:PySem.W.Frag}
theorem qRS (b:Bool):Y4 K (tyOf b) (.type "tuple")=some b:=by cases b<;>rfl
theorem qZF:Y4 K (.type "int") (.type "int")=some true:=by rfl
theorem qZG:Y4 K (.type "int") (.type "bool")=some false:=by rfl
end
theorem qWV {i:Nat}:((E7 i true).map V.bl)++[V.bl true]=(E7 (i+1) true).map V.bl:=by
 rw[Y2,B1];rfl
theorem qX2 {n:Nat}:(E7 n true).all id=true:=by simp
theorem qER {α:Type}{p:α->Bool}{l:List α}{i:Nat}{x:α}(h:l[i]?=some x):(l.take (i+1)).filter p=(l.take i).filter p++(if p x then[x] else[]):=by
 rw[C8,h,C9,y4];by_cases a:p x=true
 ·simp[a]
 ·simp[a]
end Fw
namespace L2
open PySem PySem.Spec PyProof.Rows
def SqO (b:Bool)(K:PySem.W.Frag)(H:Hp)(a:Addr)(xs:List V):Prop:=match b with|true=>SqT K H a xs|false=>SqL K H a xs
def ItO (b:Bool)(K:PySem.W.Frag)(a:Addr):It:=match b with|true=>Itt K a|false=>Itl K a
def iSeq (K:PySem.W.Frag)(tl:TE):TI:=λσ H R=>tl σ H λx H1=>∃(b:Bool) (a:Addr),x=.ref a/\(∃xs,SqO b K H1 a xs)/\R (ItO b K a) H1
section
variable{X:Cx}{tg:Expr}
theorem qcK {l:Expr}{f:TE}(i:PE X l f):PI X tg l (iSeq X.K f):=by
 intro m s σ H R I h;refine thn (i m s σ H _ I h) λv s1 ⟨x,H1,I1,r1,q1⟩=>?_;obtain⟨b,a,e,⟨n,g⟩,q⟩:=q1;subst e;cases r1;cases b with
 |false=>
  obtain⟨c,k,p,j⟩:=I1.list g;refine B87 p.isList ?_;refine⟨s1.heap.objs.size,[s1.heap.objs.size],_,_,H1,rfl,I1.kept (t':=s1.toks) λb o e=>A5 _ e,qNM a _,⟨_,B5 _ rfl,rfl,rfl⟩,λb d=>?_,q⟩;cases A6.mp d;exact I1.fpOk (A7 _) (I1.hok.fresh (A7 _))
 |true=>
  obtain⟨c,k,p,j⟩:=I1.tuple g;refine C19 (show s1.heap.IsTuple a c.toArray from p) ?_;refine⟨s1.heap.objs.size,[s1.heap.objs.size],_,_,H1,rfl,I1.kept (t':=s1.toks) λb o e=>A5 _ e,qL2 a _,⟨_,B5 _ rfl,rfl,rfl⟩,λb d=>?_,q⟩;cases A6.mp d;exact I1.fpOk (A7 _) (I1.hok.fresh (A7 _))
end
theorem qcV {b:Bool}{K:PySem.W.Frag}{a:Addr}{xs:List V}{g:TG}{h:TT}{f:TE}{Kf:Hp->Prop}{σ0:St}{H0:Hp}{p:Addr}(Pv:Nat->St->Hp->Prop)(d:Pv 0 σ0 H0)(e:∀i σ H,i<=xs.length->Pv i σ H->SqO b K H a xs)
  (hs:∀i x σ H,xs[i]?=some x->Pv i σ H->g x σ H λσ2 H2=>h σ2 H2 λb H3=>if b=true then f σ2 H3 λy H4=>∃ys,H4 p=some (.lst ys)/\ys.length<B64/\Pv (i+1) σ2 (Ag H4 p (.lst (ys++[y]))) else Pv (i+1) σ2 H3)
  (c:∀σ H,Pv xs.length σ H->Kf H):
  LcG (ItO b K a) g h f Kf σ0 H0 p:=by
 cases b with
 |true=>exact qCN Pv d e hs c
 |false=>exact qE4 Pv d e hs c
section
variable{X:Cx}
end
theorem qLM {a:Addr}{o:Obj}{Af:List (List Key×V)}{g:TG}{c:TS}{D:Ends}{σ:St}{H:Hp}(Pv:Nat->St->Hp->Prop)(f:Pv 0 σ H)(j:∀i σ H,i<=Af.length->Pv i σ H->H a=some (.frz o (.dT Af)))
  (hs:∀i k v r σ H,Af[i]?=some (k,v)->H r=some (.tup (k.map kV))->Pv i σ H->g (.ref r) σ H λσ2 H2=>c {D with nx:=Pv (i+1),ct:=Pv (i+1),bk:=D.nx} σ2 H2) (d:∀σ H,Pv Af.length σ H->D.nx σ H):
  ForG (ItT a o Af) g c D σ H:=by
 refine⟨λi m σ H=>m=Af.length-i/\i<=Af.length/\Pv i σ H,⟨Af.length,by simp,F3 _,f⟩,?_⟩
 rintro i m σ H ⟨rfl,hi,p⟩;have q:=j i σ H hi p;by_cases b:i<Af.length
 ·refine .inr ⟨⟨b,q⟩,Pv (i+1),λσ' s h=>⟨Af.length-(i+1),by lia,rfl,b,h⟩,λx s y=>?_⟩
  obtain⟨e,k,v,r,t,l,n⟩:=y;subst e l;exact hs i k v r σ _ t n p
 ·have e:i=Af.length:=by lia
  subst e;exact .inl ⟨⟨A7 _,q⟩,d σ H p⟩
def TyR (K:PySem.W.Frag) (H:Hp) (x:V) (t:Value):Prop:=TyOf K H x t\/∃a xs,x=.ref a/\Rd H a (.tup xs)/\t=.type "tuple"
section
variable{X:Cx}
theorem qDZ:qCG X (.builtin "isinstance") (λxs H Q=>∃x T t b,xs=[x,.ty T]/\TyR X.K H x t/\Y4 X.K t (.type T)=some b/\Q (.bl b) H):=by
 intro f s σ H xs e Q I r h;obtain⟨x,T,t,b,rfl,c,d,q⟩:=h;rcases c with c|⟨a,ys,rfl,c,rfl⟩
 ·exact qBH f s σ H _ e Q I r ⟨x,T,t,b,rfl,c,d,q⟩
 ·rcases c with c|⟨ob,c⟩
  ·exact qBH f s σ H _ e Q I r ⟨_,T,_,b,rfl,TyOf.tup c,d,q⟩
  ·obtain⟨u,v,rfl,j,g⟩:=qNJ r;cases g;cases(show u=E1 a from j);obtain⟨_,_,_,_,p⟩:=(show ObjOk X.prog X.w H s.heap a (.frz ob (.tup ys)) from I.hok a _ c);obtain⟨o,i,k,_⟩:=p;exact L8 A75 I.kIn ⟨o,i,k⟩ d (λz=>nomatch z) λl=>⟨.bl b,H,I.tok _,rfl,q⟩
end
end L2
namespace Fw
open PySem L2
end Fw
namespace L2
open PySem PySem.Spec PyProof.Rows Fw
section
variable{X:Cx}{Ab:List (Addr×Obj)}{σ:St}{H:Hp}{s:Shared}
end
open PySem PySem.Spec PyProof.Rows
section
variable{X:Cx}
end
end L2
namespace HT
open PySem PySem.Spec PyProof.Rows
section
variable{prog:B66}{w:World}{A:Around}{E:Value->Shared->Prop}{s:Shared}
end
end HT
namespace L2
open PySem PySem.Spec PyProof.Rows Fw
section
variable{X:Cx}{e:Expr}{te:TE}{st:Option Expr}{tst:TO}{pos p2:Pos}
theorem qJT (hu:X.A.units<cLine):OpR X (B80 .NotEq) (λx y H Q=>∃(p l:Addr) (zs ys:List Int),x=.ref p/\y=.ref l/\SqL X.K H p (zs.map V.int)/\SqL X.K H l (ys.map V.int)/\Q (.bl (decide (zs≠ys))) H):=by
 intro Ab s σ H x y v u Q I rx ry h;obtain⟨p,l,zs,ys,rfl,rfl,d,f,q⟩:=h;cases rx;cases ry;obtain⟨us,w,r,z1⟩:=I.list d;obtain⟨vs,r2,p2,z2⟩:=I.list f;have g:=w.length;have m:=r2.length;rw[A0] at g m;by_cases o:zs.length=ys.length
 ·refine A11 (e:=λj=>decide (zs[j]?=ys[j]?)) r.isList p2.isList (by simp[<- g,<- m,o]) hu (λj d f=>?_) _ _ _ _ ⟨.bl (decide (zs≠ys)),H,I,?_,q⟩
  ·rw[C0] at d f;have hz:j<zs.length:=by lia
   have k:j<ys.length:=by lia
   obtain⟨a,ea,ra⟩:=w.get (i:=j) (x:=.int zs[j]) (by rw[B9,A4 hz];rfl)
   obtain⟨b,eb,rb⟩:=r2.get (i:=j) (x:=.int ys[j]) (by rw[B9,A4 k];rfl)
   obtain⟨t,rfl⟩:=ra;obtain⟨n,rfl⟩:=rb;have e1:us.toArray[j]=.int zs[j] t:=by
    rw[Y3];exact D5 ((A4 d).symm.trans ea)
   have e2:vs.toArray[j]=.int ys[j] n:=by
    rw[Y3];exact D5 ((A4 f).symm.trans eb)
   rw[e1,e2];have:=a8 (A:=X.A.in1) (s:=s) zs[j] t ys[j] n;rw[show(zs[j]==ys[j])=decide (zs[j]?=ys[j]?) by rw[A4 hz,A4 k];by_cases c:zs[j]=ys[j]<;>simp[c]] at this
   exact this
  ·show p7 _=p7 _;congr 1;rw[C0,<- g];by_cases c:zs=ys
   ·subst c;simp
   ·have dc:decide (zs≠ys)=true:=decide_eq_true c;rw[dc];rw[Bool.not_eq_true'];rw[<- Bool.not_eq_true,J3];intro z;apply c;apply A13;intro i;by_cases hi:i<zs.length
    ·exact of_decide_eq_true (z i (D9.mpr hi))
    ·rw[J9 (by lia),J9 (by lia)]
 ·refine c6 r.isList p2.isList (by simp;lia) hu _ _ _ _ ⟨.bl true,H,I,rfl,?_⟩
  have:decide (zs≠ys)=true:=decide_eq_true (λz=>o (by rw[z]))
  rw[this] at q;exact q
end
open PySem PySem.Spec PyProof.Rows
section
variable{X:Cx}
theorem qZW {A:Around}{s:Shared}{Ab:List (Addr×Obj)}{σ:St}{H:Hp}(I:Inv X Ab σ H s)(hu:A.units<cLine){a b:Addr}{zs d:List Int}(z:H a=some (.tup (zs.map V.int)))(f:H b=some (.tup (d.map V.int))):SeqAt.EqAt A s (.ref a) (.ref b) (decide (zs=d)):=by
 have k:∀{u v:List Int},u.map V.int=v.map V.int->u=v:=by
  intro u
  induction u with
  |nil=>intro v h;cases v with|nil=>rfl|cons _ _=>cases h
  |cons x u ih=>
   intro v h;cases v with
   |nil=>cases h
   |cons y v=>
    rw[C7,C7] at h
    injection h with h1 h2
    injection h1 with h1
    rw[h1,ih h2]
 by_cases e:a=b
 ·subst e;rw[z] at f
  injection f with f
  injection f with f
  rw[decide_eq_true (k f)];exact B18 _
 ·obtain ⟨l,r,p1,z1⟩:=I.tuple (SqT.of z);obtain ⟨m,r2,p2,z2⟩:=I.tuple (SqT.of f);have l1:=r.length;have p:=r2.length;rw [A0] at l1 p;refine SeqAt.EqAt.of_refs e ?_;have g:=SeqAt.RcAt.tuples (A:=A) (s:=s) (e:=fun j=>decide (zs[j]?=d[j]?)) p1 p2 hu (fun j h1 h2=>by
   rw[C0] at h1 h2;have w:j<zs.length:=by lia
   have o:j<d.length:=by lia
   obtain⟨a,ea,ra⟩:=r.get (i:=j) (x:=.int zs[j]) (by rw[B9,A4 w];rfl)
   obtain⟨b,n,rb⟩:=r2.get (i:=j) (x:=.int d[j]) (by rw[B9,A4 o];rfl)
   obtain⟨t,rfl⟩:=ra;obtain⟨q,rfl⟩:=rb;have e1:l.toArray[j]=.int zs[j] t:=by
    rw[Y3];exact D5 ((A4 h1).symm.trans ea)
   have e2:m.toArray[j]=.int d[j] q:=by
    rw[Y3];exact D5 ((A4 h2).symm.trans n)
   rw[e1,e2];have:=a8 (A:=A.in1) (s:=s) zs[j] t d[j] q;rw[show(zs[j]==d[j])=decide (zs[j]?=d[j]?) by rw[A4 w,A4 o];by_cases c:zs[j]=d[j]<;>simp[c]] at this
   exact this)
  have n:((F2 (min l.toArray.size m.toArray.size)).all (λj=>decide (zs[j]?=d[j]?))&&l.toArray.size==m.toArray.size)=decide (zs=d):=by
   rw[C0,C0,<- l1,<- p,L7,P2,J3,beq_iff_eq,decide_eq_true_eq]
   constructor
   ·rintro⟨h1,h2⟩;refine A13 λi=>?_;by_cases hi:i<zs.length
    ·exact of_decide_eq_true (h1 i (D9.mpr (by lia)))
    ·rw[J9 (by lia),J9 (by lia)]
   ·rintro rfl;exact⟨λ_ _=>decide_eq_true rfl,rfl⟩
  rw[n] at g;exact g
theorem qa9 {b:List Addr}{c:List Value}(h:Vals (b.map V.ref) c):c=b.map E1:=by
 induction b generalizing c with
 |nil=>cases h;rfl
 |cons a b ih=>cases h with|cons h1 h2=>cases h1;rw[ih h2];rfl
theorem qMN (hu:X.A.units+64<cLine):OpR X (B80 .NotIn) (λx y H Q=>∃(p l:Addr) (zs:List Int) (rs:List Addr) (ts:List (List Int)),x=.ref p/\y=.ref l/\H p=some (.tup (zs.map V.int))/\SqL X.K H l (rs.map V.ref)/\Paired (λ(r:Addr) (t:List Int)=>H r=some (.tup (t.map V.int))) rs ts/\Q (.bl (decide (zs∉ts))) H):=by
 intro Ab s σ H x y v u Q I rx n h;obtain⟨p,l,zs,rs,ts,rfl,rfl,h1,j,T,q⟩:=h;cases rx;cases n;obtain⟨m,r,i,o⟩:=I.list j;have ei:=qa9 r;subst ei;have b:∀{rs:List Addr} {ts:List (List Int)},Paired (λ(r:Addr) (t:List Int)=>H r=some (.tup (t.map V.int))) rs ts->∀r∈rs,∃t:List Int,H r=some (.tup (t.map V.int)):=by
  intro rs ts h
  induction h with
  |nil=>exactλr a=>nomatch a
  |cons g _ ih=>exactλr a=>(B6.mp a).elim (λe=>⟨_,e▸g⟩) (ih r)
 refine A76 (λw=>decide (L2.G.keyH H w=zs)) i.isList (λw hw=>?_) ⟨.bl _,H,I,rfl,?_⟩
 ·obtain⟨k,d,rfl⟩:=D2.mp (show w∈rs.map E1 by simpa using hw)
  obtain⟨t,f⟩:=b T k d;rw[L2.G.keyH_at f];exact qZW I (by show X.A.units+1<cLine;lia) f h1
 ·have e:(!(rs.map E1).toArray.any λw=>decide (L2.G.keyH H w=zs))=decide (zs∉ts):=by
   have e2:((rs.map E1).any λw=>decide (L2.G.keyH H w=zs))=decide (zs∈ts):=by
    clear q r i o j
    induction T with
    |nil=>simp
    |@cons k t rs ts g _ ih=>
     rw[C7,W3,ih,L2.G.keyH_at g,L7,T6,decide_eq_true_eq,decide_eq_true_eq,decide_eq_true_eq,B6];exact⟨λh=>h.imp B60 id,λh=>h.imp B60 id⟩
   rw[List.any_toArray,e2];by_cases c:zs∈ts
   ·rw[decide_eq_true c,decide_eq_false (λz=>z c)];rfl
   ·rw[decide_eq_false c,decide_eq_true c];rfl
  rw[e];exact q
end
end L2
namespace Fw
open PySem L2
abbrev MovL (H:Hp):List Addr->List (Str×Int)->Prop:=Paired λr m=>H r=some (.tup [.str m.1,.int m.2])
theorem MovL.same {H H':Hp}{b:List Addr}{a:List (Str×Int)}(h:MovL H b a)(k:Same H H'):MovL H' b a:=by
 induction h with
 |nil=>exact .nil
 |cons r t ih=>exact .cons (k _ _ r) ih
theorem MovL.put {H:Hp}{p:Addr}{xs:List V}{o:HO}{b:List Addr}{a:List (Str×Int)}(h:MovL H b a)(c:H p=some (.lst xs)):MovL (Ag H p o) b a:=by
 induction h with
 |nil=>exact .nil
 |cons r t ih=>exact .cons (by rw[qA9 (qCP r c (by intro z;cases z))];exact r) ih
theorem qSX {α β:Type}{F:α->β->Prop}{a c:List α}{b d:List β}(h:Paired F a b)(k:Paired F c d):Paired F (a++c) (b++d):=by
 induction h with
 |nil=>exact k
 |cons r t ih=>exact .cons r ih
theorem MovL.snoc {H:Hp}{b:List Addr}{a:List (Str×Int)}{r:Addr}{c:Str}{x:Int}(h:MovL H b a)(e:H r=some (.tup [.str c,.int x])):MovL H (b++[r]) (a++[(c,x)]):=T5 h e
theorem MovL.app {H:Hp}{d b:List Addr}{c a:List (Str×Int)}(h:MovL H d c)(h':MovL H b a):MovL H (d++b) (c++a):=qSX h h'
noncomputable def qIR (w:Str)(n:Nat):List (Str×Int):=(F2 n).map λ(i:Nat)=>(w,(i:Int))
theorem qLC (w:Str)(n:Nat):qIR w (n+1)=qIR w n++[(w,0+(n:Int))]:=by
 unfold qIR;rw[B26,B1,B02]
 rfl
theorem qFA (w:Str)(n:Nat):(qIR w n).length=n:=by unfold qIR;simp
noncomputable def wd (Ae:List (List Int))(st:List Int)(Aa:Int)(m:Str×Int):V:=qCH ((Ae[m.2.toNat]?).getD []) st Aa m.1 m.2
noncomputable def qKX (n:Nat):List (Str×Int):=qIR "do" n++qIR "clear" n
noncomputable def qD4 (Ae:List (List Int))(st:List Int)(Aa:Int):List (Str×Int):=(qKX Ae.length).filter λm=>decide (wd Ae st Aa m=.non)
theorem qOT (n:Nat):(qKX n).length=n+n:=by unfold qKX;rw[B0,qFA,qFA]
theorem qS1 {n:Nat} {m:Str×Int} (h:m∈qKX n):(m.1 = "do"\/m.1 = "clear")/\0<=m.2/\m.2<(n:Int):=by
 unfold qKX qIR at h;rcases A8.mp h with h|h
 ·obtain⟨i,a,rfl⟩:=D2.mp h;have:=D9.mp a;exact⟨.inl rfl,by simp;lia⟩
 ·obtain⟨i,a,rfl⟩:=D2.mp h;have:=D9.mp a;exact⟨.inr rfl,by simp;lia⟩
def qJF:Sp:=λvs H Q _=>∃(a s:Addr) (Ae:List (List Int)) (st:List Int) (Aa:Int),vs=[.ref a,.int Aa,.ref s]/\NetAt H a Ae/\WFn Ae/\Ae.length<=1000/\H s=some (.tup (st.map V.int))/\st.length<=1000/\
 ∀l rs H',Same H H'->H l=none->H' l=some (.lst (rs.map V.ref))->MovL H' rs (qD4 Ae st Aa)->Q (.ref l) H'
theorem qPO {n:Int}{i:Nat}(h:(i:Int)<n):(qBX 0 n)[i]?=some (i:Int):=by
 unfold qBX;rw[B9,List.getElem?_range (by lia)]
 simp
theorem qC0 {α:Type}{l:List α}{n:Nat}(h:l.length=n):l.take n=l:=D0 (by lia)
theorem qDP {p:Int->Bool}{l:List Int}{i:Nat}:((l.take i).filter p).length<=i:=by
 have:=P4 p (l.take i);rw[C5] at this
 lia
structure Cnt (n:Nat)(cs:List Int)(seen:List Int):Prop where
 len:cs.length=n
 at_:∀x:Nat,x<n->∃c,cs[x]?=some c/\0<=c/\(c=0↔(x:Int)∉seen)
theorem qB2 {n:Nat}(h:n<=1000000):n<B64:=by rw[B77];lia
inductive Nd (Ae:List (List Int))(Ad:List Int):Int->Prop
 |ask {x:Int}:x∈Ad->Nd Ae Ad x
 |need {w y:Int} {zs:List Int}:Nd Ae Ad w->Ae[w.toNat]?=some zs->y∈zs->Nd Ae Ad y
structure KeysI (Af:List (Key×V))(ks:List Int):Prop where
 keys:Af.map (·.1)=ks.map G0
 nd:ks.Nodup
theorem KeysI.len {Af:List (Key×V)}{ks:List Int}(h:KeysI Af ks):Af.length=ks.length:=by
 have:=congrArg T3 h.keys;simpa using this
theorem KeysI.nil:KeysI [] []:=⟨rfl,.nil⟩
theorem qQR (k:Key):∀Af:List (Key×V),(Af.any λkv=>decide (kv.1=k))=true↔k∈Af.map (·.1)
 |[]=>by simp
 |p::r=>by
  rw[W3,C7,T6,qQR k r,B6,decide_eq_true_eq];exact or_congr_left ⟨B60,B60⟩
theorem KeysI.mem {Af:List (Key×V)}{ks:List Int}(h:KeysI Af ks)(x:Int):(G0 x:Key)∈Af.map (·.1)↔x∈ks:=by
 rw[h.keys,D2];exact⟨λ⟨y,a,e⟩=>p8 e▸a,λb=>⟨x,b,rfl⟩⟩
theorem KeysI.has {Af:List (Key×V)}{ks:List Int}(h:KeysI Af ks)(x:Int):(valV Af (G0 x)).isSome=decide (x∈ks):=by
 rw[<- qFP];have:=(qQR (G0 x) Af).trans (h.mem x);by_cases e:x∈ks
 ·rw[decide_eq_true e];exact this.mpr e
 ·rw[decide_eq_false e];exact F7.mpr λz=>e (this.mp z)
theorem qRP (k:Key)(v:V):∀Af:List (Key×V),(Af.map λkv=>if kv.1=k then(kv.1,v) else kv).map (·.1)=Af.map (·.1)
 |[]=>rfl
 |p::r=>by
  rw[C7,C7,C7,qRP k v r];congr 1
  split<;>rfl
theorem KeysI.put {Af:List (Key×V)}{ks:List Int}(h:KeysI Af ks)(x:Int)(v:V):KeysI (putK Af (G0 x) v) (addI ks x):=by
 have a:=(qQR (G0 x) Af).trans (h.mem x);unfold putK addI;by_cases e:x∈ks
 ·rw[if_pos (a.mpr e),if_pos e];exact⟨by rw[qRP];exact h.keys,h.nd⟩
 ·rw[if_neg λz=>e (a.mp z),if_neg e];refine⟨by rw[B1,B1,h.keys];rfl,qGD h.nd e⟩
theorem qUZ {ks:List Int}{n:Nat}(h:ks.Nodup)(b:∀x∈ks,0<=x/\x<(n:Int)):ks.length<=n:=by
 have a:ks ⊆ (F2 n).map λ(i:Nat)=>(i:Int):=λx c=>by
  have:=b x c;exact D2.mpr ⟨x.toNat,D9.mpr (by lia),by lia⟩
 have:=O6 h a;simpa using this
structure Fnd (Ae:List (List Int))(Ad ks:List Int)(j:Int):Prop where
 in_:∀x∈ks,(0<=x/\x<(Ae.length:Int))/\Nd Ae Ad x
 ask:∀x∈Ad,x∈ks
 clo:∀(w:Nat) zs,j<=(w:Int)->(w:Int)∈ks->Ae[w]?=some zs->∀y∈zs,y∈ks
theorem Fnd.all {Ae:List (List Int)}{Ad ks:List Int}(c:WFn Ae)(h:Fnd Ae Ad ks 0)(x:Int):x∈ks↔Nd Ae Ad x:=by
 refine⟨λa=>(h.in_ x a).2,λa=>?_⟩
 induction a with
 |ask m=>exact h.ask _ m
 |@need w y zs _ e m ih=>
  have b:=(h.in_ w ih).1;exact h.clo w.toNat zs (by lia) (by rw[show((w.toNat:Nat):Int)=w by lia];exact ih) e y m
def qAM (Ae:List (List Int))(Ad zs:List Int):Prop:=Rise (Ae.length:Int) zs/\∀x,x∈zs↔Nd Ae Ad x
theorem qIL:∀{l m:List Int},l.Pairwise (·<·)->m.Pairwise (·<·)->(∀x,x∈l↔x∈m)->l=m
 |[],[],_,_,_=>rfl
 |[],y::m,_,_,h=>absurd ((h y).mpr (by simp)) (by simp)
 |x::l,[],_,_,h=>absurd ((h x).mp (by simp)) (by simp)
 |x::l,y::m,hl,hm,h=>by
  have l1:=P8.mp hl;have m1:=P8.mp hm;have exy:x=y:=by
   rcases B6.mp ((h x).mp (by simp)) with e|e
   ·exact e
   ·rcases B6.mp ((h y).mpr (by simp)) with e2|e2
    ·exact e2.symm
    ·have:=m1.1 x e;have:=l1.1 y e2
     lia
  subst exy;rw[qIL l1.2 m1.2 λz=>?_]
  constructor
  ·intro hz;rcases B6.mp ((h z).mp (by simp[hz])) with e|e
   ·have:=l1.1 z hz;lia
   ·exact e
  ·intro hz;rcases B6.mp ((h z).mpr (by simp[hz])) with e|e
   ·have:=m1.1 z hz;lia
   ·exact e
noncomputable def qCE (ws:List Int)(x:Int):Option Int:=if x∈ws then some (ws.idxOf x:Int) else none
theorem qGV {a:List Int}{x p:Int}(h:qCE a x=some p):0<=p/\a[p.toNat]?=some x:=by
 unfold qCE at h
 split at h
 ·rename_i m
  cases h;have b:=List.idxOf_lt_length_iff.mpr m;refine⟨by lia,?_⟩
  rw[E4,A4 b,List.getElem_idxOf]
 ·cases h
theorem qC1 {a:List Int}(c:a.Nodup){x:Int}{i:Nat}(h:a[i]?=some x):qCE a x=some (i:Int):=by
 obtain⟨b,e⟩:=A3.mp h;unfold qCE;rw[if_pos (by rw[<- e];exact W7 b),<- e,c.idxOf_getElem]
theorem qSU {a:List Int}(d:a.Nodup){i:Nat}{y:Int}(h:a[i]?=some y)(x:Int):qCE (a.take (i+1)) x=if x=y then some (i:Int) else qCE (a.take i) x:=by
 obtain⟨g,e⟩:=A3.mp h;have f:a.take (i+1)=a.take i++[y]:=by rw[C8,h];rfl
 have c:(a.take (i+1)).Nodup:=d.sublist (V4 _ _);by_cases b:x=y
 ·subst b;rw[if_pos rfl];exact qC1 c (by rw[Q8 (by lia)];exact h)
 ·rw[if_neg b];unfold qCE;rw[f];by_cases m:x∈a.take i
  ·rw[if_pos (by simp[m]),if_pos m,List.idxOf_append,if_pos m]
  ·rw[if_neg (by simp[m,b]),if_neg m]
noncomputable def qBR (Ae:List (List Int))(a:List Int):List (List Int):=a.map λw=>((Ae[w.toNat]?).getD []).filterMap (qCE a)
theorem qBL (Ae:List (List Int))(a:List Int):(qBR Ae a).length=a.length:=by simp[qBR]
theorem qGX {Ae:List (List Int)}{a:List Int}{i:Nat}{w:Int}(h:a[i]?=some w):(qBR Ae a)[i]?=some (((Ae[w.toNat]?).getD []).filterMap (qCE a)):=by
 unfold qBR;rw[B9,h]
 rfl
theorem qNL {c:List Int}(m:c.Pairwise (·<·)){i j:Nat}{x y:Int}(l:c[i]?=some x)(k:c[j]?=some y):i<j↔x<y:=by
 obtain⟨g,o⟩:=A3.mp l;obtain⟨f,n⟩:=A3.mp k;have d:∀a b (ha:a<c.length) (hb:b<c.length),a<b->c[a]<c[b]:=λa b ha hb e=>F8.mp m a b ha hb e
 constructor
 ·intro h;have:=d i j g f h
  lia
 ·intro h;rcases k5 i j with z|z|z
  ·exact z
  ·subst z
   lia
  ·have:=d j i f g z
   lia
theorem qL0 {d zs:List Int}(g:d.Pairwise (·<·))(i:zs.Pairwise (·<·)):(zs.filterMap (qCE d)).Pairwise (·<·):=by
 rw[b9];refine i.imp λ{a b} c p e q h=>?_;obtain⟨k,f⟩:=qGV e;obtain⟨l,j⟩:=qGV h;have:=(qNL g f j).mpr c
 lia
theorem qCQ {c zs:List Int}(f:c.Nodup){p:Int}:p∈zs.filterMap (qCE c)↔0<=p/\∃x,c[p.toNat]?=some x/\x∈zs:=by
 rw[Q7]
 constructor
 ·rintro⟨x,a,e⟩;obtain⟨d,b⟩:=qGV e;exact⟨d,x,b,a⟩
 ·rintro⟨d,x,b,a⟩;refine⟨x,a,?_⟩;have:=qC1 f b;rw[this];congr 1
  lia
theorem qGZ {Ae:List (List Int)}(a:WFn Ae)(w:Nat):Rise (w:Int) ((Ae[w]?).getD []):=by
 cases e:Ae[w]? with
 |none=>exact Rise.nil
 |some zs=>exact a w zs e
theorem qCD {Ae:List (List Int)}{a:List Int}(g:WFn Ae)(r:Rise (Ae.length:Int) a):WFn (qBR Ae a):=by
 intro i m h;have d:i<a.length:=by rw[<- qBL Ae a];exact(A3.mp h).1
 have b:=A4 d;rw[qGX b] at h;cases h;have n:=(r.in_ a[i] (W7 d)).1;have c:=qGZ g a[i].toNat;refine⟨qL0 r.up c.up,λp f=>?_⟩;obtain⟨l,x,j,e⟩:=(qCQ r.nodup).mp f;have k:=c.in_ x e;have:=(qNL r.up j b).mpr (by lia)
 lia
def qc4:Sp:=λvs H Q _=>∃(r d:Addr) (zs:List Int) (Af:List (Key×V)) (num:Int->Option Int),vs=[.ref r,.ref d]/\H r=some (.tup (zs.map V.int))/\zs.length<=1000/\H d=some (.dK Af)/\(∀x,valV Af (G0 x)=(num x).map V.int)/\
 ∀r' H',Same H H'->H' r'=some (.tup ((zs.filterMap num).map V.int))->Q (.ref r') H'
abbrev Mv:=Str×Int
def nd (Ae:List (List Int))(w:Int):List Int:=(Ae[w.toNat]?).getD []
theorem qJW {Ae:List (List Int)}{w:Int}{zs:List Int}(h:Ae[w.toNat]?=some zs):nd Ae w=zs:=by unfold nd;rw[h];rfl
noncomputable def qD8 (Ae:List (List Int)):List Int->Int->Option Int
 |[],_=>none
 |w::r,y=>match qD8 Ae r y with
  |some v=>some v
  |none=>if y∈nd Ae w then some w else none
theorem qLG {Ae:List (List Int)}{y v:Int}:∀{l:List Int},qD8 Ae l y=some v->v∈l/\y∈nd Ae v
 |[],h=>by cases h
 |w::r,h=>by
  unfold qD8 at h;cases e:qD8 Ae r y with
  |some u=>
   rw[e] at h;cases h;have:=qLG e;exact⟨B3 _ this.1,this.2⟩
  |none=>
   rw[e] at h;dsimp only at h
   split at h
   ·cases h;exact⟨D8,by assumption⟩
   ·cases h
theorem lastOf_none {Ae:List (List Int)}{y:Int}:∀{l:List Int},qD8 Ae l y=none↔∀v∈l,y∉nd Ae v
 |[]=>by simp[qD8]
 |w::r=>by
  unfold qD8;have ih:=lastOf_none (Ae:=Ae) (y:=y) (l:=r);cases e:qD8 Ae r y with
  |some u=>
   refine⟨λz=>(by cases z),λz=>?_⟩
   have:=ih.mpr λv hv=>z v (B3 _ hv);rw[e] at this;cases this
  |none=>
   dsimp only;have q:=ih.mp e
   constructor
   ·intro z v hv
    split at z
    ·cases z
    ·rcases B6.mp hv with rfl|hv
     ·assumption
     ·exact q v hv
   ·intro z;rw[if_neg (z w D8)]
def later (Ae:List (List Int))(zs:List Int)(j:Nat)(x:Int):Prop:=∃v∈zs.drop j,x∈nd Ae v
instance (Ae:List (List Int)) (zs:List Int) (j:Nat) (x:Int):Decidable (later Ae zs j x):=by unfold later;infer_instance
theorem qVC {Ae:List (List Int)}{zs:List Int}(n:zs.Nodup){i:Nat}{w:Int}(h:zs[i]?=some w)(y:Int):qD8 Ae zs y=some w↔y∈nd Ae w/\¬later Ae zs (i+1) y:=by
 obtain⟨m,e⟩:=A3.mp h;have split:zs=zs.take i++w::zs.drop (i+1):=by rw[<- e,<- G3 m,X4]
 have d:∀(a b:List Int),w∉a->w∉b->(qD8 Ae (a++w::b) y=some w↔y∈nd Ae w/\¬ ∃v∈b,y∈nd Ae v):=by
  intro a b j p
  induction a with
  |nil=>
   show qD8 Ae (w::b) y=some w↔_;unfold qD8;cases q:qD8 Ae b y with
   |some v=>
    have:=qLG q
    constructor
    ·intro z;cases z;exact absurd this.1 p
    ·rintro⟨_,z⟩;exact absurd ⟨v,this.1,this.2⟩ z
   |none=>
    have:=lastOf_none.mp q;dsimp only
    constructor
    ·intro z
     split at z
     ·rename_i hy
      exact⟨hy,λ⟨v,k,c⟩=>this v k c⟩
     ·cases z
    ·rintro⟨z,_⟩;rw[if_pos z]
  |cons x a ih=>
   have ih:=ih λz=>j (B3 _ z);rw[A24];unfold qD8;cases q:qD8 Ae (a++w::b) y with
   |some v=>
    rw[q] at ih;exact ih
   |none=>
    rw[q] at ih;dsimp only
    constructor
    ·intro z
     split at z
     ·cases z;exact absurd D8 j
     ·cases z
    ·intro z;exact absurd (ih.mpr z) (by simp)
 have g:=n;rw[split] at g;have f:=A14.mp g;have o:w∉zs.drop (i+1):=(L9.mp f.2.1).1;have l:w∉zs.take i:=λz=>f.2.2 w z w D8 rfl;have:=d (zs.take i) (zs.drop (i+1)) l o;rw[<- split] at this;exact this
noncomputable def clrs (Ae:List (List Int))(Ad zs:List Int)(w:Int):List Int:=(nd Ae w).filter λy=>decide (qD8 Ae zs y=some w/\y∉Ad)
noncomputable def qUS (Ae:List (List Int)) (Ad zs:List Int) (w:Int):List Mv:=("do",w)::(clrs Ae Ad zs w).map λy=>("clear",y)
noncomputable def qRG (Ae:List (List Int))(Ad zs:List Int):List Mv:=zs.flatMap (qUS Ae Ad zs)
inductive Run (Ae:List (List Int))(Aa:Int):List Int->List Mv->List Int->Prop
 |nil {s:List Int}:Run Ae Aa s [] s
 |do_ {s s' t:List Int} {w:Int} {ms:List Mv}:w∉s->(∀y∈nd Ae w,y∈s)->(s.length:Int)<Aa->s'.Perm (s++[w])->s'.Pairwise (·<·)->Run Ae Aa s' ms t->Run Ae Aa s (("do",w)::ms) t
 |clear {s t:List Int} {w:Int} {ms:List Mv}:w∈s->Run Ae Aa (s.filter λx=>decide (x≠w)) ms t->Run Ae Aa s (("clear",w)::ms) t
noncomputable def qEF (ms:List Mv):List Int:=ms.filterMap λ(m:Mv)=>if m.1=D4 "do" then some m.2 else none
theorem qOX (a b:List Mv):qEF (a++b)=qEF a++qEF b:=U9
theorem qUC:∀{s:List Int} {w:Int},s.Nodup->w∈s->(s.filter λx=>decide (x≠w)).length+1=s.length
 |[],w,_,h=>by cases h
 |x::s,w,n,h=>by
  have n2:=L9.mp n;by_cases e:x=w
  ·subst e;have:s.filter (λy=>decide (y≠x))=s:=Z3.mpr λy hy=>decide_eq_true λz=>n2.1 (z▸hy);rw[O1,if_neg (by simp),this,D3]
  ·rw[O1,if_pos (by simpa using e),D3,D3,qUC n2.2 ((B6.mp h).resolve_left λz=>e z.symm)]
theorem Run.len {Ae:List (List Int)}{Aa:Int}{s t:List Int}{c:List Mv}(h:Run Ae Aa s c t):s.Nodup->c.length+t.length=s.length+2*(qEF c).length:=by
 induction h with
 |nil=>intro _;simp[qEF]
 |@do_ s s' t w c h1 h2 h3 h4 h5 h6 ih=>
  intro _;have e:=ih (h5.imp λ{a b} f=>by lia)
  have l:=h4.length_eq;rw[B0,B8] at l;have d:(qEF (("do",w)::c)).length=(qEF c).length+1:=by simp[qEF]
  rw[d,D3]
  lia
 |@clear s t w c h1 h2 ih=>
  intro n;have e:=ih (n.filter _);have l:=qUC n h1;have d:qEF (("clear",w)::c)=qEF c:=by unfold qEF;rw[K0,if_neg qAF]
  rw[d,D3]
  lia
theorem qL6 {Ae:List (List Int)} {Aa:Int} {t:List Int} {ms:List Mv}:∀{cs s:List Int},cs.Nodup->(∀y∈cs,y∈s)->Run Ae Aa (s.filter λx=>decide (x∉cs)) ms t->Run Ae Aa s ((cs.map λy=>(("clear",y):Mv))++ms) t
 |[],s,_,_,h=>by
  have:(s.filter λx=>decide (x∉([]:List Int)))=s:=Z3.mpr λx _=>decide_eq_true (by simp)
  rw[this] at h;exact h
 |c::cs,s,n,hs,h=>by
  have n2:=L9.mp n;refine .clear (hs c D8) (qL6 n2.2 (λy hy=>D6.mpr ⟨hs y (B3 _ hy),decide_eq_true λz=>n2.1 (z▸hy)⟩) ?_);rw[List.filter_filter];have:(s.filter λx=>decide (x∉cs)&&decide (x≠c))=s.filter λx=>decide (x∉c::cs):=by
   refine A15 λx _=>?_;rw[<- Bool.decide_and];exact decide_eq_decide.mpr ⟨λ⟨a,b⟩ z=>(B6.mp z).elim b a,λz=>⟨λq=>z (B3 _ q),λq=>z (q▸D8)⟩⟩
  rw[this];exact h
noncomputable def stAt (Ae:List (List Int))(Ad zs:List Int)(i:Nat):List Int:=(zs.take i).filter λx=>decide (x∈Ad\/later Ae zs i x)
section
variable{Ae:List (List Int)}{Ad zs:List Int}
theorem qHS (j:WFn Ae)(N:qAM Ae Ad zs){i:Nat}{w y:Int}(h:zs[i]?=some w)(a:y∈nd Ae w):y∈zs.take i/\y<w:=by
 have b:=A9 h;have l:=N.1.in_ w b;have g:w.toNat<Ae.length:=by lia
 have e:=A4 g;rw[qJW e] at a;have m:=(j w.toNat _ e).in_ y a;have d:y∈zs:=(N.2 y).mpr (.need ((N.2 w).mp b) e a);obtain⟨k,c⟩:=E5 d;have f:k<i:=(qNL N.1.up c h).mpr (by lia)
 refine⟨A9 (i:=k) (by rw[Q8 f];exact c),by lia⟩
theorem qYZ (N:qAM Ae Ad zs)(d:WFn Ae){i:Nat}{w:Int}(h:zs[i]?=some w):w∈Ad\/later Ae zs (i+1) w:=by
 have c:=A9 h;cases(N.2 w).mp c with
 |ask m=>exact .inl m
 |@need v _ ns hv e hm=>
  have b:=(N.2 v).mpr hv;obtain⟨k,a⟩:=E5 b;have q:=qHS d N a (by rw[qJW e];exact hm)
  have f:i<k:=(qNL N.1.up h a).mpr q.2;refine .inr ⟨v,A9 (i:=k-(i+1)) ?_,by rw[qJW e];exact hm⟩
  rw[A77,show i+1+(k-(i+1))=k by lia]
  exact a
theorem qTS (N:qAM Ae Ad zs){i:Nat}{w x:Int}(h:zs[i]?=some w)(c:x∈zs.take i):x<w:=by
 obtain⟨k,a⟩:=E5 c;have b:k<i:=by have:=(A3.mp a).1;rw[C5] at this;lia
 rw[Q8 b] at a;exact(qNL N.1.up a h).mp b
theorem qa2 (N:qAM Ae Ad zs)(i:Nat):(stAt Ae Ad zs i).Pairwise (·<·):=(N.1.up.sublist (V4 _ _)).filter _
theorem qL3 (N:qAM Ae Ad zs){i:Nat}{w:Int}(h:zs[i]?=some w):(stAt Ae Ad zs i++[w]).Pairwise (·<·):=by
 refine P9.mpr ⟨qa2 N i,A22 _ _,λx b y a=>?_⟩;rw[A6.mp a];exact qTS N h (D6.mp b).1
theorem mem_st {i:Nat}{x:Int}:x∈stAt Ae Ad zs i↔x∈zs.take i/\(x∈Ad\/later Ae zs i x):=by
 unfold stAt;rw[D6,decide_eq_true_eq]
theorem qLE {i:Nat}{w x:Int}(h:zs[i]?=some w):later Ae zs i x↔x∈nd Ae w\/later Ae zs (i+1) x:=by
 obtain⟨a,e⟩:=A3.mp h;unfold later;rw[G3 a,e];simp only[B6,exists_eq_or_imp]
theorem qUY (b:WFn Ae)(N:qAM Ae Ad zs){i:Nat}{w y:Int}(h:zs[i]?=some w)(a:y∈nd Ae w):y∈stAt Ae Ad zs i:=mem_st.mpr ⟨(qHS b N h a).1,.inr ((qLE h).mpr (.inl a))⟩
theorem qMQ (N:qAM Ae Ad zs){i:Nat}{w:Int}(h:zs[i]?=some w){x:Int}:x∈clrs Ae Ad zs w↔x∈nd Ae w/\¬later Ae zs (i+1) x/\x∉Ad:=by
 unfold clrs;rw[D6,decide_eq_true_eq,qVC N.1.nodup h]
 constructor
 ·rintro⟨a,⟨_,b⟩,c⟩;exact⟨a,b,c⟩
 ·rintro⟨a,b,c⟩;exact⟨a,⟨a,b⟩,c⟩
theorem qeE (a:WFn Ae)(w:Int):(nd Ae w).Pairwise (·<·):=(qGZ a w.toNat).up
theorem qbI (a:WFn Ae)(w:Int):(clrs Ae Ad zs w).Pairwise (·<·):=(qeE a w).filter _
theorem qa3 (e:WFn Ae)(N:qAM Ae Ad zs){i:Nat}{w:Int}(h:zs[i]?=some w):((stAt Ae Ad zs i++[w]).filter λx=>decide (x∉clrs Ae Ad zs w))=stAt Ae Ad zs (i+1):=by
 refine qIL ((qL3 N h).filter _) (qa2 N (i+1)) λx=>?_;rw[D6,decide_eq_true_eq,qMQ N h,A8,A6,mem_st,mem_st,qLE h,C8,h,C9,A8,A6]
 constructor
 ·rintro⟨a|a,b⟩
  ·refine⟨.inl a.1,?_⟩;rcases a.2 with q|q|q
   ·exact .inl q
   ·by_cases c:x∈Ad
    ·exact .inl c
    ·by_cases l:later Ae zs (i+1) x
     ·exact .inr l
     ·exact absurd ⟨q,l,c⟩ b
   ·exact .inr q
  ·rw[a];exact⟨.inr rfl,qYZ N e h⟩
 ·rintro⟨a|a,b⟩
  ·exact⟨.inl ⟨a,b.imp id .inr⟩,λ⟨_,c,d⟩=>b.elim d c⟩
  ·exact⟨.inr a,λ⟨_,c,d⟩=>b.elim d c⟩
theorem qc2 (i:Nat):(stAt Ae Ad zs i).length<=i:=by
 have:=P4 (λx=>decide (x∈Ad\/later Ae zs i x)) (zs.take i);rw[C5] at this;unfold stAt
 lia
theorem st_end (N:qAM Ae Ad zs)(b:Ad.Pairwise (·<·)):stAt Ae Ad zs zs.length=Ad:=by
 refine qIL (qa2 N _) b λx=>?_;rw[mem_st,L4]
 constructor
 ·rintro⟨_,q|⟨v,a,_⟩⟩
  ·exact q
  ·rw[A29] at a;cases a
 ·intro q;exact⟨(N.2 x).mpr (.ask q),.inl q⟩
theorem qRF (wf:WFn Ae)(N:qAM Ae Ad zs)(ua:Ad.Pairwise (·<·)):∀(m i:Nat),zs.length-i=m->i<=zs.length->Run Ae (Ae.length:Int) (stAt Ae Ad zs i) ((zs.drop i).flatMap (qUS Ae Ad zs)) Ad
 |0,i,hm,hi=>by
  have e:i=zs.length:=by lia
  rw[e,A29,st_end N ua];exact .nil
 |m+1,i,hm,hi=>by
  have lt:i<zs.length:=by lia
  have h:=A4 lt;rw[G3 lt,A95];generalize zs[i]=w at h;have lz:=N.1.len;have ls:=qc2 (Ae:=Ae) (Ad:=Ad) (zs:=zs) i;refine .do_ (λz=>?_) (λy hy=>qUY wf N h hy) (by lia) (.refl _) (qL3 N h) (qL6 ((qbI wf w).imp λ{a b} hab=>by lia) (λy hy=>A8.mpr (.inl (qUY wf N h ((qMQ N h).mp hy).1))) ?_)
  ·have:=qTS N h (mem_st.mp z).1
   lia
  ·rw[qa3 wf N h];exact qRF wf N ua m (i+1) (by lia) (by lia)
theorem qaC (a:WFn Ae)(N:qAM Ae Ad zs)(b:Ad.Pairwise (·<·)):Run Ae (Ae.length:Int) [] (qRG Ae Ad zs) Ad:=by
 have:=qRF a N b zs.length 0 rfl (F3 _);exact this
theorem qYU (w:Int):qEF (qUS Ae Ad zs w)=[w]:=by
 unfold qUS qEF;rw[K0,if_pos rfl];dsimp only;congr 1;rw[A79];exact List.filterMap_eq_nil_iff.mpr λy _=>if_neg (t:=some y) qAF
theorem qYV (l:List Int):qEF (l.flatMap (qUS Ae Ad zs))=l:=by
 induction l with
 |nil=>rfl
 |cons w l ih=>
  rw[A95,qOX,qYU,ih]
  rfl
theorem qXS (f:WFn Ae) (N:qAM Ae Ad zs) {m:Mv} (h:m∈qRG Ae Ad zs):(m.1 = "do"\/m.1 = "clear")/\0<=m.2/\m.2<(Ae.length:Int):=by
 obtain⟨w,a,d⟩:=List.mem_flatMap.mp h;obtain⟨i,b⟩:=E5 a;have g:=N.1.in_ w a;rcases B6.mp d with e|e
 ·rw[e];exact⟨.inl rfl,g⟩
 ·obtain⟨y,c,e⟩:=D2.mp e;rw[<- e];have:=qHS f N b ((qMQ N b).mp c).1;have j:=N.1.in_ y (O5 this.1);exact⟨.inr rfl,j⟩
theorem qLB {c:List Int}(a:qAM Ae Ad zs)(b:qAM Ae Ad c):zs=c:=qIL a.1.up b.1.up λx=>(a.2 x).trans (b.2 x).symm
end
def PlanAt (H:Hp)(l:Addr)(ms:List Mv):Prop:=∃rs:List Addr,H l=some (.lst (rs.map V.ref))/\MovL H rs ms
theorem PlanAt.same {H H':Hp}{l:Addr}{a:List Mv}(h:PlanAt H l a)(k:Same H H'):PlanAt H' l a:=by
 obtain⟨b,d,c⟩:=h;exact⟨b,k _ _ d,c.same k⟩
def qI4 (H:Hp)(t:Addr)(Ae:List (List Int))(Ad:List Int):Prop:=H t=some (.tup (Ad.map V.int))/\Rise (Ae.length:Int) Ad
def qU5:Sp:=λvs H Q _=>∃d c t ns a Ae,vs=[.ref d,.ref a]/\StAt H d c t ns/\t<=TB-100/\NetAt H a Ae/\WFn Ae/\1<=Ae.length/\Ae.length<=400/\
 ∀r ws t' ns' H',StAt H' d c t' ns'->t<=t'->t'<=t+10->Keep d c H H'->H' r=some (.tup (ws.map V.int))->Rise (Ae.length:Int) ws->1<=ws.length->Q (.ref r) H'
def qR0:Sp:=λvs H Q _=>∃(a mv:Addr) (Ae:List (List Int)) (Ac:Str) (wk:Int),vs=[.ref a,.ref mv]/\NetAt H a Ae/\H mv=some (.tup [.str Ac,.int wk])/\(Ac = "do"\/Ac = "clear")/\0<=wk/\wk<(Ae.length:Int)/\∀H',Same H H'->Q (.bl true) H'
theorem qWT:B70 "dict" = some (.type "dict"):=by decide +kernel
noncomputable def lv (L:List Int)(x:Int):Int:=(L[x.toNat]?).getD 0
structure Lev (Ae:List (List Int))(L:List Int):Prop where
 len:L.length=Ae.length
 at_:∀(i:Nat) zs,Ae[i]?=some zs->∃l,L[i]?=some l/\0<=l/\l<=(i:Int)/\(∀y∈zs,lv L y+1<=l)/\(l=0\/∃y∈zs,lv L y+1=l)
structure Fd (n:Nat)(L:List Int)(S:Int->Prop)(fs:List Int):Prop where
 len:fs.length=n
 at_:∀w:Nat,w<n->(S w->fs[w]?=some (lv L w))/\(¬S w->fs[w]?=some 0)
structure CntX (n:Nat)(cs:List Int)(seen:List Int):Prop where
 len:cs.length=n
 at_:∀x:Nat,x<n->cs[x]?=some ((seen.count (x:Int):Nat):Int)
def Beh (st st':List Int) (Ac:Str) (wk:Int):Prop:=(Ac = "do"->st'.Perm (st++[wk])/\st'.Pairwise (·<=·))/\(Ac = "clear"->st'=st.filter λx=>decide (x≠wk))
theorem qSM:∀{l m:List Int},l.Perm m->l.Pairwise (·<=·)->m.Pairwise (·<=·)->l=m:=by
 intro l m e f g;exact e.eq_of_pairwise (λa b _ _ d c=>Int.le_antisymm d c) f g
theorem Beh.one {st a b:List Int} {Ac:Str} {d:Int} (g:Ac = "do"\/Ac = "clear") (c:Beh st a Ac d) (f:Beh st b Ac d):a=b:=by
 rcases g with e|e
 ·obtain⟨i,k⟩:=c.1 e;obtain⟨h,j⟩:=f.1 e;exact qSM (i.trans h.symm) k j
 ·rw[c.2 e,f.2 e]
def qE7:Sp:=λvs H Q _=>∃(s mv:Addr) (st:List Int) (Ac:Str) (wk:Int),vs=[.ref s,.ref mv]/\H s=some (.tup (st.map V.int))/\st.length<=62/\H mv=some (.tup [.str Ac,.int wk])/\(Ac = "do"\/Ac = "clear")/\
 ∀r st' H',Same H H'->H' r=some (.tup (st'.map V.int))->Beh st st' Ac wk->Q (.ref r) H'
inductive Play (Ae:List (List Int))(Aa:Int):List Int->List Mv->List (List Int)->V->Prop
 |nil {st}:Play Ae Aa st [] [] .non
 |stop {st m ms w0}:wd Ae st Aa m=.str w0->Play Ae Aa st (m::ms) [] (.str w0)
 |go {st st' m ms sts v}:wd Ae st Aa m=.non->Beh st st' m.1 m.2->Play Ae Aa st' ms sts v->Play Ae Aa st (m::ms) (st'::sts) v
def MvOk (Ae:List (List Int)) (ms:List Mv):Prop:=∀m∈ms,(m.1 = "do"\/m.1 = "clear")/\0<=m.2/\m.2<(Ae.length:Int)
theorem Play.one {Ae:List (List Int)}{Aa:Int}{st:List Int}{c:List Mv}{a b:List (List Int)}{v u:V}(g:MvOk Ae c)(h:Play Ae Aa st c a v)(f:Play Ae Aa st c b u):a=b/\v=u:=by
 induction h generalizing b u with
 |nil=>cases f;exact⟨rfl,rfl⟩
 |stop e=>
  cases f with
  |stop e2=>rw[e] at e2;exact⟨rfl,e2⟩
  |go e2 _ _=>rw[e] at e2;cases e2
 |go e bh p ih=>
  cases f with
  |stop e2=>rw[e] at e2;cases e2
  |go e2 bh2 p2=>
   have:=bh.one (g _ (by simp)).1 bh2
   subst this;obtain⟨x,y⟩:=ih (λm d=>g m (B3 _ d)) p2;exact⟨by rw[x],y⟩
def StandsAt (H:Hp)(l:Addr)(sts:List (List Int)):Prop:=∃rs:List Addr,H l=some (.lst (rs.map V.ref))/\NetL H rs sts
theorem NetL.sm {H H':Hp}{b:List Addr}{a:List (List Int)}(h:NetL H b a)(s:Same H H'):NetL H' b a:=h.same λr c e=>s _ _ e
theorem StandsAt.same {H H':Hp}{l:Addr}{c:List (List Int)}(h:StandsAt H l c)(s:Same H H'):StandsAt H' l c:=by
 obtain⟨d,a,b⟩:=h;exact⟨d,s _ _ a,NetL.sm b s⟩
theorem NetL.put {H:Hp}{p:Addr}{xs:List V}{o:HO}{b:List Addr}{a:List (List Int)}(h:NetL H b a)(c:H p=some (.lst xs)):NetL (Ag H p o) b a:=h.same λr d e=>by
 rw[qA9 (qCP e c (by intro z;cases z))]
 exact e
noncomputable def lens (a:List (List Int)):List Int:=a.map λz=>(z.length:Int)
structure YNa (K:PySem.W.Frag)(C:Addr):Prop where
 Ae:qSC K C "net"
 Aa:qSC K C "rooms"
 made:qSC K C "made"
 stands:qSC K C "stands"
noncomputable def yfs (a:Addr) (Aa:Int) (lm ls:Addr):List (Str×V):=putF "stands" (.ref ls) (putF "made" (.ref lm) (putF "rooms" (.int Aa) (putF "net" (.ref a) [])))
noncomputable def qRR (st:List Int):List (List Int)->List Int
 |[]=>st
 |s::r=>qRR s r
structure YardAt (C:Addr)(H:Hp)(y a lm ls:Addr)(Ae:List (List Int))(Aa:Int)(ms:List Mv)(sts:List (List Int)):Prop where
 obj:∃dx,H y=some (.ins C dx (yfs a Aa lm ls))
 nat:NetAt H a Ae
 wf:WFn Ae
 n400:Ae.length<=400
 r0:0<=Aa
 r62:Aa<=62
 made:PlanAt H lm ms
 ok:MvOk Ae ms
 len:ms.length<=10000
 stands:StandsAt H ls ([]::sts)
 play:Play Ae Aa [] ms sts .non
 ne:lm≠ls
section
variable{Ae:List (List Int)}
noncomputable def qbH (Ae:List (List Int)):Nat->List Int
 |0=>[]
 |i+1=>qbH Ae i++[if nd Ae (i:Int)=[] then 1 else((nd Ae (i:Int)).map λz=>(qbH Ae i).getD z.toNat 0).sum]
noncomputable def cn (Ae:List (List Int))(z:Int):Int:=(qbH Ae (z.toNat+1)).getD z.toNat 0
def hd (p:List Int):Int:=p.headD 0
noncomputable def apF (Ae:List (List Int)):Nat->List Int->List (List Int)
 |0,p=>[p]
 |n+1,p=>if nd Ae (hd p)=[] then[p] else((nd Ae (hd p)).reverse.map λz=>apF Ae n (z::p)).flatten
noncomputable def aP (Ae:List (List Int))(p:List Int):List (List Int):=apF Ae ((hd p).toNat+1) p
structure POk (Ae:List (List Int))(p:List Int):Prop where
 ne:p≠[]
 h0:0<=hd p
 h1:hd p<(Ae.length:Int)
 len:(p.length:Int)+hd p<=(Ae.length:Int)
structure PWay (Ae:List (List Int))(work:Int)(fs st:List (List Int)):Prop where
 all:fs++(st.map (aP Ae)).flatten=aP Ae [work]
 ok:∀p∈st,POk Ae p
 fok:∀p∈fs,POk Ae p
end
noncomputable abbrev keyOf (s:Nat×Nat):List Key:=[G0 (s.1:Int),G0 (s.2:Int)]
structure NumP (rs:List Addr)(ss:List (Nat×Nat))(j:Nat)(ps:List (List Key×Addr×V)):Prop where
 keys:ps.map (·.1)=(ss.take j).map keyOf
 at_:∀(k:Nat) (s:Nat×Nat),k<j->ss[k]?=some s->∃a,ps[k]?=some (keyOf s,a,.int (k:Int))
def qQX:Sp:=λvs H Q _=>∃i:Int,vs=[.int i]/\Q (.bl true) H
def qU3:Sp:=λvs H Q _=>∃i k:Int,vs=[.int i,.int k]/\0<=i/\i<k/\Q (.bl true) H
noncomputable def qaZ (ins:List (Int×Int))(x:Int):Option Int:=(ins.find? λq=>decide (q.1=x)).map (·.2)
noncomputable def qe5 (ins:List (Int×Int))(i:Nat):Nat:=((F2 i).filter λ(x:Nat)=>(qaZ ins (x:Int)).isNone).length
noncomputable def numO (m:Nat)(ins:List (Int×Int))(x:Nat):Int:=match qaZ ins (x:Int) with|some v=>v|none=>((m+qe5 ins x:Nat):Int)
structure InsAt (H:Hp)(i:Addr)(ins:List (Int×Int)):Prop where
 at_:∃rs:List Addr,BareT H i (rs.map V.ref)/\Paired (λr (q:Int×Int)=>H r=some (.tup [.int q.1,.int q.2])) rs ins
 nodup:(ins.map (·.1)).Nodup
structure InsOk (m:Nat)(other:List (List Int))(k:Nat)(ins:List (Int×Int))(fs:List Int):Prop where
 st:∀q∈ins,(0<=q.1/\q.1<(k:Int))/\other[q.1.toNat]?=some []/\0<=q.2/\q.2<(m:Int)
 nd1:(ins.map (·.1)).Nodup
 nd2:(ins.map (·.2)).Nodup
 fr:fs.Nodup
 fin:∀x∈fs,(0<=x/\x<(m:Int))/\x∉ins.map (·.2)
 len:ins.length<=k
noncomputable def pm (m:Mv):Int:=if m.1 = "do" then 1 else -1
noncomputable def peak:Int->List Mv->Int
 |n,[]=>n
 |n,m::ms=>max n (peak (n+pm m) ms)
theorem qe9 (w:Int):pm ("do",w)=1:=rfl
theorem qXR (w:Int):pm ("clear",w) = -1:=if_neg (qAF)
theorem qUM:∀(n:Int) (ms:List Mv),n<=peak n ms
 |n,[]=>O4 _
 |n,m::ms=>by show n<=max n _;lia
theorem Run.app {Ae:List (List Int)}{Aa:Int}{s t u:List Int}{a b:List Mv}(h:Run Ae Aa s a t)(k:Run Ae Aa t b u):Run Ae Aa s (a++b) u:=by
 induction h with
 |nil=>exact k
 |do_ h1 h2 h3 h4 h5 _ ih=>exact .do_ h1 h2 h3 h4 h5 (ih k)
 |clear h1 _ ih=>exact .clear h1 (ih k)
theorem qXD {s:List Int}(h:s.Pairwise (·<·)):s.Nodup:=h.imp λ{a b} c=>by lia
noncomputable def less (th s:List Int):List Int:=s.filter λx=>decide (x∉th)
noncomputable def qeJ (th:List Int)(ms:List Mv):List Mv:=ms.filter λm=>decide (m.2∉th)
theorem Run.play {Ae:List (List Int)}{Aa:Int}{s t:List Int}{c:List Mv}(h:Run Ae Aa s c t):s.Pairwise (·<·)->∃sts,Play Ae Aa s c sts .non/\qRR s sts=t/\topD none (lens (s::sts))=some (peak (s.length:Int) c)/\∀z∈sts,(z.length:Int)<=peak (s.length:Int) c:=by
 induction h with
 |nil=>intro _;exact⟨[],.nil,rfl,rfl,λ_ z=>nomatch z⟩
 |@do_ s s' t w c h1 h2 h3 h4 h5 h6 ih=>
  intro n;obtain⟨sts,p,l,d,j⟩:=ih h5;have v:=h4.length_eq;rw[B0,B8] at v;have g:peak (s.length:Int) (("do",w)::c)=max (s.length:Int) (peak (s'.length:Int) c):=by
   show max _ (peak ((s.length:Int)+pm ("do",w)) c)=_
   rw[qe9,show((s.length:Int)+1)=(s'.length:Int) by lia]
  have pg:=qUM (s'.length:Int) c;refine⟨s'::sts,.go ?_ ⟨λ_=>⟨h4,h5.imp λ{a b} a0=>by lia⟩,λz=>absurd z.symm qAF⟩ p,l,?_,λz r=>?_⟩
  ·unfold wd qCH qD7;rw[if_pos rfl,if_neg h1,if_pos (show∀x∈(Ae[w.toNat]?).getD [],x∈s from h2),if_neg (by lia)]
  ·unfold lens at d ⊢;rw[C7] at d;rw[C7,C7,g];show some (topI _ _)=_;have e:topI (s'.length:Int) (sts.map λz=>(z.length:Int))=peak (s'.length:Int) c:=D5 d;have i:=qJC ((s'.length:Int)::sts.map λz=>(z.length:Int)) (s.length:Int);have f:=qJC (sts.map λz=>(z.length:Int)) (s'.length:Int);rw[e] at f;congr 1;have o:∀x∈(s'.length:Int)::sts.map (λz=>(z.length:Int)),x<=peak (s'.length:Int) c:=λx k=>by
    rcases B6.mp k with q|q
    ·lia
    ·exact f.2.1 x q
   have u:peak (s'.length:Int) c∈(s'.length:Int)::sts.map (λz=>(z.length:Int)):=by
    rcases f.2.2 with q|q
    ·rw[q];exact D8
    ·exact B3 _ q
   have y:=i.2.1 _ u;rcases i.2.2 with q|q
   ·lia
   ·have:=o _ q
    lia
  ·rw[g];rcases B6.mp r with q|q
   ·rw[q];lia
   ·have:=j z q;lia
 |@clear s t w c h1 h2 ih=>
  intro n;obtain⟨sts,p,l,d,j⟩:=ih (n.filter _);have v:=qUC (qXD n) h1;generalize hs':(s.filter λx=>decide (x≠w))=s' at p l d j v;have g:peak (s.length:Int) (("clear",w)::c)=max (s.length:Int) (peak (s'.length:Int) c):=by
   show max _ (peak ((s.length:Int)+pm ("clear",w)) c)=_;rw[qXR,show((s.length:Int) + -1)=(s'.length:Int) by lia]
  have pg:=qUM (s'.length:Int) c;refine⟨s'::sts,.go ?_ ⟨λz=>absurd z qAF,λ_=>hs'.symm⟩ p,l,?_,λz r=>?_⟩
  ·unfold wd qCH qD2;rw[if_neg (show¬(("clear",w):Mv).1 = "do" fromλz=>qAF z),if_pos h1]
  ·unfold lens at d ⊢;rw[C7] at d;rw[C7,C7,g];show some (topI _ _)=_;have e:topI (s'.length:Int) (sts.map λz=>(z.length:Int))=peak (s'.length:Int) c:=D5 d;have i:=qJC ((s'.length:Int)::sts.map λz=>(z.length:Int)) (s.length:Int);have f:=qJC (sts.map λz=>(z.length:Int)) (s'.length:Int);rw[e] at f;congr 1;have o:∀x∈(s'.length:Int)::sts.map (λz=>(z.length:Int)),x<=peak (s'.length:Int) c:=λx k=>by
    rcases B6.mp k with q|q
    ·lia
    ·exact f.2.1 x q
   have u:peak (s'.length:Int) c∈(s'.length:Int)::sts.map (λz=>(z.length:Int)):=by
    rcases f.2.2 with q|q
    ·rw[q];exact D8
    ·exact B3 _ q
   have y:=i.2.1 _ u;rcases i.2.2 with q|q
   ·lia
   ·have:=o _ q
    lia
  ·rw[g];rcases B6.mp r with q|q
   ·rw[q];lia
   ·have:=j z q;lia
noncomputable def pbGo (num:Int->Int)(jn:Int->Bool)(pl:Int->List Mv):List Int->List Mv->List Mv
 |_,[]=>[]
 |th,m::c=>if m.1 = "clear" then("clear",num m.2)::pbGo num jn pl (th.filter λx=>decide (x≠num m.2)) c else(if jn m.2 then qeJ th (pl (num m.2)) else[("do",num m.2)])++pbGo num jn pl (th++[num m.2]) c
structure ThOk (n:Nat)(num:Int->Int)(th s:List Int):Prop where
 perm:th.Perm (s.map num)
 rise:Rise (n:Int) s
structure TopO (Ae:List (List Int))(zs:List Int):Prop where
 nodup:zs.Nodup
 in_:∀x∈zs,0<=x/\x<(Ae.length:Int)
 bef:∀(p:Nat) (o:Int),zs[p]?=some o->∀x∈nd Ae o,x∈zs.take p
 aft:∀(p:Nat) (o:Int),zs[p]?=some o->p+1<zs.length->later Ae zs (p+1) o
structure Begun (Ae:List (List Int))(some_ ord:List Int):Prop where
 nodup:ord.Nodup
 sub:∀x∈ord,x∈some_
 bef:∀(p:Nat) (o:Int),ord[p]?=some o->∀x∈nd Ae o,x∈ord.take p
def qU6:Sp:=λvs H Q _=>∃(a t:Addr) (Ae:List (List Int)) (Ad:List Int),vs=[.ref a,.ref t]/\NetAt H a Ae/\WFn Ae/\Ae.length<=60/\H t=some (.tup (Ad.map V.int))/\(∀x∈Ad,0<=x/\x<(Ae.length:Int))/\
 ∀l zs H',Same H H'->H l=none->H' l=some (.lst (zs.map V.int))->qAM Ae Ad zs->Q (.ref l) H'
noncomputable def ndOf (Ae:List (List Int))(Ad:List Int):List Int:=by
 classical
 exact if h:∃zs,qAM Ae Ad zs then B13 h else[]
noncomputable def qZA (Ae:List (List Int))(w:Int):List Mv:=qRG Ae [w] (ndOf Ae [w])
def numF (m:Nat)(ins:List (Int×Int))(x:Int):Int:=numO m ins x.toNat
noncomputable def qeM (ins:List (Int×Int))(x:Int):Bool:=(qaZ ins x).isSome
noncomputable def qf2 (one:List (List Int))(ins:List (Int×Int))(ms:List Mv):List Mv:=pbGo (numF one.length ins) (qeM ins) (qZA one) [] ms
noncomputable def qeG (one:List (List Int))(ins:List (Int×Int)):Int:=(topD (some 1) (ins.map λq=>peak 0 (qZA one q.2))).getD 0
noncomputable def qf1 (one:List (List Int))(ins:List (Int×Int))(ms:List Mv):Int:=match ins with|[]=>peak 0 ms|_::_=>qeG one ins+peak 0 ms-1
structure BehIn (H:Hp)(a b i l:Addr)(one other:List (List Int))(ins:List (Int×Int))(ms:List Mv)(st:List Int):Prop where
 gA:NetAt H a one
 wf1:WFn one
 gB:NetAt H b other
 wf2:WFn other
 gI:InsAt H i ins
 ok:∃fs,InsOk one.length other other.length ins fs
 plan:PlanAt H l ms
 mv:MvOk other ms
 len:ms.length<=400
 run:Run other (other.length:Int) [] ms st
 o1:1<=one.length
 o2:one.length<=60
 o3:1<=other.length
 o4:other.length<=60
theorem qY3 {Ae:List (List Int)}{Ad:List Int}(a:WFn Ae)(r:Rise (Ae.length:Int) Ad){x:Int}(h:Nd Ae Ad x):0<=x/\x<(Ae.length:Int):=by
 induction h with
 |ask m=>exact r.in_ _ m
 |need _ e hy ih=>
  have b:=(a _ _ e).in_ _ hy;have c:=(A3.mp e).1
  lia
theorem qOF {Ae:List (List Int)}{Ad:List Int}(b:WFn Ae)(r:Rise (Ae.length:Int) Ad):∃zs,qAM Ae Ad zs:=by
 classical
 refine⟨(qBX 0 Ae.length).filter λx=>decide (Nd Ae Ad x),⟨(qF7 _ _).filter _,λx a=>?_⟩,λx=>?_⟩
 ·have:=mem_rangeI.mp (D6.mp a).1
  lia
 ·rw[D6,decide_eq_true_eq,mem_rangeI];exact⟨λh=>h.2,λh=>⟨qY3 b r h,h⟩⟩
structure TwoIn (H:Hp)(a b i:Addr)(one other:List (List Int))(ins:List (Int×Int)):Prop where
 gA:NetAt H a one
 wf1:WFn one
 gB:NetAt H b other
 wf2:WFn other
 gI:InsAt H i ins
 ok:∃fs,InsOk one.length other other.length ins fs
 o1:1<=one.length
 o2:one.length<=40
 o3:1<=other.length
 o4:other.length<=7
theorem qZ2 {Ae:List (List Int)} {st:List Int} {Aa:Int} {Ac:Str} {b:Int} (c:Ac = "do"\/Ac = "clear") (e:wd Ae st Aa (Ac,b)=.non):(Ac = "do"->b∉st/\(∀y∈nd Ae b,y∈st)/\(st.length:Int)<Aa)/\(Ac = "clear"->b∈st):=by
 rcases c with d|d
 ·subst d;refine⟨λ_=>?_,λz=>absurd z.symm qAF⟩;have a:qD7 ((Ae[b.toNat]?).getD []) st Aa b=.non:=by
   have:=e;unfold wd qCH at this;rw[if_pos rfl] at this;exact this
  unfold qD7 at a
  split at a
  ·cases a
  rename_i hn
  split at a
  ·rename_i hall
   split at a
   ·cases a
   ·exact⟨hn,hall,by lia⟩
  ·cases a
 ·subst d;refine⟨λz=>absurd z qAF,λ_=>?_⟩;have a:qD2 st b=.non:=by
   have:=e;unfold wd qCH at this;rw[if_neg (show¬D4 "clear" = D4 "do" from qAF)] at this
   exact this
  unfold qD2 at a
  split at a
  ·rename_i hin;exact hin
  ·cases a
theorem qS9 {n:Nat} {st a:List Int} {Ac:Str} {c:Int} (r:Rise (n:Int) st) (i:Ac = "do"\/Ac = "clear") (k:0<=c) (h:c<(n:Int)) (g:Ac = "do"->c∉st) (b:Beh st a Ac c):Rise (n:Int) a:=by
 rcases i with d|d
 ·obtain⟨f,j⟩:=b.1 d;refine⟨qFB j (f.nodup_iff.mpr (qGD r.nodup (g d))),λx e=>?_⟩;rcases A8.mp (f.mem_iff.mp e) with q|q
  ·exact r.in_ x q
  ·rw[A6.mp q];exact⟨k,h⟩
 ·rw[b.2 d];exact⟨r.up.filter _,λx e=>r.in_ x (D6.mp e).1⟩
def PlayIn2 (H:Hp)(a l:Addr)(Ae:List (List Int))(ms:List Mv)(Aa:Int):Prop:=NetAt H a Ae/\WFn Ae/\Ae.length<=60/\PlanAt H l ms/\ms.length<=10000/\MvOk Ae ms/\0<=Aa/\Aa<=100000
theorem PlayIn2.same {H H':Hp}{a l:Addr}{Ae:List (List Int)}{b:List Mv}{Aa:Int}(h:PlayIn2 H a l Ae b Aa)(s:Same H H'):PlayIn2 H' a l Ae b Aa:=by
 obtain⟨g,j,e,c,i,f,d⟩:=h;exact⟨g.same s,j,e,c.same s,i,f,d⟩
def qQW:Sp:=λvs H Q _=>∃(a l:Addr) (Ae:List (List Int)) (ms:List Mv) (Aa:Int),vs=[.ref a,.int Aa,.ref l]/\PlayIn2 H a l Ae ms Aa/\
 ∀T ls sts v H',Same H H'->Play Ae Aa [] ms sts v->H' T=some (.tup [.ref ls,v])->H ls=none->StandsAt H' ls ([]::sts)->sts.length<=ms.length->Q (.ref T) H'
structure Ord (Ae:List (List Int))(Ad os:List Int):Prop where
 nodup:os.Nodup
 in_:∀w∈os,0<=w/\w<(Ae.length:Int)
 has:∀(i:Nat) (w y:Int),os[i]?=some w->y∈nd Ae w->y∈os.take i
 used:∀(i:Nat) (w:Int),os[i]?=some w->w∈Ad\/later Ae os (i+1) w
 ask:∀x∈Ad,x∈os
section
variable{Ae:List (List Int)}{Ad os:List Int}
end
theorem qV8 {a b:List Int}(d:a.Nodup)(c:b.Nodup)(h:∀x∈a,x∈b):a.length<=b.length:=by
 have p:a.Perm (b.filter λx=>decide (x∈a)):=(t7 d (c.filter _)).mpr λx=>by
  rw[D6,decide_eq_true_eq];exact⟨λm=>⟨h x m,m⟩,λm=>m.2⟩
 have l:=p.length_eq;have f:=P4 (λx=>decide (x∈a)) b
 lia
structure Span (Ae:List (List Int))(Ad os:List Int)(K:Nat):Prop where
 near:∀(q r:Nat) (x v:Int),os[q]?=some x->os[r]?=some v->x∈nd Ae v->r<=q+K
 last:∀x∈Ad,∀q:Nat,os[q]?=some x->q+1=os.length
structure Told (Ae:List (List Int))(R:Int)(ms:List Mv):Prop where
 run:Run Ae R [] ms [(Ae.length:Int)-1]
 top:peak 0 ms=R
 ok:MvOk Ae ms
 once:(qEF ms).Perm (qBX 0 (Ae.length:Int))
 len:ms.length<=2*Ae.length
noncomputable def mskN (zs:List Int):Nat:=(zs.map λz=>2^z.toNat).sum
noncomputable def cntN (n b:Nat):Nat:=((F2 n).map λk=>b/2^k%2).sum
def clrb (b k:Nat):Nat:=b-2^k*(b/2^k%2)
noncomputable def nxt (Ae:List (List Int))(k:Nat):Nat:=mskN ((Ae[k]?).getD [])
def can (Ae:List (List Int))(Aa:Int)(b k:Nat):Prop:=(cntN Ae.length b:Int)<Aa/\k<Ae.length/\b &&& nxt Ae k=nxt Ae k
inductive Rm (Ae:List (List Int))(Aa:Int):Nat->Nat->Prop
 |zero:Rm Ae Aa 0 0
 |clr {m b k:Nat}:Rm Ae Aa m b->k<Ae.length->Rm Ae Aa m (clrb b k)
 |do_ {m b k:Nat}:Rm Ae Aa m b->can Ae Aa b k->Rm Ae Aa (m+1) (b ||| 2^k)
def Mn (Ae:List (List Int))(Aa:Int)(m b:Nat):Prop:=Rm Ae Aa m b/\∀m',m'<m->¬Rm Ae Aa m' b
theorem qbJ (b k:Nat):clrb b k<=b:=Nat.sub_le _ _
theorem Rm.lt {Ae:List (List Int)}{Aa:Int}{m b:Nat}(h:Rm Ae Aa m b):b<2^Ae.length:=by
 induction h with
 |zero=>exact A39 _
 |clr _ _ ih=>exact X1 (qbJ _ _) ih
 |do_ _ c ih=>exact Nat.or_lt_two_pow ih (A57 (by decide) c.2.1)
theorem Rm.mono {Ae:List (List Int)}{r a:Int}(h:r<=a){m b:Nat}(x:Rm Ae r m b):Rm Ae a m b:=by
 induction x with
 |zero=>exact .zero
 |clr _ k ih=>exact .clr ih k
 |do_ _ c ih=>exact .do_ ih ⟨Int.lt_of_lt_of_le c.1 h,c.2⟩
theorem qTU {α:Type}[DecidableEq α]:∀{l r:List α},l.Nodup->(∀x∈l,x∈r)->l.length<=r.length
 |[],r,_,_=>F3 _
 |a::l,r,nd,h=>by
  have nd':=L9.mp nd;have ha:=h a (D8 ..);have:=qTU (r:=r.erase a) nd'.2 λx hx=>(List.mem_erase_of_ne (λ(e:x=a)=>nd'.1 (e▸hx))).mpr (h x (B3 _ hx));rw[List.length_erase_of_mem ha] at this;have:0<r.length:=W9 ha;rw[D3]
  lia
theorem qEH {ks:List Nat}{n:Nat}(c:ks.Nodup)(h:∀b∈ks,b<n):ks.length<=n:=by
 have:=qTU (r:=F2 n) c λx a=>D9.mpr (h x a)
 rwa[A96] at this
theorem qHK {ks:List Nat}{x:Nat}(c:ks.Nodup)(h:x∉ks):(ks++[x]).Nodup:=by
 rw[A14];exact⟨c,by simp,λa f b d e=>h (by rw[A6.mp d] at e;exact e▸f)⟩
structure FdC (Ae:List (List Int))(Aa:Int)(many:Nat)(ks:List Nat)(f:Nat->Nat):Prop where
 nd:ks.Nodup
 snd:∀b∈ks,f b<=many/\Mn Ae Aa (f b) b
 zero:0∈ks
 full:∀m,m<many->∀b,Rm Ae Aa m b->b∈ks
section
variable{Ae:List (List Int)}{Aa:Int}{many:Nat}{ks cl ly:List Nat}{f:Nat->Nat}{at_ wk:Nat}
theorem FdC.lt (h:FdC Ae Aa many ks f){b:Nat}(a:b∈ks):b<2^Ae.length:=(h.snd b a).2.1.lt
theorem FdC.len (h:FdC Ae Aa many ks f):ks.length<=2^Ae.length:=qEH h.nd λb a=>h.lt a
theorem FdC.le (h:FdC Ae Aa many ks f){m b:Nat}(a:b∈ks)(r:Rm Ae Aa m b):f b<=m:=by
 apply G4;intro z;exact(h.snd b a).2.2 m (by lia) r
def fset (f:Nat->Nat)(x v:Nat):Nat->Nat:=λy=>if y=x then v else f y
theorem qFD (f:Nat->Nat)(x v:Nat):fset f x v x=v:=if_pos rfl
theorem qb6 {f:Nat->Nat}{x v y:Nat}(h:y≠x):fset f x v y=f y:=if_neg h
theorem qFE {f:Nat->Nat}{x v y:Nat}{ks:List Nat}(h:y∈ks)(a:x∉ks):fset f x v y=f y:=qb6 λe=>a (by rw[<- e];exact h)
theorem FdC.add (h:FdC Ae Aa many ks f){x:Nat}(a:x∉ks)(r:Rm Ae Aa many x):FdC Ae Aa many (ks++[x]) (fset f x many):=by
 refine⟨qHK h.nd a,λb hb=>?_,A8.mpr (.inl h.zero),λm c b d=>A8.mpr (.inl (h.full m c b d))⟩;rcases A8.mp hb with hb|hb
 ·rw[qFE hb a];exact h.snd b hb
 ·rw[A6.mp hb,qFD];exact⟨A7 _,r,λe c z=>a (h.full e c x z)⟩
structure A1 (Ae:List (List Int))(Aa:Int)(many:Nat)(ks:List Nat)(f:Nat->Nat)(cl:List Nat)(at_ wk:Nat):Prop where
 fd:FdC Ae Aa many ks f
 dos:∀m b k,m+1=many->Rm Ae Aa m b->can Ae Aa b k->b ||| 2^k∈ks
 clm:∀b,b∈cl↔b∈ks/\f b=many
 nd:cl.Nodup
 done:∀i b,cl[i]?=some b->i<at_->∀k,k<Ae.length->clrb b k∈ks
 dk:∀b,cl[at_]?=some b->∀k,k<wk->clrb b k∈ks
theorem A1.start:A1 Ae Aa 0 [0] (λ_=>0) [0] 0 0:=
 ⟨⟨by simp,λb a=>by rw[A6.mp a];exact⟨A7 _,.zero,λ_ z=>absurd z (J5 _)⟩,by simp,λm c=>absurd c (J5 _)⟩,λm b k e=>by lia,λb=>by simp,by simp,λi b _ z=>absurd z (J5 _),λb _ k z=>absurd z (J5 _)⟩
theorem A1.hit (h:A1 Ae Aa many ks f cl at_ wk){c:Nat}(i:cl[at_]?=some c)(g:clrb c wk∈ks):A1 Ae Aa many ks f cl at_ (wk+1):=by
 refine⟨h.fd,h.dos,h.clm,h.nd,h.done,λb a k d=>?_⟩;by_cases e:k=wk
 ·rw[i] at a;cases a;rw[e];exact g
 ·exact h.dk b a k (by lia)
theorem A1.add (h:A1 Ae Aa many ks f cl at_ wk){c:Nat}(l:cl[at_]?=some c)(p:wk<Ae.length)(j:clrb c wk∉ks):A1 Ae Aa many (ks++[clrb c wk]) (fset f (clrb c wk) many) (cl++[clrb c wk]) at_ (wk+1):=by
 have g:=(h.clm c).mp (A9 l);have t:Rm Ae Aa many c:=g.2▸(h.fd.snd c g.1).2.1;have a:∀{i b},i<=at_->(cl++[clrb c wk])[i]?=some b->cl[i]?=some b:=λ{i b} o e=>by
  have:=(A3.mp l).1
  rwa[J2 (by lia)] at e
 refine⟨h.fd.add j (.clr t p),λm b k q r c=>A8.mpr (.inl (h.dos m b k q r c)),λb=>?_,qHK h.nd λz=>j ((h.clm _).mp z).1,λi b e o k d=>?_,λb e k d=>?_⟩
 ·rw[A8,A8,A6,h.clm b]
  constructor
  ·rintro(z|z)
   ·exact⟨.inl z.1,by rw[qFE z.1 j];exact z.2⟩
   ·exact⟨.inr z,by rw[z,qFD]⟩
  ·rintro⟨z|z,e⟩
   ·rw[qFE z j] at e;exact .inl ⟨z,e⟩
   ·exact .inr z
 ·exact A8.mpr (.inl (h.done i b (a (by lia) e) o k d))
 ·have n:=a (A7 _) e;by_cases s:k=wk
  ·rw[l] at n;cases n;rw[s];exact A8.mpr (.inr (A6.mpr rfl))
  ·exact A8.mpr (.inl (h.dk b n k (by lia)))
theorem A1.next (h:A1 Ae Aa many ks f cl at_ Ae.length):A1 Ae Aa many ks f cl (at_+1) 0:=by
 refine⟨h.fd,h.dos,h.clm,h.nd,λi b e d k a=>?_,λb _ k z=>absurd z (J5 _)⟩;by_cases c:i=at_
 ·rw[c] at e;exact h.dk b e k a
 ·exact h.done i b e (by lia) k a
theorem A1.len (h:A1 Ae Aa many ks f cl at_ wk):cl.length<=2^Ae.length:=qEH h.nd λb a=>h.fd.lt ((h.clm b).mp a).1
theorem A1.all (h:A1 Ae Aa many ks f cl at_ wk)(l:cl.length<=at_):∀m b,Rm Ae Aa m b->m<=many->b∈ks:=by
 intro m b r
 induction r with
 |zero=>exactλ_=>h.fd.zero
 |@clr m b k r hk ih=>
  intro a;have d:=ih a;by_cases e:f b=many
  ·obtain⟨i,g,j⟩:=M7 ((h.clm b).mpr ⟨d,e⟩);exact h.done i b (by rw[A4 g,j]) (by lia) k hk
  ·have:=(h.fd.snd b d);exact h.fd.full (f b) (by lia) _ (.clr this.2.1 hk)
 |@do_ m b k r c ih=>
  intro a;by_cases e:m+1=many
  ·exact h.dos m b k e r c
  ·exact h.fd.full (m+1) (by lia) _ (.do_ r c)
structure A2 (Ae:List (List Int))(Aa:Int)(many:Nat)(ks:List Nat)(f:Nat->Nat)(cl ly:List Nat)(at_ wk:Nat):Prop where
 fd:FdC Ae Aa (many+1) ks f
 clm:∀b,b∈cl↔b∈ks/\f b=many
 lym:∀b,b∈ly↔b∈ks/\f b=many+1
 nd:ly.Nodup
 done:∀i b,cl[i]?=some b->i<at_->∀k,can Ae Aa b k->b ||| 2^k∈ks
 dk:∀b,cl[at_]?=some b->∀k,k<wk->can Ae Aa b k->b ||| 2^k∈ks
theorem A1.two (h:A1 Ae Aa many ks f cl at_ wk)(c:cl.length<=at_):A2 Ae Aa many ks f cl [] 0 0:=by
 refine⟨⟨h.fd.nd,λb a=>⟨by have:=(h.fd.snd b a).1;lia,(h.fd.snd b a).2⟩,h.fd.zero,λm d b r=>h.all c m b r (by lia)⟩,h.clm,λb=>⟨λz=>absurd z (by simp),λz=>?_⟩,.nil,λi b _ z=>absurd z (J5 _),λb _ k z=>absurd z (J5 _)⟩
 have:=(h.fd.snd b z.1).1
 lia
theorem A2.hit (h:A2 Ae Aa many ks f cl ly at_ wk){c:Nat}(g:cl[at_]?=some c)(j:can Ae Aa c wk->c ||| 2^wk∈ks):A2 Ae Aa many ks f cl ly at_ (wk+1):=by
 refine⟨h.fd,h.clm,h.lym,h.nd,h.done,λb d k i a=>?_⟩;by_cases e:k=wk
 ·rw[g] at d;cases d;rw[e] at a ⊢;exact j a
 ·exact h.dk b d k (by lia) a
theorem A2.add (h:A2 Ae Aa many ks f cl ly at_ wk){c:Nat}(j:cl[at_]?=some c)(n:can Ae Aa c wk)(a:c ||| 2^wk∉ks):A2 Ae Aa many (ks++[c ||| 2^wk]) (fset f (c ||| 2^wk) (many+1)) cl (ly++[c ||| 2^wk]) at_ (wk+1):=by
 have d:=(h.clm c).mp (A9 j);have o:Rm Ae Aa many c:=d.2▸(h.fd.snd c d.1).2.1;refine⟨h.fd.add a (.do_ o n),λb=>?_,λb=>?_,qHK h.nd λz=>a ((h.lym _).mp z).1,λi b e l k g=>A8.mpr (.inl (h.done i b e l k g)),λb e k p g=>?_⟩
 ·rw[h.clm b,A8,A6]
  constructor
  ·rintro⟨z,e⟩;exact⟨.inl z,by rw[qFE z a];exact e⟩
  ·rintro⟨z|z,e⟩
   ·rw[qFE z a] at e;exact⟨z,e⟩
   ·rw[z,qFD] at e
    lia
 ·rw[A8,A8,A6,h.lym b]
  constructor
  ·rintro(z|z)
   ·exact⟨.inl z.1,by rw[qFE z.1 a];exact z.2⟩
   ·exact⟨.inr z,by rw[z,qFD]⟩
  ·rintro⟨z|z,e⟩
   ·rw[qFE z a] at e;exact .inl ⟨z,e⟩
   ·exact .inr z
 ·by_cases m:k=wk
  ·rw[j] at e;cases e;rw[m];exact A8.mpr (.inr (A6.mpr rfl))
  ·exact A8.mpr (.inl (h.dk b e k (by lia) g))
theorem A2.next (h:A2 Ae Aa many ks f cl ly at_ Ae.length):A2 Ae Aa many ks f cl ly (at_+1) 0:=by
 refine⟨h.fd,h.clm,h.lym,h.nd,λi b e d k c=>?_,λb _ k z=>absurd z (J5 _)⟩;by_cases a:i=at_
 ·rw[a] at e;exact h.dk b e k c.2.1 c
 ·exact h.done i b e (by lia) k c
theorem A2.skip (h:A2 Ae Aa many ks f cl ly at_ wk){c:Nat}(d:cl[at_]?=some c)(j:¬(cntN Ae.length c:Int)<Aa):A2 Ae Aa many ks f cl ly (at_+1) 0:=by
 refine⟨h.fd,h.clm,h.lym,h.nd,λi b e l k a=>?_,λb _ k z=>absurd z (J5 _)⟩;by_cases g:i=at_
 ·rw[g,d] at e;cases e;exact absurd a.1 j
 ·exact h.done i b e (by lia) k a
theorem A2.one (h:A2 Ae Aa many ks f cl ly at_ wk)(o:cl.length<=at_):A1 Ae Aa (many+1) ks f ly 0 0:=by
 refine⟨h.fd,λm b k e r c=>?_,h.lym,h.nd,λi b _ z=>absurd z (J5 _),λb _ k z=>absurd z (J5 _)⟩;have l:m=many:=by lia
 subst l;have a:=h.fd.full m (by lia) b r
 have j:=h.fd.le a r;by_cases n:f b=m
 ·obtain⟨i,d,g⟩:=M7 ((h.clm b).mpr ⟨a,n⟩);exact h.done i b (by rw[A4 d,g]) (by lia) k c
 ·exact h.fd.full (f b+1) (by lia) _ (.do_ (h.fd.snd b a).2.1 c)
structure Come (Ae:List (List Int))(Aa:Int)(ks:List Nat)(f:Nat->Nat):Prop where
 nd:ks.Nodup
 snd:∀b∈ks,Mn Ae Aa (f b) b
 all:∀m b,Rm Ae Aa m b->b∈ks
theorem A1.come (h:A1 Ae Aa many ks f [] at_ wk):Come Ae Aa ks f:=by
 have d:∀b∈ks,f b<many:=λb a=>by
  have g:=(h.fd.snd b a).1;have i:f b≠many:=λe=>nomatch(h.clm b).mpr ⟨a,e⟩
  lia
 refine⟨h.fd.nd,λb a=>(h.fd.snd b a).2,λm b r=>?_⟩
 induction r with
 |zero=>exact h.fd.zero
 |@clr m b k r hk ih=>exact h.fd.full (f b) (d b ih) _ (.clr (h.fd.snd b ih).2.1 hk)
 |@do_ m b k r c ih=>
  have:=d b ih;by_cases e:f b+1=many
  ·exact h.dos (f b) b k e (h.fd.snd b ih).2.1 c
  ·exact h.fd.full (f b+1) (by lia) _ (.do_ (h.fd.snd b ih).2.1 c)
end
noncomputable def kvN (ks:List Nat)(f:Nat->Nat):List (Key×V):=ks.map λ(b:Nat)=>((G0 (b:Int):Key),V.int (f b:Int))
theorem qQ8 (ks:List Nat)(f:Nat->Nat):(kvN ks f).length=ks.length:=by simp[kvN]
theorem qMS (ks:List Nat)(f:Nat->Nat)(x:Nat):valV (kvN ks f) (G0 (x:Int))=if x∈ks then some (.int (f x:Int)) else none:=by
 induction ks with
 |nil=>rfl
 |cons b ks ih=>
  show((((G0 (b:Int):Key),V.int (f b:Int))::kvN ks f).find? λc=>decide (c.1=G0 (x:Int))).map (·.2)=_;rw[V6];by_cases e:b=x
  ·subst e;simp
  ·have:¬((G0 (b:Int):Key)=G0 (x:Int)):=λz=>e (by have:=p8 z;lia)
   rw[decide_eq_false this];show valV (kvN ks f) (G0 (x:Int))=_;rw[ih];have a:x≠b:=J8 e;simp[a]
theorem qVD {ks:List Nat}{f:Nat->Nat}{x v:Nat}(h:x∉ks):putK (kvN ks f) (G0 (x:Int)) (.int (v:Int))=kvN (ks++[x]) (fset f x v):=by
 rw[qRC _ (by rw[qMS,if_neg h])]
 unfold kvN;rw[B1];congr 1
 ·exact T9 λb a=>by rw[qFE a h]
 ·simp[qFD]
theorem qEG (a b:Nat):O8 (a:Int) (b:Int)=((a &&& b:Nat):Int):=by
 unfold O8;rw[decide_eq_true (X0 a),decide_eq_true (X0 b)]
 rfl
theorem qWX (a b:Nat):A73 (a:Int) (b:Int)=((a ||| b:Nat):Int):=by
 have e:∀c:Nat,V1 (c:Int)=A23 c:=λc=>by unfold V1;lia
 have f:∀c:Nat,decide (0<=A23 c)=false:=λc=>decide_eq_false (by lia)
 have d:∀c:Nat,V1 (A23 c)=(c:Int):=λc=>by unfold V1;lia
 unfold A73 O8;rw[e,e,f,f];show V1 (V1 (((V1 (A23 a)).toNat ||| (V1 (A23 b)).toNat:Nat)))=_;rw[d,d,e,d]
 rfl
theorem qa6 (a k:Nat):(a:Int)/2^k=((a/2^k:Nat):Int):=by
 rw[Int.natCast_ediv,B27]
 rfl
theorem qKM (a k:Nat):O8 ((a:Int)/2^k) 1=((a/2^k%2:Nat):Int):=by
 rw[qa6,show(1:Int)=((1:Nat):Int) from rfl,qEG,Nat.and_one_is_mod]
theorem qPQ (k:Nat):(1:Int)*2^k=((2^k:Nat):Int):=by
 rw[Int.one_mul,B27]
 rfl
theorem qbK (a k:Nat):(a:Int)-(1*2^k)*O8 ((a:Int)/2^k) 1=((clrb a k:Nat):Int):=by
 rw[qKM,qPQ,<- Int.natCast_mul];unfold clrb;have b:a/2^k%2<=a/2^k:=Nat.mod_le _ _;have c:2^k*(a/2^k%2)<=a:=F5 (Nat.mul_le_mul_left _ b) (Nat.mul_div_le _ _)
 lia
noncomputable def qTO (ws Ad:List Int):Nat:=mskN ((qBX 0 ws.length).filter λp=>decide ((ws[p.toNat]?).getD 0∈Ad))
def DoneIn (Ae:List (List Int))(ws Ad:List Int)(r:Int):Prop:=∃m b,Rm (qBR Ae ws) r m b/\b &&& qTO ws Ad=qTO ws Ad
def LeastR (Ae:List (List Int))(ws Ad:List Int)(r:Int):Prop:=1<=r/\DoneIn Ae ws Ad r/\∀r',1<=r'->r'<r->¬DoneIn Ae ws Ad r'
theorem qS6 (g:Nat->Nat):∀l:List Nat,(l.map λk=>((g k:Nat):Int)).sum=(((l.map g).sum:Nat):Int)
 |[]=>rfl
 |k::l=>by rw[C7,p6,qS6 g l,C7,p6];lia
theorem qQ0:∀zs:List Int,(zs.map λz=>(1:Int)*2^z.toNat).sum=((mskN zs:Nat):Int)
 |[]=>rfl
 |z::l=>by
  have:=qQ0 l;unfold mskN at this ⊢;rw[C7,p6,this,C7,p6,qPQ]
  lia
def natI (l:List Nat):List Int:=l.map λ(b:Nat)=>(b:Int)
theorem qJX (l:List Nat)(b:Nat):natI (l++[b])=natI l++[(b:Int)]:=by simp[natI]
theorem qH0 (l:List Nat):(natI l).length=l.length:=by simp[natI]
theorem qRO {l:List Nat}{i:Nat}{b:Nat}(h:l[i]?=some b):(natI l)[i]?=some (b:Int):=by unfold natI;rw[B9,h];rfl
theorem qaN {l:List Nat}{i:Nat}{z:Int}(h:(natI l)[i]?=some z):∃b:Nat,l[i]?=some b/\z=(b:Int):=by
 unfold natI at h;rw[B9] at h;cases e:l[i]? with
 |none=>rw[e] at h;cases h
 |some b=>rw[e] at h;cases h;exact⟨b,rfl,rfl⟩
def qU0:Sp:=λvs H Q _=>∃(a:Addr) (Ae:List (List Int)) (Aa:Int),vs=[.ref a,.int Aa]/\NetAt H a Ae/\WFn Ae/\Ae.length<=12/\
 ∀(d:Addr) (o:Obj) (ks:List Nat) (f:Nat->Nat) H',Same H H'->H d=none->H' d=some (.frz o (.dK (kvN ks f)))->Come Ae Aa ks f->Q (.ref d) H'
theorem qV1 {k:Nat}:∀{st:List Int},(∀x∈st,(k:Int)<=x)->∃a,mskN st=2^k*a
 |[],_=>⟨0,rfl⟩
 |z::st,h=>by
  obtain⟨a,ha⟩:=qV1 (st:=st) λx hx=>h x (B3 _ hx);have hz:=h z (by simp)
  refine⟨2^(z.toNat-k)+a,?_⟩;show 2^z.toNat+mskN st=_;rw[ha,j8,<- Nat.pow_add,show k+(z.toNat-k)=z.toNat by lia]
theorem qMP:∀{st:List Int},st.Pairwise (·<·)->(∀x∈st,0<=x)->∀j:Nat,(mskN st).testBit j=decide ((j:Int)∈st)
 |[],_,_,j=>by show(0:Nat).testBit j=_;simp
 |z::st,up,nn,j=>by
  have up':=P8.mp up;have hz:=nn z (by simp)
  obtain⟨a,ha⟩:=qV1 (k:=z.toNat+1) (st:=st) λx hx=>by have:=up'.1 x hx;lia
  have ih:=qMP up'.2 (λx hx=>nn x (B3 _ hx)) j;have e:mskN (z::st)=2^(z.toNat+1)*a+2^z.toNat:=by show 2^z.toNat+mskN st=_;rw[ha,u7]
  rw[e,Nat.testBit_two_pow_mul_add a (A57 (by decide) (by lia)) j]
  by_cases c:j<z.toNat+1
  ·rw[if_pos c,U0];refine decide_eq_decide.mpr ⟨λh=>?_,λh=>?_⟩
   ·rw[B6];left;lia
   ·rcases B6.mp h with h|h
    ·lia
    ·have:=up'.1 _ h;lia
  ·rw[if_neg c];rw[ha,Nat.testBit_two_pow_mul] at ih;have:decide (j>=z.toNat+1)=true:=decide_eq_true (by lia)
   rw[this,o5] at ih;rw[ih];refine decide_eq_decide.mpr ⟨λh=>B3 _ h,λh=>?_⟩;rcases B6.mp h with h|h
   ·lia
   ·exact h
theorem Rise.nn {n:Int}{st:List Int}(r:Rise n st):∀x∈st,0<=x:=λx a=>(r.in_ x a).1
theorem qB4 {n:Int}{st:List Int}(r:Rise n st)(j:Nat):(mskN st).testBit j=decide ((j:Int)∈st):=qMP r.up r.nn j
theorem qV2 {n:Int}{st a:List Int}(r:Rise n st)(c:Rise n a)(h:mskN st=mskN a):st=a:=by
 refine qIL r.up c.up λx=>?_
 constructor
 ·intro b;have e:=qB4 r x.toNat;rw[h,qB4 c x.toNat] at e;have d:=r.nn x b;rw[show((x.toNat:Nat):Int)=x by lia,decide_eq_true b] at e
  exact of_decide_eq_true e
 ·intro b;have e:=qB4 r x.toNat;rw[h,qB4 c x.toNat] at e;have d:=c.nn x b;rw[show((x.toNat:Nat):Int)=x by lia,decide_eq_true b] at e
  exact of_decide_eq_true e.symm
theorem qNF (b k:Nat):b/2^k%2=if b.testBit k=true then 1 else 0:=by
 rw[Nat.testBit_eq_decide_div_mod_eq];by_cases h:b/2^k%2=1
 ·rw[decide_eq_true h,if_pos rfl,h]
 ·rw[decide_eq_false h,if_neg B4]
  lia
theorem qY4 {a b:List Int}(h:a.Perm b):mskN a=mskN b:=by
 induction h with
 |nil=>rfl
 |cons x _ ih=>show 2^x.toNat+mskN _=2^x.toNat+mskN _;rw[ih]
 |swap x y l=>show 2^y.toNat+(2^x.toNat+mskN l)=2^x.toNat+(2^y.toNat+mskN l);lia
 |trans _ _ h1 h2=>exact h1.trans h2
theorem qKA {st:List Int}(a:st.Nodup){k:Int}(h:k∈st):st.Perm (k::st.filter λx=>decide (x≠k)):=by
 have e:(st.filter λx=>decide (x≠k))=st.erase k:=by
  rw[a.erase_eq_filter];exact A15 λx _=>by simp[bne,BEq.beq]
 rw[e];exact List.perm_cons_erase h
theorem qNA {n:Int}{st:List Int}(r:Rise n st)(k:Nat):clrb (mskN st) k=mskN (st.filter λx=>decide (x≠(k:Int))):=by
 unfold clrb;rw[qNF,qB4 r];by_cases h:(k:Int)∈st
 ·rw[decide_eq_true h,if_pos rfl,Nat.mul_one,qY4 (qKA r.nodup h)];show 2^((k:Int)).toNat+mskN _-_=_;rw[E4,A19]
 ·rw[decide_eq_false h,if_neg B4,Nat.mul_zero,A99];congr 1;exact(Z3.mpr λx a=>by rw[decide_eq_true_eq];intro e;exact h (e▸a)).symm
theorem qEZ {n:Int}{st ns:List Int}(r:Rise n st)(a:Rise n ns):mskN st &&& mskN ns=mskN ns↔∀y∈ns,y∈st:=by
 constructor
 ·intro h y d;have e:=congrArg (λb=>Nat.testBit b y.toNat) h;simp only[c5,qB4 r,qB4 a] at e;have f:=a.nn y d;rw[show((y.toNat:Nat):Int)=y by lia,decide_eq_true d,B52] at e
  exact of_decide_eq_true e
 ·intro h;refine R8 λj=>?_;rw[c5,qB4 r,qB4 a];by_cases c:(j:Int)∈ns
  ·rw[decide_eq_true c,decide_eq_true (h _ c)];rfl
  ·rw[decide_eq_false c,k8]
noncomputable def insL:List Int->Int->List Int
 |[],k=>[k]
 |x::r,k=>if k<x then k::x::r else x::insL r k
theorem qFC:∀(st:List Int) (k:Int),(insL st k).Perm (st++[k])
 |[],k=>.refl _
 |x::r,k=>by
  unfold insL
  split
  ·exact(A38 (l₁:=x::r) (l₂:=[k])).symm
  ·exact(qFC r k).cons x
theorem mem_insL {st:List Int}{k x:Int}:x∈insL st k↔x∈st\/x=k:=by
 rw[(qFC st k).mem_iff,A8,A6]
theorem qVO:∀{st:List Int} {k:Int},st.Pairwise (·<=·)->(insL st k).Pairwise (·<=·)
 |[],k,_=>by simp[insL]
 |x::r,k,h=>by
  have h':=P8.mp h;unfold insL
  split
  ·rename_i c
   refine P8.mpr ⟨λy hy=>?_,h⟩;rcases B6.mp hy with e|e
   ·lia
   ·have:=h'.1 y e;lia
  ·rename_i c
   refine P8.mpr ⟨λy hy=>?_,qVO h'.2⟩;rcases mem_insL.mp hy with e|e
   ·exact h'.1 y e
   ·lia
theorem qRV (st:List Int)(k:Int):(insL st k).length=st.length+1:=by rw[(qFC st k).length_eq,B0];rfl
noncomputable def behL (st:List Int) (m:Mv):List Int:=if m.1=D4 "do" then insL st m.2 else st.filter λx=>decide (x≠m.2)
theorem qSA {n:Int} {st:List Int} {m:Mv} (r:Rise n st) (a:m.1 = "do"\/m.1 = "clear"):Beh st (behL st m) m.1 m.2:=by
 refine⟨λe=>?_,λe=>?_⟩
 ·unfold behL;rw[if_pos e];exact⟨qFC _ _,qVO (r.up.imp λh=>u8 h)⟩
 ·unfold behL;rw[if_neg (λz=>by rw[e] at z;exact qAF z)]
theorem qWY {n:Int} {st a:List Int} {m:Mv} (r:Rise n st) (b:m.1 = "do"\/m.1 = "clear") (h:Beh st a m.1 m.2):a=behL st m:=Beh.one b h (qSA r b)
theorem qZB {n:Int}{st:List Int}(r:Rise n st){k:Nat}(b:(k:Int)∉st)(a:Rise n (insL st (k:Int))):mskN st ||| 2^k=mskN (insL st (k:Int)):=by
 refine R8 λj=>?_;rw[k9,qB4 r,qB4 a,U0,L7,T6,decide_eq_true_eq,decide_eq_true_eq,decide_eq_true_eq,mem_insL]
 constructor
 ·rintro(h|h)
  ·exact .inl h
  ·exact .inr (by lia)
 ·rintro(h|h)
  ·exact .inl h
  ·exact .inr (by lia)
theorem qJD (p:Nat->Bool):∀l:List Nat,(l.map λk=>if p k=true then 1 else 0).sum=(l.filter p).length
 |[]=>rfl
 |k::l=>by
  rw[C7,p6,qJD p l,O1];cases p k
  ·simp
  ·simp;lia
theorem qWL {n:Nat}{st:List Int}(r:Rise (n:Int) st):cntN n (mskN st)=st.length:=by
 unfold cntN;have e:((F2 n).map λk=>mskN st/2^k%2)=(F2 n).map λ(k:Nat)=>if(decide ((k:Int)∈st))=true then 1 else 0:=T9 λk _=>by rw[qNF,qB4 r]
 rw[e,qJD (λ(k:Nat)=>decide ((k:Int)∈st))];have c:(((F2 n).filter λ(k:Nat)=>decide ((k:Int)∈st)).map λ(k:Nat)=>(k:Int))=st:=by
  refine qIL ?_ r.up λx=>?_
  ·refine J4.mpr ?_;exact(U1.filter _).imp λh=>by lia
  ·rw[D2]
   constructor
   ·rintro⟨k,b,rfl⟩;exact of_decide_eq_true (D6.mp b).2
   ·intro a;have d:=r.in_ x a;exact⟨x.toNat,D6.mpr ⟨D9.mpr (by lia),decide_eq_true (by rw[show((x.toNat:Nat):Int)=x by lia];exact a)⟩,by lia⟩
 have:=congrArg T3 c
 rwa[A0] at this
section
variable{Ae:List (List Int)}{Aa:Int}
theorem due_iff {st:List Int} {m:Mv}:m∈qD4 Ae st Aa↔((m.1 = "do"\/m.1 = "clear")/\0<=m.2/\m.2<(Ae.length:Int))/\(m.1 = "do"->m.2∉st/\(∀y∈nd Ae m.2,y∈st)/\(st.length:Int)<Aa)/\(m.1 = "clear"->m.2∈st):=by
 unfold qD4;rw[D6,decide_eq_true_eq]
 constructor
 ·rintro⟨f,d⟩;have a:=qS1 f;exact⟨a,qZ2 a.1 d⟩
 ·rintro⟨⟨f,d,h⟩,i,k⟩;obtain⟨j,g⟩:=m;refine⟨?_,?_⟩
  ·unfold qKX qIR;rw[A8,D2,D2];rcases f with e|e
   ·exact .inl ⟨g.toNat,D9.mpr (by dsimp only at d h;lia),by dsimp only at e d ⊢;rw[e];congr 1;lia⟩
   ·exact .inr ⟨g.toNat,D9.mpr (by dsimp only at d h;lia),by dsimp only at e d ⊢;rw[e];congr 1;lia⟩
  ·show qCH _ st Aa j g=.non;unfold qCH;rcases f with e|e
   ·obtain⟨a,b,c⟩:=i e;dsimp only at e;rw[if_pos e];unfold qD7;rw[if_neg a,if_pos (show∀y∈(Ae[g.toNat]?).getD [],y∈st from b),if_neg (by lia)]
   ·have a:=k e;dsimp only at e;rw[if_neg (λz=>by rw[e] at z;exact qAF z)]
    unfold qD2;rw[if_pos a]
inductive Pt (Ae:List (List Int))(Aa:Int):Nat->List Int->Prop
 |zero:Pt Ae Aa 0 []
 |step {t:Nat} {st:List Int} {m:Mv}:Pt Ae Aa t st->m∈qD4 Ae st Aa->Pt Ae Aa (t+1) (behL st m)
theorem Pt.rise {t:Nat}{st:List Int}(h:Pt Ae Aa t st):Rise (Ae.length:Int) st:=by
 induction h with
 |zero=>exact .nil
 |step _ hm ih=>
  obtain⟨⟨a,b,c⟩,d,e⟩:=due_iff.mp hm;exact qS9 ih a b c (λz=>(d z).1) (qSA ih a)
theorem qKN {st:List Int} (r:Rise (Ae.length:Int) st) {m:Mv} (f:m∈qD4 Ae st Aa):(m.1 = "do"/\(behL st m).length=st.length+1)\/(m.1 = "clear"/\(behL st m).length+1=st.length):=by
 obtain⟨⟨a,b,c⟩,d,e⟩:=due_iff.mp f;rcases a with a|a
 ·refine .inl ⟨a,?_⟩;unfold behL;rw[if_pos a,qRV]
 ·refine .inr ⟨a,?_⟩;unfold behL;rw[if_neg (λz=>by rw[a] at z;exact qAF z)]
  have:=(qKA r.nodup (e a)).length_eq;rw[D3] at this
  lia
theorem qPZ (a:WFn Ae){w:Int}(h:w<(Ae.length:Int)):Rise (Ae.length:Int) (nd Ae w):=by
 by_cases b:0<=w
 ·exact(qGZ a w.toNat).mono (by lia)
 ·have:=qGZ a w.toNat;rw[show w.toNat=0 by lia] at this
  unfold nd;rw[show w.toNat=0 by lia]
  exact this.mono (by lia)
theorem Pt.bits (n:WFn Ae){t:Nat}{st:List Int}(h:Pt Ae Aa t st):∃m,2*m=t+st.length/\Rm Ae Aa m (mskN st):=by
 induction h with
 |zero=>exact⟨0,rfl,.zero⟩
 |@step t st m h hm ih=>
  obtain⟨d,e,R⟩:=ih;have r:=h.rise;have i:=(Pt.step h hm).rise;obtain⟨⟨a,b,c⟩,q,u⟩:=due_iff.mp hm;have f:((m.2.toNat:Nat):Int)=m.2:=by lia
  rcases qKN r hm with⟨w,l⟩|⟨w,l⟩
  ·refine⟨d+1,by lia,?_⟩
   obtain⟨p,o,j⟩:=q w;have g:behL st m=insL st m.2:=by unfold behL;rw[if_pos w]
   rw[g] at i ⊢;have:=qZB (k:=m.2.toNat) r (by rw[f];exact p) (by rw[f];exact i)
   rw[f] at this;rw[<- this];refine .do_ R ⟨by rw[qWL r];exact j,by lia,?_⟩
   have s:Rise (Ae.length:Int) (nd Ae m.2):=qPZ n c;exact(qEZ r s).mpr o
  ·refine⟨d,by lia,?_⟩
   have g:behL st m=st.filter λx=>decide (x≠m.2):=by unfold behL;rw[if_neg (λz=>by rw[w] at z;exact qAF z)]
   rw[g];have:=qNA r m.2.toNat;rw[f] at this;rw[<- this];exact .clr R (by lia)
theorem qaI {b k:Nat}(h:b.testBit k=true):b ||| 2^k=b:=by
 refine R8 λj=>?_;rw[k9,U0];by_cases e:k=j
 ·subst e;simp[h]
 ·simp[e]
theorem Rm.path (o:WFn Ae){m b:Nat}(h:Rm Ae Aa m b):∃st t,b=mskN st/\Pt Ae Aa t st/\t+st.length<=2*m:=by
 induction h with
 |zero=>exact⟨[],0,rfl,.zero,by simp⟩
 |@clr m b k _ hk ih=>
  obtain⟨st,t,rfl,P,l⟩:=ih;have r:=P.rise;by_cases c:(k:Int)∈st
  ·have a:((D4 "clear",(k:Int)):Mv)∈qD4 Ae st Aa:=due_iff.mpr ⟨⟨.inr rfl,by show(0:Int)<=(k:Int);lia,by show(k:Int)<_;lia⟩,λz=>absurd z qAF,λ_=>c⟩
   refine⟨_,t+1,?_,.step P a,?_⟩
   ·rw[qNA r];unfold behL;rw[if_neg qAF]
   ·rcases qKN r a with⟨w,_⟩|⟨_,s⟩
    ·exact absurd w qAF
    ·lia
  ·refine⟨st,t,?_,P,l⟩;rw[qNA r];congr 1;exact Z3.mpr λx n=>by rw[decide_eq_true_eq];intro e;exact c (e▸n)
 |@do_ m b k _ hc ih=>
  obtain⟨st,t,rfl,P,l⟩:=ih;have r:=P.rise;by_cases c:(k:Int)∈st
  ·exact⟨st,t,qaI (by rw[qB4 r];exact decide_eq_true c),P,by lia⟩
  ·obtain⟨g,u,f⟩:=hc;rw[qWL r] at g;have q:Rise (Ae.length:Int) (nd Ae (k:Int)):=qPZ o (by lia)
   have p:nxt Ae k=mskN (nd Ae (k:Int)):=by unfold nxt nd;rw[E4]
   rw[p] at f;have a:((D4 "do",(k:Int)):Mv)∈qD4 Ae st Aa:=due_iff.mpr ⟨⟨.inl rfl,by show(0:Int)<=(k:Int);lia,by show(k:Int)<_;lia⟩,λ_=>⟨c,(qEZ r q).mp f,g⟩,λz=>absurd z.symm qAF⟩
   have d:=Pt.step P a;have i:behL st ((D4 "do",(k:Int)):Mv)=insL st (k:Int):=by unfold behL;rw[if_pos rfl]
   refine⟨_,t+1,?_,d,?_⟩
   ·have j:=d.rise;rw[i] at j ⊢;exact qZB r c j
   ·rw[i,qRV]
    lia
def Mt (Ae:List (List Int))(Aa:Int)(t:Nat)(st:List Int):Prop:=Pt Ae Aa t st/\∀u,u<t->¬Pt Ae Aa u st
theorem Mt.one {t u:Nat}{st:List Int}(h:Mt Ae Aa t st)(h':Mt Ae Aa u st):t=u:=by
 rcases k5 t u with c|c|c
 ·exact absurd h.1 (h'.2 t c)
 ·exact c
 ·exact absurd h'.1 (h.2 u c)
structure BF (Ae:List (List Int))(Aa:Int)(t:Nat)(ks due ly:List (List Int))(f:List Int->Nat)(i k:Nat):Prop where
 nd:ks.Nodup
 snd:∀s∈ks,∃u,u<=t+1/\Mt Ae Aa u s/\2*f s=u+s.length
 full:∀u s,u<=t->Pt Ae Aa u s->s∈ks
 duem:∀s,s∈due↔Mt Ae Aa t s
 lym:∀s,s∈ly↔s∈ks/\Mt Ae Aa (t+1) s
 done:∀j s,due[j]?=some s->j<i->∀m∈qD4 Ae s Aa,behL s m∈ks
 dk:∀s,due[i]?=some s->∀m∈(qD4 Ae s Aa).take k,behL s m∈ks
theorem BF.start:BF Ae Aa 0 [[]] [[]] [] (λ_=>0) 0 0:=by
 have z:∀s,Pt Ae Aa 0 s->s=[]:=λs h=>by cases h;rfl
 have a:Mt Ae Aa 0 []:=⟨.zero,λu b=>absurd b (J5 _)⟩;refine⟨by simp,λs d=>?_,λu s b p=>?_,λs=>?_,λs=>?_,λj s _ f=>absurd f (J5 _),λs _ m c=>by simp at c⟩
 ·rw[A6.mp d];exact⟨0,by lia,a,rfl⟩
 ·have:u=0:=by lia
  subst this;rw[z s p];simp
 ·rw[A6];exact⟨λe=>e▸a,λh=>z s h.1⟩
 ·constructor
  ·intro h;cases h
  ·rintro⟨h,m⟩;rw[A6.mp h] at m;exact absurd (Mt.one m a) (by lia)
section
variable{t:Nat}{ks due ly:List (List Int)}{f:List Int->Nat}{i k:Nat}
theorem BF.hit (h:BF Ae Aa t ks due ly f i k){s:List Int}{m:Mv}(hs:due[i]?=some s)(b:(qD4 Ae s Aa)[k]?=some m)(c:behL s m∈ks):BF Ae Aa t ks due ly f i (k+1):=by
 refine⟨h.nd,h.snd,h.full,h.duem,h.lym,h.done,λg e d a=>?_⟩;rw[hs] at e;cases e;rw[C8,b,C9,A8,A6] at a;rcases a with z|z
 ·exact h.dk s hs d z
 ·rw[z];exact c
noncomputable def qIS (f:List Int->Nat)(x:List Int)(v:Nat):List Int->Nat:=λy=>if y=x then v else f y
theorem qLK (f:List Int->Nat)(x:List Int)(v:Nat):qIS f x v x=v:=if_pos rfl
theorem qJ4 {f:List Int->Nat}{x y:List Int}{v:Nat}{ks:List (List Int)}(h:y∈ks)(a:x∉ks):qIS f x v y=f y:=if_neg λe=>a (by rw[<- e];exact h)
theorem qJH {ks:List (List Int)}{x:List Int}(c:ks.Nodup)(h:x∉ks):(ks++[x]).Nodup:=by
 rw[A14];exact⟨c,by simp,λa f b d e=>h (by rw[A6.mp d] at e;exact e▸f)⟩
theorem BF.val (h:BF Ae Aa t ks due ly f i k){s:List Int}(hs:s∈due):s∈ks/\2*f s=t+s.length:=by
 have m:=(h.duem s).mp hs;have a:=h.full t s (A7 _) m.1;obtain⟨u,_,b,e⟩:=h.snd s a;rw[Mt.one b m] at e;exact⟨a,e⟩
theorem BF.add (h:BF Ae Aa t ks due ly f i k){s:List Int}{m:Mv}(hs:due[i]?=some s)(g:(qD4 Ae s Aa)[k]?=some m)(c:behL s m∉ks):
  BF Ae Aa t (ks++[behL s m]) due (ly++[behL s m]) (qIS f (behL s m) (f s+if m.1=D4 "do" then 1 else 0)) i (k+1):=by
 have b:=A9 hs;have n:=(h.duem s).mp b;obtain⟨y,ev⟩:=h.val b;have q:=A9 g;have o:Mt Ae Aa (t+1) (behL s m):=⟨.step n.1 q,λu r p=>c (h.full u _ (by lia) p)⟩
 refine⟨qJH h.nd c,λx v=>?_,λu x r p=>A8.mpr (.inl (h.full u x r p)),h.duem,λx=>?_,λj x e hj d a=>A8.mpr (.inl (h.done j x e hj d a)),λx e d a=>?_⟩
 ·rcases A8.mp v with z|z
  ·rw[qJ4 z c];exact h.snd x z
  ·rw[A6.mp z,qLK];refine⟨t+1,A7 _,o,?_⟩;rcases qKN n.1.rise q with⟨w,l⟩|⟨w,l⟩
   ·rw[if_pos w];lia
   ·rw[if_neg (λz=>by rw[w] at z;exact qAF z)];lia
 ·rw[A8,A8,A6,h.lym x]
  constructor
  ·rintro(z|z)
   ·exact⟨.inl z.1,z.2⟩
   ·exact⟨.inr z,z▸o⟩
  ·rintro⟨z|z,e⟩
   ·exact .inl ⟨z,e⟩
   ·exact .inr z
 ·rw[hs] at e;cases e;rw[C8,g,C9,A8,A6] at a;rcases a with z|z
  ·exact A8.mpr (.inl (h.dk s hs d z))
  ·rw[z];simp
theorem BF.next (h:BF Ae Aa t ks due ly f i k){s:List Int}(hs:due[i]?=some s)(b:(qD4 Ae s Aa).length<=k):BF Ae Aa t ks due ly f (i+1) 0:=by
 refine⟨h.nd,h.snd,h.full,h.duem,h.lym,λj x e d m a=>?_,λs _ m a=>by simp at a⟩
 by_cases c:j=i
 ·subst c;rw[hs] at e;cases e;exact h.dk s hs m (by rw[D0 b];exact a)
 ·exact h.done j x e (by lia) m a
theorem BF.level (h:BF Ae Aa t ks due ly f i k)(hi:due.length<=i):BF Ae Aa (t+1) ks ly [] f 0 0:=by
 have full:∀u s,u<=t+1->Pt Ae Aa u s->s∈ks:=λu s g p=>by
  cases p with
  |zero=>exact h.full 0 [] (by lia) .zero
  |@step u st m p hm=>
   have d:=h.full u st (by lia) p
   obtain⟨v,q,a,_⟩:=h.snd st d;have l:v<=u:=by
    apply G4;intro z;exact a.2 u (by lia) p
   by_cases e:v=t
   ·subst e;obtain⟨j,b,o⟩:=M7 ((h.duem st).mpr a);exact h.done j st (by rw[A4 b,o]) (by lia) m hm
   ·exact h.full (v+1) _ (by lia) (.step a.1 hm)
 refine⟨h.nd,λs c=>?_,full,λs=>?_,λs=>?_,λj s _ b=>absurd b (J5 _),λs _ m hm=>by simp at hm⟩
 ·obtain⟨u,g,r⟩:=h.snd s c;exact⟨u,by lia,r⟩
 ·rw[h.lym s];exact⟨λz=>z.2,λz=>⟨full _ _ (A7 _) z.1,z⟩⟩
 ·constructor
  ·intro z;cases z
  ·rintro⟨c,m⟩;obtain⟨u,g,n,_⟩:=h.snd s c;exact absurd (Mt.one n m) (by lia)
structure Rch (Ae:List (List Int))(Aa:Int)(ks:List (List Int))(f:List Int->Nat):Prop where
 nd:ks.Nodup
 snd:∀s∈ks,∃u,Mt Ae Aa u s/\2*f s=u+s.length
 all:∀u s,Pt Ae Aa u s->s∈ks
theorem BF.rch (h:BF Ae Aa t ks [] [] f i k):Rch Ae Aa ks f:=by
 have d:∀s∈ks,∃u,u<t/\Mt Ae Aa u s:=λs a=>by
  obtain⟨u,m,b,_⟩:=h.snd s a;have l:u≠t:=λe=>nomatch(h.duem s).mpr (e▸b);have j:u≠t+1:=λe=>nomatch(h.lym s).mpr ⟨a,e▸b⟩;exact⟨u,by lia,b⟩
 refine⟨h.nd,λs a=>let⟨u,_,r⟩:=h.snd s a;⟨u,r⟩,λu s p=>?_⟩
 induction p with
 |zero=>exact h.full 0 [] (by lia) .zero
 |step p hm ih=>
  obtain⟨v,g,c⟩:=d _ ih;exact h.full (v+1) _ (by lia) (.step c.1 hm)
theorem BF.len (h:BF Ae Aa t ks due ly f i k):ks.length<=2^Ae.length:=by
 have c:∀s∈ks,Rise (Ae.length:Int) s:=λs d=>let⟨_,_,m,_⟩:=h.snd s d;m.1.rise
 have nd:(ks.map mskN).Nodup:=by
  refine J4.mpr (h.nd.imp_of_mem λ{a b} o l g e=>g (qV2 (c a o) (c b l) e))
 have:=qEH (n:=2^Ae.length) nd λb l=>by
  obtain⟨s,d,rfl⟩:=D2.mp l;refine A00 _ λj p=>?_;rw[qB4 (c s d)];refine decide_eq_false λz=>?_;have:=((c s d).in_ _ z).2
  lia
 rwa[A0] at this
end
theorem Rch.le {ks:List (List Int)}{f:List Int->Nat}(h:Rch Ae Aa ks f){s:List Int}(hs:s∈ks){t:Nat}(p:Pt Ae Aa t s):2*f s<=t+s.length:=by
 obtain⟨u,m,e⟩:=h.snd s hs;have:u<=t:=by
  apply G4;intro z;exact m.2 t (by lia) p
 lia
end
theorem _root_.L2.lm_hu {X:Cx}{a:Scope}{p:Str}{fv:List Nat}{q:Str}(z:LmZ):(lmCx X a p fv q z).A.units+1<cLine:=by
 have:=z.rm.un;show z.A.units+3+1<cLine
 lia
theorem _root_.L2.hu2_of {k:Nat}{A:Around}(a:Room k A):A.in1.units+1<cLine:=by
 have:=a.units;show A.units+1+1<cLine
 lia
noncomputable def keyS (s:List Int):List Key:=s.map G0
theorem qC3 (s:List Int):(keyS s).map kV=s.map V.int:=by unfold keyS;rw[Z8];rfl
theorem qFY {s c:List Int}(h:keyS s=keyS c):s=c:=by
 unfold keyS at h;exact List.map_inj_right (λa b e=>p8 e) |>.mp h
def Val3 (H:Hp)(v:V)(n:Nat):Prop:=∃r x y,v=.ref r/\H r=some (.tup [.int (n:Int),x,y])
theorem Val3.same {H H':Hp}{v:V}{n:Nat}(h:Val3 H v n)(a:Same H H'):Val3 H' v n:=let⟨r,x,y,e,g⟩:=h;⟨r,x,y,e,a _ _ g⟩
def Ent (H:Hp)(Af:List (List Key×V))(ks:List (List Int))(f:List Int->Nat):Prop:=Paired (λ(kv:List Key×V) s=>kv.1=keyS s/\Val3 H kv.2 (f s)) Af ks
section
variable{H H':Hp}{Af:List (List Key×V)}{ks:List (List Int)}{f:List Int->Nat}
theorem Ent.same (h:Ent H Af ks f)(a:Same H H'):Ent H' Af ks f:=Paired.mapP h λ_ _ z=>⟨z.1,z.2.same a⟩
theorem Ent.val:∀{Af:List (List Key×V)} {ks:List (List Int)},Ent H Af ks f->∀{s:List Int},s∈ks->∃v,valV Af (keyS s)=some v/\Val3 H v (f s)
 |_,_,.nil,s,hs=>nomatch hs
 |_,_,.cons (a:=kv) (b:=s0) ⟨e,v3⟩ t,s,hs=>by
  by_cases c:s0=s
  ·subst c;exact⟨kv.2,qBP e,v3⟩
  ·rw[qBQ (λz=>c (qFY (e.symm.trans z)))];exact Ent.val t ((B6.mp hs).resolve_left λz=>c z.symm)
theorem Ent.none:∀{Af:List (List Key×V)} {ks:List (List Int)},Ent H Af ks f->∀{s:List Int},s∉ks->valV Af (keyS s)=none
 |_,_,.nil,s,hs=>rfl
 |_,_,.cons (a:=kv) (b:=s0) ⟨e,v3⟩ t,s,hs=>by
  rw[qBQ (λz=>hs (by rw[qFY (e.symm.trans z)];simp))]
  exact Ent.none t λz=>hs (B3 _ z)
theorem Ent.len (h:Ent H Af ks f):Af.length=ks.length:=C1 h
end
def StL (H:Hp)(rs:List Addr)(ss:List (List Int)):Prop:=Paired (λ(r:Addr) (s:List Int)=>H r=some (.tup (s.map V.int))) rs ss
theorem StL.same {H H':Hp}{b:List Addr}{a:List (List Int)}(h:StL H b a)(c:Same H H'):StL H' b a:=Paired.mapP h λ_ _ z=>c _ _ z
theorem StL.put {H:Hp}{b:List Addr}{a:List (List Int)}{d:Addr}{o u:HO}(h:StL H b a)(c:H d=some o)(f:∀xs,o≠.tup xs):StL (Ag H d u) b a:=Paired.mapP h λr s z=>by
 rw[qA9 (qCP z c λe=>f _ e.symm)];exact z
theorem StL.snoc {H:Hp}{c:List Addr}{b:List (List Int)}{r:Addr}{s:List Int}(h:StL H c b)(g:H r=some (.tup (s.map V.int))):StL H (c++[r]) (b++[s]):=by
 induction h with
 |nil=>exact .cons g .nil
 |cons a _ ih=>exact .cons a ih
theorem MovL.putG {H:Hp}{b:List Addr}{a:List Mv}{d:Addr}{o u:HO}(h:MovL H b a)(c:H d=some o)(f:∀xs,o≠.tup xs):MovL (Ag H d u) b a:=Paired.mapP h λr s z=>by
 rw[qA9 (qCP z c λe=>f _ e.symm)];exact z
theorem qHU:∀a b c:List Int,HT.lexLt a b=false->HT.lexLt b c=false->HT.lexLt a c=false
 |[],[],c,_,h=>h
 |[],_::_,c,h,_=>by cases h
 |x::a,[],[],_,_=>rfl
 |x::a,[],_::_,_,h=>by cases h
 |x::a,y::b,[],_,_=>rfl
 |x::a,y::b,z::c,h1,h2=>by
  rw[HT.lexLt_cons] at h1 h2 ⊢;by_cases e1:x=y
  ·subst e1;rw[if_pos rfl] at h1;by_cases e2:x=z
   ·rw[if_pos e2] at h2 ⊢;exact qHU a b c h1 h2
   ·rw[if_neg e2] at h2 ⊢;exact h2
  ·rw[if_neg e1] at h1;have h1:=of_decide_eq_false h1;by_cases e2:y=z
   ·subst e2;rw[if_neg e1];exact decide_eq_false h1
   ·rw[if_neg e2] at h2;have h2:=of_decide_eq_false h2;rw[if_neg (by lia)]
    exact decide_eq_false (by lia)
theorem qRQ:∀a b:List Int,HT.lexLt a b=true->HT.lexLt b a=false
 |[],[],_=>rfl
 |[],_::_,_=>rfl
 |_::_,[],h=>by cases h
 |x::a,y::b,h=>by
  rw[HT.lexLt_cons] at h ⊢;by_cases e:x=y
  ·subst e;rw[if_pos rfl] at h ⊢;exact qRQ a b h
  ·rw[if_neg e] at h;have h:=of_decide_eq_true h;rw[if_neg (by lia)]
   exact decide_eq_false (by lia)
theorem qJP:∀(r:List (V×List Int)) (b:V×List Int),∃k,(qF3 b r,k)∈b::r/\∀q∈b::r,HT.lexLt q.2 k=false
 |[],b=>⟨b.2,by simp[qF3],λq hq=>by rw[A6.mp hq];exact qQ5 _⟩
 |x::r,b=>by
  by_cases e:HT.lexLt x.2 b.2=true
  ·obtain⟨k,h1,h2⟩:=qJP r x;have ep:qF3 b (x::r)=qF3 x r:=by rw[qF3,if_pos e]
   rw[ep];refine⟨k,B3 _ h1,λq hq=>?_⟩;rcases B6.mp hq with z|z
   ·rw[z];exact qHU _ _ _ (qRQ _ _ e) (h2 x (by simp))
   ·exact h2 q z
  ·obtain⟨k,h1,h2⟩:=qJP r b;have ep:qF3 b (x::r)=qF3 b r:=by rw[qF3,if_neg e]
   rw[ep];refine⟨k,?_,λq hq=>?_⟩
   ·rcases B6.mp h1 with z|z
    ·rw[z];simp
    ·exact B3 _ (B3 _ z)
   ·rcases B6.mp hq with z|z
    ·exact h2 q (by rw[z];simp)
    ·rcases B6.mp z with z|z
     ·rw[z];exact qHU _ _ _ (F7.mpr e) (h2 b (by simp))
     ·exact h2 q (B3 _ z)
def TabB (H:Hp) (Pt:Addr):Prop:=H Pt=some (.tbl (.tab "best_end.<locals>.<lambda>"))
def qU2 (Pt:Addr):Sp:=λvs H Q _=>∃(d t:Addr) (o:Obj) (Af:List (List Key×V)) (ks:List (List Int)) (f:List Int->Nat) (Ad:List Int),vs=[.ref d,.ref t]/\TabB H Pt/\H d=some (.frz o (.dT Af))/\Ent H Af ks f/\ks.length<=4096/\H t=some (.tup (Ad.map V.int))/\Ad.length<=1000/\
 ∀H',Same H H'->((∀s∈ks,¬ ∀x∈Ad,x∈s)->Q .non H')/\∀r s,H' r=some (.tup (s.map V.int))->s∈ks->(∀x∈Ad,x∈s)->(∀s'∈ks,(∀x∈Ad,x∈s')->f s<=f s')->Q (.ref r) H'
def qU1:Sp:=λvs H Q _=>∃(l:Addr) (ws:List Int),vs=[.ref l]/\H l=some (.tup (ws.map V.int))/\(∀x∈ws,0<=x/\x<1000)/\ws.length<=1000/\∀H',Same H H'->Q (.int ((mskN ws:Nat):Int)) H'
def LB (Ae:List (List Int))(Aa:Int)(Ad:List Int):Option Nat->Prop
 |none=>∀m b,Rm Ae Aa m b->¬b &&& mskN Ad=mskN Ad
 |some k=>(∃b,Rm Ae Aa k b/\b &&& mskN Ad=mskN Ad)/\∀m b,Rm Ae Aa m b->b &&& mskN Ad=mskN Ad->k<=m
section
variable{Ae:List (List Int)}{Aa:Int}{Ad:List Int}
theorem LB.one:∀{o o':Option Nat},LB Ae Aa Ad o->LB Ae Aa Ad o'->o=o'
 |none,none,_,_=>rfl
 |none,some k,h,h'=>let⟨⟨b,r,e⟩,_⟩:=h';absurd e (h k b r)
 |some k,none,h,h'=>let⟨⟨b,r,e⟩,_⟩:=h;absurd e (h' k b r)
 |some k,some k',⟨⟨b,r,e⟩,l⟩,⟨⟨b',r',e'⟩,l'⟩=>by
  have a:=l k' b' r' e';have c:=l' k b r e;rw[B23 a c]
theorem qP7 (j:WFn Ae)(i:Rise (Ae.length:Int) Ad){ks:List (List Int)}{f:List Int->Nat}(h:Rch Ae Aa ks f){s:List Int}(hs:s∈ks)(q:∀x∈Ad,x∈s)(le:∀s'∈ks,(∀x∈Ad,x∈s')->f s<=f s'):LB Ae Aa Ad (some (f s)):=by
 obtain⟨u,m,e⟩:=h.snd s hs;obtain⟨d,w,R⟩:=m.1.bits j;have p:d=f s:=by lia
 subst p;refine⟨⟨_,R,(qEZ m.1.rise i).mpr q⟩,λv b o r=>?_⟩;obtain⟨k,t,n,P,l⟩:=o.path j;subst n;have g:=h.all t k P;have a:=le k g ((qEZ P.rise i).mp r);have c:=h.le g P
 lia
theorem qP8 (d:WFn Ae)(c:Rise (Ae.length:Int) Ad){ks:List (List Int)}{f:List Int->Nat}(h:Rch Ae Aa ks f)(i:∀s∈ks,¬ ∀x∈Ad,x∈s):LB Ae Aa Ad none:=λm b R e=>by
 obtain⟨a,t,g,P,l⟩:=R.path d;subst g;exact i a (h.all t a P) ((qEZ P.rise c).mp e)
theorem Rm.done_ (i:WFn Ae){m b:Nat}(h:Rm Ae Aa m b):∃D:List Int,D.Nodup/\D.length<=m/\(∀k:Nat,b.testBit k=true->(k:Int)∈D)/\∀w∈D,0<=w/\w<(Ae.length:Int)/\∀y∈nd Ae w,y∈D:=by
 induction h with
 |zero=>exact⟨[],.nil,A7 _,λk z=>by simp at z,λ_ z=>nomatch z⟩
 |@clr m b k R hk ih=>
  obtain⟨D,g,o,e,f⟩:=ih;refine⟨D,g,o,λj a=>?_,f⟩;obtain⟨st,t,l,P,_⟩:=R.path i;subst l;rw[qNA P.rise,qB4 (n:=(Ae.length:Int)) ⟨P.rise.up.filter _,λx v=>P.rise.in_ x (D6.mp v).1⟩] at a;exact e j (by rw[qB4 P.rise];exact decide_eq_true (D6.mp (of_decide_eq_true a)).1)
 |@do_ m b k R hc ih=>
  obtain⟨D,g,o,e,f⟩:=ih;obtain⟨h1,h2,p⟩:=hc;have hn:∀y∈nd Ae (k:Int),y∈D:=λy d=>by
   obtain⟨st,t,l,P,_⟩:=R.path i;subst l;have rn:Rise (Ae.length:Int) (nd Ae (k:Int)):=qPZ i (by lia)
   have en:nxt Ae k=mskN (nd Ae (k:Int)):=by unfold nxt nd;rw[E4]
   rw[en] at p;have:=(qEZ P.rise rn).mp p y d;have y0:=P.rise.nn y this;have:=e y.toNat (by rw[qB4 P.rise];exact decide_eq_true (by rw[show((y.toNat:Nat):Int)=y by lia];exact this))
   rwa[show((y.toNat:Nat):Int)=y by lia] at this
  by_cases c:(k:Int)∈D
  ·refine⟨D,g,by lia,λj a=>?_,f⟩
   rw[k9,U0,T6,decide_eq_true_eq] at a;rcases a with z|z
   ·exact e j z
   ·rw[<- z];exact c
  ·refine⟨D++[(k:Int)],qGD g c,by rw[B0,B8];lia,λj a=>?_,λw s=>?_⟩
   ·rw[k9,U0,T6,decide_eq_true_eq] at a;rcases a with z|z
    ·exact A8.mpr (.inl (e j z))
    ·rw[<- z];simp
   ·rcases A8.mp s with z|z
    ·obtain⟨r,u,q⟩:=f w z;exact⟨r,u,λy d=>A8.mpr (.inl (q y d))⟩
    ·rw[A6.mp z];exact⟨by lia,by lia,λy d=>A8.mpr (.inl (hn y d))⟩
theorem qaL (f:WFn Ae)(d:Rise (Ae.length:Int) Ad){zs:List Int}(N:qAM Ae Ad zs){m b:Nat}(R:Rm Ae Aa m b)(e:b &&& mskN Ad=mskN Ad):zs.length<=m:=by
 obtain⟨D,g,j,h,i⟩:=R.done_ f;have c:∀x,Nd Ae Ad x->x∈D:=by
  intro x a
  induction a with
  |ask a=>
   rename_i x
   have k:=d.nn x a;have q:=congrArg (λb=>Nat.testBit b x.toNat) e;simp only[c5,qB4 d] at q;rw[show((x.toNat:Nat):Int)=x by lia,decide_eq_true a,B52] at q
   have:=h x.toNat q
   rwa[show((x.toNat:Nat):Int)=x by lia] at this
  |need _ hz hy ih=>exact(i _ ih).2.2 _ (by unfold nd;rw[hz];exact hy)
 have:=qV8 N.1.nodup g λx a=>c x ((N.2 x).mp a)
 lia
theorem qZ6 {a:List Mv}{s t:List Int}(h:Run Ae Aa s a t):∀{u:Nat},(∀m∈a,0<=m.2/\m.2<(Ae.length:Int))->Pt Ae Aa u s->Pt Ae Aa (u+a.length) t:=by
 induction h with
 |nil=>exactλ_ p=>p
 |@do_ s s' t w a h1 h2 h3 h4 h5 h6 ih=>
  intro u c p;have d:((D4 "do",w):Mv)∈qD4 Ae s Aa:=due_iff.mpr ⟨⟨.inl rfl,(c _ (by simp)).1,(c _ (by simp)).2⟩,λ_=>⟨h1,h2,h3⟩,λz=>absurd z.symm qAF⟩
  have e:s'=behL s (D4 "do",w):=by
   unfold behL;rw[if_pos rfl];refine qIL h5 ((Pt.step p d).rise.up |> λz=>by unfold behL at z;rw[if_pos rfl] at z;exact z) λx=>?_
   rw[h4.mem_iff,mem_insL,A8,A6]
  have:=ih (u:=u+1) (λm b=>c m (B3 _ b)) (by rw[e];exact .step p d)
  rw[D3,show u+(a.length+1)=u+1+a.length by lia]
  exact this
 |@clear s t w a h1 h2 ih=>
  intro u c p;have d:((D4 "clear",w):Mv)∈qD4 Ae s Aa:=due_iff.mpr ⟨⟨.inr rfl,(c _ (by simp)).1,(c _ (by simp)).2⟩,λz=>absurd z qAF,λ_=>h1⟩
  have:=ih (u:=u+1) (fun m b=>c m (B3 _ b)) (by
   have q:=Pt.step p d;unfold behL at q;rw[if_neg qAF] at q;exact q)
  rw[D3,show u+(a.length+1)=u+1+a.length by lia]
  exact this
theorem qb3 (a:WFn Ae)(c:Rise (Ae.length:Int) Ad){zs:List Int}(N:qAM Ae Ad zs):Rm Ae (Ae.length:Int) zs.length (mskN Ad):=by
 have R:=qaC a N c.up;have l:=R.len .nil;rw[show qEF (qRG Ae Ad zs)=zs from qYV zs,O9] at l;have P:=qZ6 R (u:=0) (λm f=>(qXS a N f).2) .zero;obtain⟨d,e,b⟩:=P.bits a
 rwa[show d=zs.length by lia] at b
theorem qb5 (c:WFn Ae)(a:Rise (Ae.length:Int) Ad){zs:List Int}(N:qAM Ae Ad zs):LB Ae (Ae.length:Int) Ad (some zs.length):=
 ⟨⟨_,qb3 c a N,Nat.and_self _⟩,λm b R e=>qaL c a N R e⟩
theorem qY7 {P:Nat->Prop}:∀n,P n->∃k,P k/\∀m,P m->k<=m:=by
 intro n
 induction n using Nat.strongRecOn with
 |_ n ih=>
  intro h;by_cases c:∃m,m<n/\P m
  ·obtain⟨m,b,a⟩:=c;exact ih m b a
  ·exact⟨n,h,λm d=>Y9 λz=>c ⟨m,z,d⟩⟩
theorem qcY (Ae:List (List Int))(Aa:Int)(Ad:List Int):∃o,LB Ae Aa Ad o:=by
 by_cases c:∃m b,Rm Ae Aa m b/\b &&& mskN Ad=mskN Ad
 ·obtain⟨m,b,R,e⟩:=c;obtain⟨k,⟨a,d,f⟩,l⟩:=qY7 (P:=λm=>∃b,Rm Ae Aa m b/\b &&& mskN Ad=mskN Ad) m ⟨b,R,e⟩;exact⟨some k,⟨a,d,f⟩,λm b R e=>l m ⟨b,R,e⟩⟩
 ·exact⟨none,λm b R e=>c ⟨m,b,R,e⟩⟩
noncomputable def lstO (Ae:List (List Int))(Aa:Int)(Ad:List Int):Option Nat:=B13 (qcY Ae Aa Ad)
noncomputable def upS (Ae:List (List Int))(Ad:List Int)(r:Nat):List (Nat×Nat):=(F2 r).filterMap λi=>(lstO Ae ((i+1:Nat):Int) Ad).map λk=>(i+1,k)
end
theorem Rch.len {Ae:List (List Int)}{Aa:Int}{ks:List (List Int)}{f:List Int->Nat}(h:Rch Ae Aa ks f):ks.length<=2^Ae.length:=by
 have c:∀s∈ks,Rise (Ae.length:Int) s:=λs d=>let⟨_,m,_⟩:=h.snd s d;m.1.rise
 have nd:(ks.map mskN).Nodup:=J4.mpr (h.nd.imp_of_mem λ{a b} k i g e=>g (qV2 (c a k) (c b i) e));have:=qEH (n:=2^Ae.length) nd λb i=>by
  obtain⟨s,d,rfl⟩:=D2.mp i;refine A00 _ λj l=>?_;rw[qB4 (c s d)];refine decide_eq_false λz=>?_;have:=((c s d).in_ _ z).2
  lia
 rwa[A0] at this
def qQY:Sp:=λvs H Q _=>∃(d t:Addr) (o:Obj) (Ae:List (List Int)) (Aa:Int) (Ad:List Int) (kb:List Nat) (g:Nat->Nat),vs=[.ref d,.ref t]/\H d=some (.frz o (.dK (kvN kb g)))/\Come Ae Aa kb g/\Ae.length<=12/\qI4 H t Ae Ad/\
 ∀H',Same H H'->(∀k,LB Ae Aa Ad (some k)->Q (.int ((k:Nat):Int)) H')/\(LB Ae Aa Ad none->Q .non H')
theorem qY5 (g:Nat->Nat):∀(l:List Nat) (b:Nat),∃x∈b::l,lowI (g b:Int) (l.map λx=>(g x:Int))=(g x:Int)/\∀y∈b::l,g x<=g y:=by
 intro l b;obtain⟨e,d,h3⟩:=qV5 (l.map λx=>(g x:Int)) (g b:Int);have:∃x∈b::l,lowI (g b:Int) (l.map λx=>(g x:Int))=(g x:Int):=by
  rcases h3 with h3|h3
  ·exact⟨b,by simp,h3⟩
  ·obtain⟨x,c,a⟩:=D2.mp h3;exact⟨x,B3 _ c,a.symm⟩
 obtain⟨x,c,a⟩:=this;refine⟨x,c,a,λy hy=>?_⟩;rw[a] at e d;rcases B6.mp hy with rfl|hy
 ·lia
 ·have:=d (g y:Int) (D2.mpr ⟨y,hy,rfl⟩)
  lia
theorem qbG {Ae:List (List Int)}{Aa:Int}{Ad:List Int}{d:List Nat}{g:Nat->Nat}(c:Come Ae Aa d g){x:Nat}(h:x∈d)(e:x &&& mskN Ad=mskN Ad)(i:∀y∈d,y &&& mskN Ad=mskN Ad->g x<=g y):LB Ae Aa Ad (some (g x)):=
 ⟨⟨x,(c.snd x h).1,e⟩,λm b R j=>by
  have f:=c.all m b R;have a:=i b f j;have:g b<=m:=by
   apply G4;intro z;exact(c.snd b f).2 m (by lia) R
  lia⟩
theorem qbF {Ae:List (List Int)}{Aa:Int}{Ad:List Int}{a:List Nat}{g:Nat->Nat}(c:Come Ae Aa a g)(h:∀y∈a,¬y &&& mskN Ad=mskN Ad):LB Ae Aa Ad none:=λm b R e=>h b (c.all m b R) e
def qQZ (K:PySem.W.Frag)(Pt:Addr):Sp:=λvs H Q E=>TabB H Pt/\qe3 K vs H Q E
abbrev Prv:=Option (List Int×Mv)
def ValX (H:Hp)(v:V)(n:Nat):Prv->Prop
 |none=>∃r,v=.ref r/\H r=some (.tup [.int (n:Int),.non,.non])
 |some (p,m)=>∃r rp rm,v=.ref r/\H r=some (.tup [.int (n:Int),.ref rp,.ref rm])/\H rp=some (.tup (p.map V.int))/\H rm=some (.tup [.str m.1,.int m.2])
theorem ValX.same {H H':Hp}{v:V}{n:Nat}{o:Prv}(h:ValX H v n o)(a:Same H H'):ValX H' v n o:=by
 cases o with
 |none=>obtain⟨r,e,g⟩:=h;exact⟨r,e,a _ _ g⟩
 |some pm=>obtain⟨r,b,f,e,c,d,i⟩:=h;exact⟨r,b,f,e,a _ _ c,a _ _ d,a _ _ i⟩
theorem ValX.put {H:Hp}{v:V}{n:Nat}{q:Prv}{d:Addr}{o u:HO}(h:ValX H v n q)(b:H d=some o)(c:∀xs,o≠.tup xs):ValX (Ag H d u) v n q:=by
 have k:∀(r:Addr) (xs:List V),H r=some (.tup xs)->(Ag H d u) r=some (.tup xs):=λr xs g=>by
  rw[qA9 (qCP g b λz=>c _ z.symm)];exact g
 cases q with
 |none=>obtain⟨r,e,g⟩:=h;exact⟨r,e,k _ _ g⟩
 |some pm=>obtain⟨r,a,j,e,f,i,l⟩:=h;exact⟨r,a,j,e,k _ _ f,k _ _ i,k _ _ l⟩
theorem ValX.val3 {H:Hp}{v:V}{n:Nat}{o:Prv}(h:ValX H v n o):Val3 H v n:=by
 cases o with
 |none=>obtain⟨r,e,g⟩:=h;exact⟨r,_,_,e,g⟩
 |some pm=>obtain⟨r,a,b,e,g,_⟩:=h;exact⟨r,_,_,e,g⟩
def EntX (H:Hp)(Af:List (List Key×V))(ks:List (List Int))(f:List Int->Nat)(g:List Int->Prv):Prop:=Paired (λ(kv:List Key×V) s=>kv.1=keyS s/\ValX H kv.2 (f s) (g s)) Af ks
noncomputable def gset (g:List Int->Prv)(x:List Int)(v:Prv):List Int->Prv:=λy=>if y=x then v else g y
section
variable{H H':Hp}{Af:List (List Key×V)}{ks:List (List Int)}{f:List Int->Nat}{g:List Int->Prv}
theorem EntX.same (h:EntX H Af ks f g)(a:Same H H'):EntX H' Af ks f g:=Paired.mapP h λ_ _ z=>⟨z.1,z.2.same a⟩
theorem EntX.put {d:Addr}{o u:HO}(h:EntX H Af ks f g)(a:H d=some o)(b:∀xs,o≠.tup xs):EntX (Ag H d u) Af ks f g:=Paired.mapP h λ_ _ z=>⟨z.1,z.2.put a b⟩
theorem EntX.ent (h:EntX H Af ks f g):Ent H Af ks f:=Paired.mapP h λ_ _ z=>⟨z.1,z.2.val3⟩
theorem EntX.val:∀{Af:List (List Key×V)} {ks:List (List Int)},EntX H Af ks f g->∀{s:List Int},s∈ks->∃v,valV Af (keyS s)=some v/\ValX H v (f s) (g s)
 |_,_,.nil,s,hs=>nomatch hs
 |_,_,.cons (a:=kv) (b:=s0) ⟨e,v3⟩ t,s,hs=>by
  by_cases c:s0=s
  ·subst c;exact⟨kv.2,qBP e,v3⟩
  ·rw[qBQ (λz=>c (qFY (e.symm.trans z)))];exact EntX.val t ((B6.mp hs).resolve_left λz=>c z.symm)
theorem EntX.snoc (h:EntX H Af ks f g){s:List Int}(hs:s∉ks){v:V}{n:Nat}{o:Prv}(c:ValX H v n o):EntX H (putK Af (keyS s) v) (ks++[s]) (qIS f s n) (gset g s o):=by
 rw[qRC v (h.ent.none hs)];have d:EntX H Af ks (qIS f s n) (gset g s o):=by
  have:∀{Af:List (List Key×V)} {ks:List (List Int)},EntX H Af ks f g->s∉ks->EntX H Af ks (qIS f s n) (gset g s o):=by
   intro Af ks h
   induction h with
   |nil=>exactλ_=>.nil
   |@cons kv s0 l1 l2 a t ih=>exactλb=>.cons ⟨a.1,by rw[show qIS f s n s0=f s0 from if_neg λz=>b (by rw[z];simp),show gset g s o s0=g s0 from if_neg λz=>b (by rw[z];simp)];exact a.2⟩ (ih λz=>b (B3 _ z))
  exact this h hs
 have:∀{Af:List (List Key×V)} {ks:List (List Int)},EntX H Af ks (qIS f s n) (gset g s o)->EntX H (Af++[(keyS s,v)]) (ks++[s]) (qIS f s n) (gset g s o):=by
  intro Af ks h
  induction h with
  |nil=>exact .cons ⟨rfl,by rw[show qIS f s n s=n from if_pos rfl,show gset g s o s=o from if_pos rfl];exact c⟩ .nil
  |cons a _ ih=>exact .cons a ih
 exact this d
end
section
variable{Ae:List (List Int)}{Aa:Int}{ks ks':List (List Int)}{f f':List Int->Nat}{g g':List Int->Prv}
def Prov (Ae:List (List Int))(Aa:Int)(ks:List (List Int))(f:List Int->Nat)(g:List Int->Prv):Prop:=
 ∀s∈ks,(s=[]/\g s=none/\f s=0)\/∃p m,g s=some (p,m)/\p∈ks/\m∈qD4 Ae p Aa/\s=behL p m/\f s=f p+if m.1=D4 "do" then 1 else 0
theorem qaR {a b:List (List Int)}(e:a.Nodup)(d:b.Nodup)(h:∀x∈a,x∈b):a.length<=b.length:=by
 have p:a.Perm (b.filter λx=>decide (x∈a)):=(t7 e (d.filter _)).mpr λx=>by
  rw[D6,decide_eq_true_eq];exact⟨λc=>⟨h x c,c⟩,λc=>c.2⟩
 rw[p.length_eq];exact P4 _ _
noncomputable def qF9 (g:List Int->Prv):Nat->List Int->List Mv
 |0,_=>[]
 |n+1,s=>match g s with
  |none=>[]
  |some (p,m)=>qF9 g n p++[m]
noncomputable def pth (f:List Int->Nat)(g:List Int->Prv)(s:List Int):List Mv:=qF9 g (2*f s-s.length) s
theorem qM3 (R:Rch Ae Aa ks f) {p:List Int} {m:Mv} (a:p∈ks) (c:m∈qD4 Ae p Aa) {u:Nat} (e:2*(f p+if m.1=D4 "do" then 1 else 0)=u+(behL p m).length):∃v,u=v+1/\2*f p=v+p.length:=by
 obtain⟨v,d,b⟩:=R.snd p a;refine⟨v,?_,b⟩;rcases qKN d.1.rise c with⟨w,l⟩|⟨w,l⟩
 ·rw[if_pos w] at e;lia
 ·rw[if_neg (λz=>by rw[w] at z;exact qAF z)] at e;lia
theorem qa8 (l:WFn Ae){p:List Int}{m:Mv}{t:Nat}(P:Pt Ae Aa t p)(f:m∈qD4 Ae p Aa):Run Ae Aa p [m] (behL p m):=by
 have r:=P.rise;have k:=(Pt.step P f).rise;obtain⟨⟨a,b,c⟩,d,e⟩:=due_iff.mp f;obtain⟨g,n⟩:=m;rcases a with a|a
 ·have a:g=D4 "do":=a
  subst a;obtain⟨j,i,h⟩:=d rfl;exact .do_ j i h (by unfold behL;rw[if_pos rfl];exact qFC _ _) k.up .nil
 ·have a:g=D4 "clear":=a;subst a;unfold behL;rw[if_neg (λz=>qAF z)];exact .clear (e rfl) .nil
theorem qRI (wf:WFn Ae)(R:Rch Ae Aa ks f)(pv:Prov Ae Aa ks f g):∀(u:Nat) (s:List Int),s∈ks->2*f s=u+s.length->Run Ae Aa [] (qF9 g u s) s/\(qEF (qF9 g u s)).length=f s/\MvOk Ae (qF9 g u s)/\(qF9 g u s).length=u/\
  ∃L:List (List Int),L.length=u+1/\L.Nodup/\∀x∈L,x∈ks/\∃v,v<=u/\2*f x=v+x.length
 |0,s,hs,e=>by
  rcases pv s hs with⟨a1,a2,a3⟩|⟨p,m,a1,a2,a3,a4,a5⟩
  ·subst a1;refine⟨.nil,by rw[a3];rfl,(λ_ z=>by cases z),rfl,[[]],rfl,by simp,λx hx=>by rw[A6.mp hx];exact⟨hs,0,A7 _,e⟩⟩
  ·rw[a5,a4] at e;obtain⟨v,z,_⟩:=qM3 R a2 a3 e
   lia
 |u+1,s,hs,e=>by
  rcases pv s hs with⟨a1,a2,a3⟩|⟨p,m,a1,a2,a3,a4,a5⟩
  ·rw[a3,a1] at e;simp at e
  ·have e2:=e;rw[a5,a4] at e2;obtain⟨v,z1,z2⟩:=qM3 R a2 a3 e2;have:v=u:=by lia
   subst this;obtain⟨i1,i2,i3,i4,L,i5,i6,i7⟩:=qRI wf R pv v p a2 z2;obtain⟨_,mp,_⟩:=R.snd p a2;have ep:qF9 g (v+1) s=qF9 g v p++[m]:=by show(match g s with|none=>[]|some (p,m)=>qF9 g v p++[m])=_;rw[a1]
   rw[ep];have one:=qa8 wf mp.1 a3;rw[<- a4] at one;have dd:(qEF [m]).length=if m.1=D4 "do" then 1 else 0:=by
    unfold qEF;rw[K0]
    split<;>rename_i h
    ·split at h
     ·cases h
     ·rename_i hn;rw[if_neg hn];rfl
    ·split at h
     ·rename_i hy;rw[if_pos hy];rfl
     ·cases h
   refine⟨i1.app one,by rw[qOX,B0,i2,dd,a5],λx hx=>?_,by rw[B0,i4];rfl,L++[s],by rw[B0,i5];rfl,qJH i6 λhz=>?_,λx hx=>?_⟩
   ·rcases A8.mp hx with z|z
    ·exact i3 x z
    ·rw[A6.mp z];exact(due_iff.mp a3).1
   ·obtain⟨_,w,w1,w2⟩:=i7 s hz
    lia
   ·rcases A8.mp hx with z|z
    ·obtain⟨j1,w,w1,w2⟩:=i7 x z;exact⟨j1,w,by lia,w2⟩
    ·rw[A6.mp z];exact⟨hs,v+1,A7 _,e⟩
theorem qPP (k:WFn Ae)(R:Rch Ae Aa ks f)(h:Prov Ae Aa ks f g){s:List Int}(hs:s∈ks):Run Ae Aa [] (pth f g s) s/\(qEF (pth f g s)).length=f s/\MvOk Ae (pth f g s)/\(pth f g s).length+1<=ks.length:=by
 obtain⟨u,_,e⟩:=R.snd s hs;have j:2*f s-s.length=u:=by lia
 obtain⟨i,l,c,m,L,n,d,b⟩:=qRI k R h u s hs e;unfold pth;rw[j];refine⟨i,l,c,?_⟩;have:=qaR d R.nd λx a=>(b x a).1
 lia
end
structure EntZ (H:Hp)(Af:List (List Key×V))(ks:List (List Int))(f:List Int->Nat)(Φ:(List Int->Prv)->Prop):Prop where
 ex:∃g,EntX H Af ks f g/\Φ g
section
variable{H H':Hp}{Af:List (List Key×V)}{ks:List (List Int)}{f:List Int->Nat}{Φ Ψ:(List Int->Prv)->Prop}
theorem EntZ.same (h:EntZ H Af ks f Φ)(c:Same H H'):EntZ H' Af ks f Φ:=let⟨g,a,b⟩:=h.ex;⟨g,a.same c,b⟩
theorem EntZ.put {d:Addr}{o u:HO}(h:EntZ H Af ks f Φ)(c:H d=some o)(e:∀xs,o≠.tup xs):EntZ (Ag H d u) Af ks f Φ:=let⟨g,a,b⟩:=h.ex;⟨g,a.put c e,b⟩
theorem EntZ.ent (h:EntZ H Af ks f Φ):Ent H Af ks f:=let⟨_,a,_⟩:=h.ex;a.ent
theorem EntZ.len (h:EntZ H Af ks f Φ):Af.length=ks.length:=h.ent.len
theorem EntZ.val (h:EntZ H Af ks f Φ){s:List Int}(hs:s∈ks):∃v,valV Af (keyS s)=some v/\Val3 H v (f s):=h.ent.val hs
theorem EntZ.none (h:EntZ H Af ks f Φ){s:List Int}(hs:s∉ks):valV Af (keyS s)=none:=h.ent.none hs
theorem EntZ.snoc (h:EntZ H Af ks f Φ){s p:List Int}{m:Mv}(hs:s∉ks){r c d:Addr}{n:Nat}(e:H r=some (.tup [.int (n:Int),.ref c,.ref d]))(j:H c=some (.tup (p.map V.int)))(k:H d=some (.tup [.str m.1,.int m.2]))(i:∀g,Φ g->Ψ (gset g s (some (p,m)))):
  EntZ H (putK Af (keyS s) (.ref r)) (ks++[s]) (qIS f s n) Ψ:=let⟨g,a,b⟩:=h.ex;⟨_,a.snoc (v:=.ref r) (n:=n) (o:=some (p,m)) hs ⟨r,c,d,rfl,e,j,k⟩,i g b⟩
end
def qTZ:Sp:=λvs H Q _=>∃(a l t:Addr) (Ae:List (List Int)) (ms:List Mv) (Aa:Int) (Ad last:List Int),vs=[.ref a,.int Aa,.ref l,.ref t]/\PlayIn2 H a l Ae ms Aa/\Run Ae Aa [] ms last/\H t=some (.tup (Ad.map V.int))/\Ad.length<=1000/\(∀x∈Ad,x∈last)/\∀H',Same H H'->Q (.bl true) H'
theorem qLF:∀(sts:List (List Int)) (s:List Int),(s::sts)[sts.length]?=some (qRR s sts)
 |[],s=>rfl
 |x::sts,s=>qLF sts x
noncomputable def renW (ws:List Int)(i:Int):Int:=(ws[i.toNat]?).getD 0
noncomputable def renM (ws:List Int)(ms:List Mv):List Mv:=ms.map λm=>(m.1,renW ws m.2)
section
variable{Ae:List (List Int)}{Ad ws:List Int}{Aa:Int}
theorem qR8 {i:Nat}{x:Int}(h:ws[i]?=some x):renW ws (i:Int)=x:=by
 unfold renW;rw[E4,h]
 rfl
theorem qJK (c:ws.Pairwise (·<·)){i j:Int}(d:0<=i)(h:i<j)(e:j<(ws.length:Int)):renW ws i<renW ws j:=by
 have b:i.toNat<ws.length:=by lia
 have a:j.toNat<ws.length:=by lia
 unfold renW;rw[A4 b,A4 a];exact F8.mp c i.toNat j.toNat b a (by lia)
theorem qR7 (a:ws.Pairwise (·<·)){i j:Int}(b:0<=i)(hi:i<(ws.length:Int))(f:0<=j)(d:j<(ws.length:Int))(e:renW ws i=renW ws j):i=j:=by
 rcases Int.lt_trichotomy i j with c|c|c
 ·have:=qJK a b c d;lia
 ·exact c
 ·have:=qJK a f c hi;lia
theorem qY2 (N:qAM Ae Ad ws){w y:Int}(b:w∈ws)(a:y∈nd Ae w):y∈ws:=by
 have n:=(N.2 w).mp b;unfold nd at a;cases e:Ae[w.toNat]? with
 |none=>rw[e] at a;cases a
 |some zs=>
  rw[e] at a;exact(N.2 y).mpr (.need n e a)
theorem qXJ (N:qAM Ae Ad ws){s t:List Int}{k:List Mv}(R:Run (qBR Ae ws) Aa s k t):(∀x∈s,0<=x/\x<(ws.length:Int))->MvOk (qBR Ae ws) k->Run Ae Aa (s.map (renW ws)) (renM ws k) (t.map (renW ws)):=by
 have up:=N.1.up;have v:=qBL Ae ws
 induction R with
 |nil=>exactλ_ _=>.nil
 |@do_ s s' t w k h1 h2 h3 h4 h5 h6 ih=>
  intro n l;have c:=(l (D4 "do",w) (by simp)).2
  dsimp only at c;rw[v] at c;have f:∀x∈s',0<=x/\x<(ws.length:Int):=λx d=>by
   rcases A8.mp (h4.mem_iff.mp d) with z|z
   ·exact n x z
   ·rw[A6.mp z];exact c
  have wi:w.toNat<ws.length:=by lia
  have u:ws[w.toNat]?=some (renW ws w):=by unfold renW;rw[A4 wi];rfl
  refine .do_ (λhz=>?_) (λy r=>?_) (by rw[A0];exact h3) ?_ ?_ (ih f λm g=>l m (B3 _ g))
  ·obtain⟨x,d,ex⟩:=D2.mp hz;have j:=n x d;rw[qR7 up j.1 j.2 c.1 c.2 ex] at d;exact h1 d
  ·have p:=qY2 N (A9 u) r;obtain⟨i,hi⟩:=E5 p;have q:(i:Int)∈nd (qBR Ae ws) w:=by
    unfold nd;rw[qGX u];exact(qCQ N.1.nodup).mpr ⟨by lia,y,by rw[E4];exact hi,r⟩
   exact D2.mpr ⟨(i:Int),h2 _ q,qR8 hi⟩
  ·have:=h4.map (renW ws);rw[B1] at this;exact this
  ·rw[J4];exact h5.imp_of_mem λ{a b} ha hb o=>qJK up (f a ha).1 o (f b hb).2
 |@clear s t w k h1 h2 ih=>
  intro n l;have c:=(l (D4 "clear",w) (by simp)).2
  dsimp only at c;rw[v] at c;refine .clear (D2.mpr ⟨w,h1,rfl⟩) ?_;have e:(s.map (renW ws)).filter (λx=>decide (x≠renW ws w))=(s.filter λx=>decide (x≠w)).map (renW ws):=by
   rw[List.filter_map];congr 1;refine A15 λx d=>?_;have j:=n x d;refine decide_eq_decide.mpr ⟨λh z=>h (by rw[z]),λh z=>h (qR7 up j.1 j.2 c.1 c.2 z)⟩
  rw[e];exact ih (λx d=>n x (D6.mp d).1) λm g=>l m (B3 _ g)
noncomputable def qB1 (ws Ad:List Int):List Int:=Ad.filterMap (qCE ws)
theorem qFO (N:qAM Ae Ad ws)(c:Rise (Ae.length:Int) Ad):Rise ((qBR Ae ws).length:Int) (qB1 ws Ad):=by
 refine⟨qL0 N.1.up c.up,λx b=>?_⟩;obtain⟨d,y,a,_⟩:=(qCQ N.1.nodup).mp b;have:=(A3.mp a).1;rw[qBL]
 lia
theorem qJ8 (N:qAM Ae Ad ws)(e:Rise (Ae.length:Int) Ad):qTO ws Ad=mskN (qB1 ws Ad):=by
 unfold qTO;congr 1;refine qIL ((qF7 0 ws.length).filter _) (qL0 N.1.up e.up) λx=>?_;rw[D6,show x∈qB1 ws Ad↔_ from qCQ N.1.nodup,mem_rangeI,decide_eq_true_eq]
 constructor
 ·rintro⟨⟨b,f⟩,a⟩;have d:x.toNat<ws.length:=by lia
  rw[A4 d] at a ⊢;exact⟨b,_,rfl,a⟩
 ·rintro⟨b,y,c,a⟩;have d:=(A3.mp c).1;rw[c];exact⟨⟨b,by lia⟩,a⟩
theorem qQ6 (N:qAM Ae Ad ws)(a:Rise (Ae.length:Int) Ad){k:Nat}(h:LB (qBR Ae ws) Aa (qB1 ws Ad) (some k)):DoneIn Ae ws Ad Aa:=by
 obtain⟨⟨b,R,e⟩,_⟩:=h;exact⟨k,b,R,by rw[qJ8 N a];exact e⟩
theorem qZE (N:qAM Ae Ad ws)(a:Rise (Ae.length:Int) Ad)(h:LB (qBR Ae ws) Aa (qB1 ws Ad) none):¬DoneIn Ae ws Ad Aa:=by
 rintro⟨m,b,R,e⟩;rw[qJ8 N a] at e;exact h m b R e
end
def qM6:Sp:=λvs H Q _=>∃(t u:Addr) (ws Ad:List Int),vs=[.ref t,.ref u]/\BareT H t (ws.map V.int)/\H u=some (.tup (Ad.map V.int))/\ws.Nodup/\Ad.length<=1000/\ws.length<=1000/\(∀x∈Ad,x∈ws)/\
 ∀r H',Same H H'->H' r=some (.tup ((qB1 ws Ad).map V.int))->Q (.ref r) H'
def qM5:Sp:=λvs H Q _=>∃(a t:Addr) (Ae:List (List Int)) (ws:List Int),vs=[.ref a,.ref t]/\NetAt H a Ae/\WFn Ae/\Ae.length<=1000/\Rd H t (.tup (ws.map V.int))/\Rise (Ae.length:Int) ws/\
 ∀b H',Same H H'->NetAt H' b (qBR Ae ws)->Q (.ref b) H'
theorem LeastR.le {Ae:List (List Int)}{Ad a:List Int}{r:Int}(g:WFn Ae)(N:qAM Ae Ad a)(c:Rise (Ae.length:Int) Ad)(f:1<=Ad.length)(h:LeastR Ae a Ad r):r<=(a.length:Int):=by
 apply G4;intro z;have b:=qCD g N.1;have d:=qFO N c;obtain⟨j,i⟩:=qOF b d;have e:=qb5 b d i;rw[qBL] at e;have k:1<=a.length:=by
  cases Ad with
  |nil=>simp at f
  |cons x Ad=>exact W9 ((N.2 x).mpr (.ask (by simp)))
 exact h.2.2 _ (by lia) (by lia) (qQ6 N c e)
theorem sqo {b:Bool}{K:PySem.W.Frag}{H:Hp}{a:Addr}{xs:List V}(h:Rd H a (seqO b xs)):SqO b K H a xs:=by
 cases b with
 |true=>exact .inl h
 |false=>exact .inl h
theorem Rd.same {H H':Hp}{a:Addr}{o:HO}(h:Rd H a o)(s:Same H H'):Rd H' a o:=h.elim (λe=>.inl (s _ _ e)) λ⟨q,e⟩=>.inr ⟨q,s _ _ e⟩
structure Nev (Ae:List (List Int))(Aa:Int)(want:List Int)(ss:List (List Int)):Prop where
 rise:∀s∈ss,Rise (Ae.length:Int) s
 few:∀s∈ss,(s.length:Int)<=Aa
 nil:[]∈ss
 shut:∀s∈ss,∀m∈qD4 Ae s Aa,behL s m∈ss
 no:∀s∈ss,¬ ∀x∈want,x∈s
structure NevP (Ae:List (List Int))(Aa:Int)(ss:List (List Int)):Prop where
 nd:ss.Nodup
 mem:∀s,s∈ss↔∃u,Pt Ae Aa u s
 so:ss.Pairwise λa b=>HT.lexLt b a=false
theorem Pt.few {Ae:List (List Int)}{Aa:Int}(a:0<=Aa){u:Nat}{s:List Int}(h:Pt Ae Aa u s):(s.length:Int)<=Aa:=by
 induction h with
 |zero=>exact a
 |@step t st m p hm ih=>
  rcases qKN p.rise hm with⟨e,l⟩|⟨_,l⟩
  ·have:=((due_iff.mp hm).2.1 e).2.2
   lia
  ·lia
theorem NevP.nev {Ae:List (List Int)}{Aa:Int}{a:List Int}{c:List (List Int)}(f:0<=Aa)(h:NevP Ae Aa c)(e:∀s∈c,¬ ∀x∈a,x∈s):Nev Ae Aa a c:=by
 refine⟨λs b=>?_,λs b=>?_,(h.mem _).mpr ⟨0,.zero⟩,λs b m d=>?_,e⟩
 ·obtain⟨u,p⟩:=(h.mem s).mp b;exact p.rise
 ·obtain⟨u,p⟩:=(h.mem s).mp b;exact p.few f
 ·obtain⟨u,p⟩:=(h.mem s).mp b;exact(h.mem _).mpr ⟨u+1,.step p d⟩
theorem Rch.nevP {Ae:List (List Int)}{Aa:Int}{ks c:List (List Int)}{f:List Int->Nat}(h:Rch Ae Aa ks f)(d:c.Perm ks)(g:c.Pairwise λa b=>HT.lexLt b a=false):NevP Ae Aa c:=
 ⟨d.nodup_iff.mpr h.nd,λs=>d.mem_iff.trans ⟨λe=>let⟨u,m,_⟩:=h.snd s e;⟨u,m.1⟩,λ⟨u,p⟩=>h.all u s p⟩,g⟩
theorem Ent.keys1 {H:Hp}{f:List Int->Nat}:∀{Af:List (List Key×V)} {ks:List (List Int)},Ent H Af ks f->Af.map (·.1)=ks.map λt=>t.map (G0:Int->Key)
 |[],[],.nil=>rfl
 |_::_,_::_,.cons a b=>by rw[C7,C7,Ent.keys1 b,a.1];rfl
def qTY:Sp:=λvs H Q _=>∃(b:Bool) (a t:Addr) (st Ad:List Int),vs=[.ref a,.ref t]/\H a=some (.tup (st.map V.int))/\Rd H t (seqO b (Ad.map V.int))/\Ad.length<=1000/\∀H',Same H H'->Q (.bl (decide (∀x∈Ad,x∈st))) H'
def qJE:Sp:=λvs H Q _=>∃(a:Addr) (zs:List Int) (k:Int),vs=[.ref a,.int k]/\Rd H a (.tup (zs.map V.int))/\Rise k zs/\zs.length<=1000/\∀H',Same H H'->Q (.bl true) H'
def qNT:Sp:=λvs H Q _=>∃(a:Addr) (x y:V),vs=[.ref a]/\H a=some (.tup [x,y])/\Q (.bl true) H
def qNS:Sp:=λvs H Q _=>∃(a t:Addr) (Ae:List (List Int)) (Aa:Int) (zs:List Int),vs=[.ref a,.int Aa,.ref t]/\NetAt H a Ae/\Ae.length<=12/\H t=some (.tup (zs.map V.int))/\Rise (Ae.length:Int) zs/\(zs.length:Int)<=Aa/\∀H',Same H H'->Q (.bl true) H'
def qR1:Sp:=λvs H Q _=>∃(a l:Addr) (Ae:List (List Int)) (Aa:Int) (want:List Int) (rs:List Addr) (ss:List (List Int)),vs=[.ref a,.int Aa,.ref l]/\NetAt H a Ae/\WFn Ae/\Ae.length<=12/\H l=some (.lst (rs.map V.ref))/\StL H rs ss/\ss.length<=5000/\Nev Ae Aa want ss/\∀H',Same H H'->Q (.bl true) H'
def qNR:Sp:=λvs H Q _=>∃(a lw l:Addr) (Ae:List (List Int)) (Aa:Int) (want:List Int) (rs:List Addr) (ss:List (List Int)),vs=[.ref a,.ref lw,.int Aa,.ref l]/\NetAt H a Ae/\WFn Ae/\Ae.length<=12/\H lw=some (.lst (want.map V.int))/\want.length<=1000/\H l=some (.lst (rs.map V.ref))/\StL H rs ss/\ss.length<=5000/\Nev Ae Aa want ss/\∀H',Same H H'->Q (.bl true) H'
structure PapN (H:Hp)(T tw l:Addr)(ws:List Int)(rs:List Addr)(ss:List (List Int)):Prop where
 tup:H T=some (.tup [.ref tw,.ref l])
 works:BareT H tw (ws.map V.int)
 lst:H l=some (.lst (rs.map V.ref))
 at_:StL H rs ss
def qQV:Sp:=λvs H Q _=>∃(a t T tw l:Addr) (Ae:List (List Int)) (Ad ws:List Int) (Aa:Int) (rs:List Addr) (ss:List (List Int)),vs=[.ref a,.ref t,.int Aa,.ref T]/\NetAt H a Ae/\WFn Ae/\Ae.length<=12/\qI4 H t Ae Ad/\PapN H T tw l ws rs ss/\Rise (Ae.length:Int) ws/\qB1 ws Ad≠[]/\ss.length<=5000/\Nev (qBR Ae ws) Aa (qB1 ws Ad) ss/\∀H',Same H H'->Q (.bl true) H'
def qM7 (Pt:Addr):Sp:=λvs H Q _=>∃(a t:Addr) (Ae:List (List Int)) (Ad ws:List Int) (Aa:Int),vs=[.ref a,.ref t,.int Aa]/\TabB H Pt/\NetAt H a Ae/\WFn Ae/\Ae.length<=12/\qI4 H t Ae Ad/\1<=Ad.length/\qAM Ae Ad ws/\
 (DoneIn Ae ws Ad Aa->∀H',Same H H'->Q .non H')/\(¬DoneIn Ae ws Ad Aa->∀T tw l rs ss H',Same H H'->H T=none->H l=none->PapN H' T tw l ws rs ss->NevP (qBR Ae ws) Aa ss->(∀s∈ss,¬ ∀x∈qB1 ws Ad,x∈s)->ss.length<=4096->Q (.ref T) H')
theorem DoneIn.mono {Ae:List (List Int)}{a Ad:List Int}{r c:Int}(h:DoneIn Ae a Ad r)(l:r<=c):DoneIn Ae a Ad c:=by
 obtain⟨m,b,R,e⟩:=h;exact⟨m,b,R.mono l,e⟩
open PySem PySem.Spec L2
theorem NetAt.put' {H:Hp}{a d:Addr}{Ae:List (List Int)}{o u:HO}(h:NetAt H a Ae)(b:H d=some o)(f:∀xs,o≠.tup xs):NetAt (Ag H d u) a Ae:=by
 have k:∀(r:Addr) (xs:List V),H r=some (.tup xs)->(Ag H d u) r=some (.tup xs):=λr xs g=>by
  rw[qA9 (qCP g b λz=>f _ z.symm)];exact g
 obtain⟨c,i,j⟩:=h;exact⟨c,k _ _ i,j.same λr l e=>k _ _ e⟩
theorem qJO (m j:Nat):(2^m-1).testBit j=decide (j<m):=Nat.testBit_two_pow_sub_one m j
theorem qZT {Ae:List (List Int)}(wf:WFn Ae):∀m,m<=Ae.length->Rm Ae (Ae.length:Int) m (2^m-1)
 |0,_=>.zero
 |m+1,h=>by
  have ih:=qZT wf m (by lia)
  have hz:=A4 (show m<Ae.length by lia)
  have rz:=wf m _ hz;have e:2^(m+1)-1=(2^m-1) ||| 2^m:=R8 λj=>by
   rw[k9,qJO,qJO,U0];by_cases c:j<m
   ·rw[decide_eq_true c,decide_eq_true (by lia:j<m+1),Bool.true_or]
   ·by_cases d:m=j
    ·rw[decide_eq_true d,decide_eq_true (by lia:j<m+1),Bool.or_true]
    ·rw[decide_eq_false c,decide_eq_false d,decide_eq_false (by lia:¬j<m+1)];rfl
  rw[e];refine .do_ ih ⟨?_,by lia,?_⟩
  ·have lt:cntN Ae.length (2^m-1)<=m:=by
    unfold cntN;rw[T9 (g:=λk=>if(decide (k<m))=true then 1 else 0) λk _=>by rw[qNF,qJO],qJD]
    have nd:((F2 Ae.length).filter λk=>decide (k<m)).Nodup:=m9.filter _;exact qEH nd λb hb=>of_decide_eq_true (D6.mp hb).2
   lia
  ·unfold nxt;rw[hz];refine R8 λj=>?_;rw[c5,qJO];show(decide (j<m)&&(mskN Ae[m]).testBit j)=(mskN Ae[m]).testBit j;rw[qMP rz.up (λx hx=>(rz.in_ x hx).1)];by_cases c:(j:Int)∈Ae[m]
   ·have:=(rz.in_ _ c).2;rw[decide_eq_true (by lia:j<m),o5]
   ·rw[decide_eq_false c,k8]
theorem qVX {Ae:List (List Int)}{a Ad:List Int}(d:WFn Ae)(N:qAM Ae Ad a):DoneIn Ae a Ad (a.length:Int):=by
 have e:WFn (qBR Ae a):=qCD d N.1;have R:=qZT e _ (A7 _);rw[qBL] at R;refine⟨_,_,R,R8 λj=>?_⟩;rw[c5,qJO];unfold qTO;rw[qMP ((qF7 _ _).filter _) (λx b=>(mem_rangeI.mp (D6.mp b).1).1)];by_cases c:(j:Int)∈(qBX 0 a.length).filter λp=>decide ((a[p.toNat]?).getD 0∈Ad)
 ·have:=mem_rangeI.mp (D6.mp c).1;rw[decide_eq_true (by lia:j<a.length),o5]
 ·rw[decide_eq_false c,k8]
def PrvH (Ae:List (List Int))(Aa:Int)(ks:List (List Int))(f:List Int->Nat)(g:List Int->Prv):Prop:=Prov Ae Aa ks f g/\∃l,ks=[]::l
theorem PrvH.start {Ae:List (List Int)}{Aa:Int}:PrvH Ae Aa [[]] (λ_=>0) (λ_=>none):=⟨λs a=>.inl ⟨A6.mp a,rfl,rfl⟩,[],rfl⟩
theorem PrvH.snoc {Ae:List (List Int)} {Aa:Int} {ks:List (List Int)} {f:List Int->Nat} {g:List Int->Prv} {s:List Int} {m:Mv} {z:Nat} (hs:s∈ks) (i:m∈qD4 Ae s Aa) (c:behL s m∉ks) (j:z=if m.1=D4 "do" then 1 else 0) (h:PrvH Ae Aa ks f g):PrvH Ae Aa (ks++[behL s m]) (qIS f (behL s m) (f s+z)) (gset g (behL s m) (some (s,m))):=by
 obtain⟨h,l,o⟩:=h;refine⟨λx d=>?_,l++[behL s m],by rw[o];rfl⟩
 have n:∀y∈ks,gset g (behL s m) (some (s,m)) y=g y:=λy b=>if_neg λe=>c (by rw[<- e];exact b)
 rcases A8.mp d with k|k
 ·rw[qJ4 k c,n x k];rcases h x k with a|⟨p,mm,a1,a2,a3,a4,a5⟩
  ·exact .inl a
  ·exact .inr ⟨p,mm,a1,A8.mpr (.inl a2),a3,a4,by rw[qJ4 a2 c];exact a5⟩
 ·rw[A6.mp k];refine .inr ⟨s,m,if_pos rfl,A8.mpr (.inl hs),i,rfl,?_⟩;rw[qLK,qJ4 hs c,j]
def qM4:Sp:=λvs H Q _=>∃(a:Addr) (Ae:List (List Int)) (Aa:Int),vs=[.ref a,.int Aa]/\NetAt H a Ae/\WFn Ae/\Ae.length<=12/\
 ∀d o Af ks f g H',Same H H'->H d=none->H' d=some (.frz o (.dT Af))->EntX H' Af ks f g->Rch Ae Aa ks f->PrvH Ae Aa ks f g->Q (.ref d) H'
def qTV:Sp:=λvs H Q _=>∃(d t:Addr) (o:Obj) (Af:List (List Key×V)) (Ae:List (List Int)) (Aa:Int) (ks:List (List Int)) (f:List Int->Nat) (g:List Int->Prv) (s:List Int),vs=[.ref d,.ref t]/\H d=some (.frz o (.dT Af))/\EntX H Af ks f g/\WFn Ae/\Rch Ae Aa ks f/\PrvH Ae Aa ks f g/\ks.length<=4096/\H t=some (.tup (s.map V.int))/\s∈ks/\
 ∀l H',Same H H'->H l=none->PlanAt H' l (pth f g s)->Q (.ref l) H'
def FewP (Ae:List (List Int))(Ad:List Int)(r:Int)(ms:List Mv):Prop:=∃ws ks f g s,qAM Ae Ad ws/\LeastR Ae ws Ad r/\Rch (qBR Ae ws) r ks f/\Prov (qBR Ae ws) r ks f g/\(s∈ks/\∀x∈qB1 ws Ad,x∈s)/\ms=renM ws (pth f g s)
def qZ5 (Pt:Addr):Sp:=λvs H Q _=>∃(a t:Addr) (Ae:List (List Int)) (Ad:List Int),vs=[.ref a,.ref t]/\TabB H Pt/\NetAt H a Ae/\WFn Ae/\Ae.length<=12/\qI4 H t Ae Ad/\1<=Ad.length/\
 ∀T l r ms H',Same H H'->FewP Ae Ad r ms->H l=none->PlanAt H' l ms->H' T=some (.tup [.int r,.ref l])->Q (.ref T) H'
theorem FewP.lr {Ae:List (List Int)}{Ad a:List Int}{r:Int}{d:List Mv}(h:FewP Ae Ad r d)(N:qAM Ae Ad a):LeastR Ae a Ad r:=by
 obtain⟨b,i,f,g,s,c,e,_⟩:=h;rw[qLB N c];exact e
theorem FewP.run {Ae:List (List Int)}{Ad:List Int}(v:WFn Ae)(ra:Rise (Ae.length:Int) Ad)(y:Ae.length<=12){r:Int}{c:List Mv}(h:FewP Ae Ad r c):∃last,Run Ae r [] c last/\(∀x∈Ad,x∈last)/\MvOk Ae c/\c.length<=4096:=by
 obtain⟨a,ks,f,g,s,N,a2,n,FR,B,e⟩:=h;have t:=qCD v N.1;have u:=qBL Ae a;have lw:=N.1.len;obtain⟨R,_,p,ln⟩:=qPP t n FR B.1;have lk:=n.len;have pw:2^(qBR Ae a).length<=2^12:=L6 (by decide) (by lia)
 refine⟨s.map (renW a),?_,λx o=>?_,λm l=>?_,?_⟩
 ·rw[e];exact qXJ N R (λ_ z=>nomatch z) p
 ·have d:x∈a:=(N.2 x).mpr (.ask o);obtain⟨i,b⟩:=E5 d;exact D2.mpr ⟨(i:Int),B.2 _ (Q7.mpr ⟨x,o,qC1 N.1.nodup b⟩),qR8 b⟩
 ·rw[e] at l;obtain⟨j,k,w⟩:=D2.mp l;obtain⟨q,h2,h3⟩:=p j k;rw[u] at h3;have b:j.2.toNat<a.length:=by lia
  have d:renW a j.2∈a:=by unfold renW;rw[A4 b];exact W7 b
  rw[<- w];exact⟨q,N.1.in_ _ d⟩
 ·rw[e];unfold renM;rw[A0]
  lia
section
variable{Ae:List (List Int)}{Ad ws:List Int}{Aa:Int}
theorem qGE {st:List Int} {m:Mv} (a:m.1 = "do"\/m.1 = "clear") (x:Int):x∈behL st m↔(m.1 = "do"/\(x∈st\/x=m.2))\/(m.1 = "clear"/\x∈st/\x≠m.2):=by
 unfold behL;rcases a with e|e
 ·rw[if_pos (by rw[e]),mem_insL]
  exact⟨λh=>.inl ⟨e,h⟩,λh=>h.elim (·.2) λh=>absurd (e.symm.trans h.1) (by decide)⟩
 ·rw[if_neg (by rw[e];decide),D6,decide_eq_true_eq]
  exact⟨λh=>.inr ⟨e,h⟩,λh=>h.elim (λh=>absurd (e.symm.trans h.1) (by decide)) (·.2)⟩
theorem prj (N:qAM Ae Ad ws){t:Nat}{s:List Int}(h:Pt Ae Aa t s):∃u,Pt (qBR Ae ws) Aa u (qB1 ws s):=by
 have up:=N.1.up;have f:=N.1.nodup
 induction h with
 |zero=>exact⟨0,.zero⟩
 |@step t st m p hm ih=>
  obtain⟨u,P⟩:=ih;have w:=(Pt.step p hm).rise;obtain⟨⟨k,h0,h1⟩,r,hc⟩:=due_iff.mp hm;by_cases c:m.2∈ws
  ·obtain⟨i,n⟩:=E5 c;have li:=(A3.mp n).1;have o:∀{z:List Int},(i:Int)∈qB1 ws z↔m.2∈z:=λ{z}=>(qCQ f).trans ⟨λ⟨_,y,e,g⟩=>by rw[E4,n] at e;cases e;exact g,λh=>⟨by lia,m.2,by rw[E4];exact n,h⟩⟩
   have q:(m.1,(i:Int))∈qD4 (qBR Ae ws) (qB1 ws st) Aa:=due_iff.mpr ⟨⟨k,by show(0:Int)<=(i:Int);lia,by rw[qBL];show(i:Int)<_;lia⟩,λe=>⟨λz=>(r e).1 (o.mp z),λy g=>?_,?_⟩,λe=>o.mpr (hc e)⟩
   ·have v:qB1 ws (behL st m)=behL (qB1 ws st) (m.1,(i:Int)):=qIL (qL0 up w.up) (Pt.step P q).rise.up λx=>by
     rw[qGE (m:=(m.1,(i:Int))) k,show x∈qB1 ws (behL st m)↔_ from qCQ f,show x∈qB1 ws st↔_ from qCQ f]
     constructor
     ·rintro⟨j,y,e,g⟩;rcases(qGE k y).mp g with⟨a,b|b⟩|⟨a,b,d⟩
      ·exact .inl ⟨a,.inl ⟨j,y,e,b⟩⟩
      ·refine .inl ⟨a,.inr ?_⟩;subst b;have:=qC1 f n;rw[qC1 f e] at this;show x=(i:Int);have:=D5 this
       lia
      ·refine .inr ⟨a,⟨j,y,e,b⟩,λz=>d ?_⟩;have z:x=(i:Int):=z;rw[z,E4,n] at e;exact(D5 e).symm
     ·rintro(⟨a,⟨j,y,e,g⟩|b⟩|⟨a,⟨j,y,e,g⟩,d⟩)
      ·exact⟨j,y,e,(qGE k y).mpr (.inl ⟨a,.inl g⟩)⟩
      ·have b:x=(i:Int):=b;exact⟨by lia,m.2,by rw[b,E4];exact n,(qGE k _).mpr (.inl ⟨a,.inr rfl⟩)⟩
      ·refine⟨j,y,e,(qGE k y).mpr (.inr ⟨a,g,λz=>d ?_⟩)⟩;subst z;have:=qC1 f n;rw[qC1 f e] at this;show x=(i:Int);have:=D5 this
       lia
    exact⟨u+1,by rw[v];exact .step P q⟩
   ·unfold nd at g;rw[E4,qGX n,Z1] at g;obtain⟨y0,z,ez,hz⟩:=(qCQ f).mp g;exact(qCQ f).mpr ⟨y0,z,ez,(r e).2.1 z hz⟩
   ·have:=(r e).2.2;have l:(qB1 ws st).length<=st.length:=G7 _ _
    lia
  ·have v:qB1 ws (behL st m)=qB1 ws st:=qIL (qL0 up w.up) (qL0 up p.rise.up) λx=>by
    rw[show x∈qB1 ws (behL st m)↔_ from qCQ f,show x∈qB1 ws st↔_ from qCQ f];have ne:∀{y:Int},ws[x.toNat]?=some y->y≠m.2:=λe z=>c (by rw[<- z];exact A9 e)
    constructor
    ·rintro⟨j,y,e,g⟩;rcases(qGE k y).mp g with⟨a,b|b⟩|⟨a,b,d⟩
     ·exact⟨j,y,e,b⟩
     ·exact absurd b (ne e)
     ·exact⟨j,y,e,b⟩
    ·rintro⟨j,y,e,g⟩;refine⟨j,y,e,(qGE k y).mpr ?_⟩;rcases k with a|a
     ·exact .inl ⟨a,.inl g⟩
     ·exact .inr ⟨a,g,ne e⟩
   exact⟨u,by rw[v];exact P⟩
theorem qb4 (c:WFn Ae)(N:qAM Ae Ad ws)(a:Rise (Ae.length:Int) Ad)(h:¬DoneIn Ae ws Ad Aa):LB Ae Aa Ad none:=by
 intro m b R e;obtain⟨n,t,rfl,P,_⟩:=R.path c;have g:=(qEZ P.rise a).mp e;obtain⟨u,Q⟩:=prj N P;obtain⟨l,_,k⟩:=Q.bits (qCD c N.1);refine h ⟨l,_,k,?_⟩;rw[qJ8 N a];refine(qEZ Q.rise (qFO N a)).mpr λy d=>?_;obtain⟨i,z,j,f⟩:=(qCQ N.1.nodup).mp d;exact(qCQ N.1.nodup).mpr ⟨i,z,j,g z f⟩
theorem qcA (g:WFn Ae)(f:Rise (Ae.length:Int) Ad){b:List Mv}{a:List Int}(R:Run Ae Aa [] b a)(d:MvOk Ae b)(c:∀x∈Ad,x∈a):∃k,LB Ae Aa Ad (some k):=by
 obtain⟨o,h⟩:=qcY Ae Aa Ad;cases o with
 |some k=>exact⟨k,h⟩
 |none=>
  have P:=qZ6 R (λm e=>(d m e).2) .zero;obtain⟨j,_,i⟩:=P.bits g;exact absurd ((qEZ P.rise f).mpr c) (h j _ i)
end
theorem qQC {zs:List Int}{g:Int->Option Int}{j:Nat}{z:Int}(h:zs[j]?=some z):(zs.take (j+1)).filterMap g=(zs.take j).filterMap g++(g z).toList:=by
 rw[C8,h,C9,U9];cases e:g z<;>simp[e]
theorem qMJ {a:List Int}{x:Int}(h:x∉a):qCE a x=none:=by unfold qCE;rw[if_neg h]
theorem qMU {a:List Int}(b:a.Nodup){y:Int}{j:Nat}(c:a[j]?=some y):∀k,k<j->a[k]?≠some y:=λk g e=>by
 obtain⟨d,f⟩:=A3.mp e;obtain⟨h,i⟩:=A3.mp c;exact absurd (f.trans i.symm) (F8.mp b k j d h g)
theorem qbL {st:List Int}{n:Int}(r:Rise n st)(h:n<=10):((qBX 0 10).filter λk=>decide ((mskN st/2^k.toNat%2:Nat)=1))=st:=
 qIL ((qF7 _ _).filter _) r.up λx=>by
  rw[D6,mem_rangeI,decide_eq_true_eq,qNF,qB4 r]
  constructor
  ·rintro⟨⟨b,_⟩,e⟩;by_cases c:((x.toNat:Nat):Int)∈st
   ·rwa[show((x.toNat:Nat):Int)=x by lia] at c
   ·rw[decide_eq_false c] at e;cases e
  ·intro a;have:=r.in_ x a;refine⟨by lia,?_⟩
   rw[show((x.toNat:Nat):Int)=x by lia,decide_eq_true a]
   rfl
theorem qJM {k:List Key}:∀(ps:List (List Key×Addr×V)) (Af:List (List Key×V)),(valV (qBB Af ps) k).isSome=true↔(valV Af k).isSome=true\/k∈ps.map (·.1)
 |[],Af=>by simp[qBB]
 |q::ps,Af=>by
  show(valV (qBB (putK Af q.1 q.2.2) ps) k).isSome=true↔_;rw[qJM ps,qIU,C7,B6];by_cases e:k=q.1
  ·rw[if_pos e];simp[e]
  ·rw[if_neg e];simp[e]
theorem qRB:∀(ps:List (List Key×Addr×V)) (Af:List (List Key×V)) (kv:List Key×V),kv∈qBB Af ps->kv.1∈Af.map (·.1)\/kv.1∈ps.map (·.1)
 |[],Af,kv,h=>.inl (Q3 (f:=λx:List Key×V=>x.1) h)
 |q::ps,Af,kv,h=>by
  rcases qRB ps (putK Af q.1 q.2.2) kv h with h|h
  ·obtain⟨x,hx,e⟩:=D2.mp h;unfold putK at hx
   split at hx
   ·obtain⟨y,hy,rfl⟩:=D2.mp hx;refine .inl ?_;rw[<- e];refine D2.mpr ⟨y,hy,?_⟩
    split<;>rfl
   ·rcases A8.mp hx with h|h
    ·exact .inl (D2.mpr ⟨x,h,e⟩)
    ·rw[A6.mp h] at e;exact .inr (by rw[<- e];exact D8)
  ·exact .inr (B3 _ h)
theorem qXC {Ae:List (List Int)} {st ns:List Int} {Aa a:Int} {Ac:Str} (b:Ae[a.toNat]?=some ns) (c:Ac = "do"\/Ac = "clear") (d:0<=a) (f:a<(Ae.length:Int)) (h:qCH ns st Aa Ac a=.non):(Ac,a)∈qD4 Ae st Aa:=by
 unfold qD4;refine D6.mpr ⟨?_,decide_eq_true ?_⟩
 ·unfold qKX qIR;have e:((a.toNat:Nat):Int)=a:=by lia
  rcases c with z|z
  ·exact n4 _ (D2.mpr ⟨a.toNat,D9.mpr (by lia),by rw[e,z]⟩)
  ·exact G2 _ (D2.mpr ⟨a.toNat,D9.mpr (by lia),by rw[e,z]⟩)
 ·unfold wd;rw[b];exact h
theorem qR4 {n:Int}{z zs:List Int}(r:Rise n z)(a:zs.Perm (dedI z))(c:zs.Pairwise (·<=·)):zs=z:=by
 have b:zs.Nodup:=a.nodup_iff.mpr (qLR z);refine qIL ((A46.mpr ⟨c,b⟩).imp λh=>by have:=h.1;have:=h.2;lia) r.up λx=>?_
 rw[a.mem_iff,mem_dedI]
theorem twoR {a b:Addr}{i:Nat}{x:V}(h:[V.ref a,V.ref b][i]?=some x):x=.ref a\/x=.ref b:=by
 match i,h with
 |0,h=>cases h;exact .inl rfl
 |1,h=>cases h;exact .inr rfl
 |i+2,h=>simp at h
theorem qcI {k:Int}{i:Nat}(a:0<=k)(b:k<3)(hi:i<3):∃m:Int,atI [V.int (8+k),V.int 5,V.int 6] (0+(i:Int))=some (.int m)/\5<=m/\m<=10:=by
 rcases(by lia:i=0\/i=1\/i=2) with rfl|rfl|rfl
 ·exact⟨_,rfl,by lia,by lia⟩
 ·exact⟨_,rfl,by lia,by lia⟩
 ·exact⟨_,rfl,by lia,by lia⟩
theorem qcH {k m:Int}(b:0<=k)(c:k<8)(d:5<=m)(a:m<=10):∃n:Int,atI [V.int 2,V.int 3,V.int 4,V.int 5,V.int 6,V.int 7,V.int m,V.int 1] k=some (.int n)/\1<=n/\n<=10:=by
 rcases(by lia:k=0\/k=1\/k=2\/k=3\/k=4\/k=5\/k=6\/k=7) with rfl|rfl|rfl|rfl|rfl|rfl|rfl|rfl<;>exact⟨_,rfl,by lia,by lia⟩
theorem qQN (l:List Int)(lo hi:Option Int):∃l':List Int,cutV (l.map V.int) lo hi=l'.map V.int/\(∀x∈l',x∈l)/\l'.length<=l.length:=by
 unfold cutV;rw[<- B50,<- B51];exact⟨_,rfl,λx a=>R7 (O5 a),by rw[C5,M9];lia⟩
theorem qdR {a:TE}{σ:St}{H:Hp}{F:V->Hp->Prop}(P:V->Hp->Prop)(c:∀x H',P x H'->F x H')(b:∀F',(∀x H',P x H'->F' x H')->a σ H F'):a σ H F:=b F c
def qNQ:Sp:=λvs H Q _=>∃(st:List Int) (n:Int),vs=[.int ((mskN st:Nat):Int)]/\Rise n st/\n<=10/\∀r H',Same H H'->H' r=some (.tup (st.map V.int))->Q (.ref r) H'
def qTW:Sp:=λvs H Q _=>∃(a tw:Addr) (Ae:List (List Int)) (ws:List Int),vs=[.ref a,.ref tw]/\NetAt H a Ae/\WFn Ae/\Ae.length<=12/\BareT H tw (ws.map V.int)/\Rise (Ae.length:Int) ws/\∀b H',Same H H'->NetAt H' b (qBR Ae ws)->Q (.ref b) H'
def qTX:Sp:=λvs H Q _=>∃(a t tw l:Addr) (Ae:List (List Int)) (Ad ws:List Int) (Aa:Int) (rs:List Addr) (ss:List (List Int)),vs=[.ref a,.ref t,.int Aa,.ref tw,.ref l]/\NetAt H a Ae/\WFn Ae/\Ae.length<=12/\qI4 H t Ae Ad/\BareT H tw (ws.map V.int)/\H l=some (.lst (rs.map V.ref))/\StL H rs ss/\Rise (Ae.length:Int) ws/\qB1 ws Ad≠[]/\ss.length<=5000/\Nev (qBR Ae ws) Aa (qB1 ws Ad) ss/\∀H',Same H H'->Q (.bl true) H'
def qL5 (Pt:Addr):Sp:=λvs H Q _=>∃(a t:Addr) (Ae:List (List Int)) (Ad ws:List Int) (Aa:Int),vs=[.ref a,.ref t,.int Aa]/\TabB H Pt/\NetAt H a Ae/\WFn Ae/\Ae.length<=10/\qI4 H t Ae Ad/\1<=Ad.length/\qAM Ae Ad ws/\1<=Aa/\¬DoneIn Ae ws Ad Aa/\∀H',Same H H'->Q (.bl true) H'
section
variable{P:B66}{w:World}{K:PySem.W.Frag}{mg:Str->Option Value}{base:Heap}{f:Addr}{fd:B85}{qGK qEV qGJ qFH qEU qI0 qHC f_played qdM qQJ qMZ qHD qKG qI1 qG3 qCX Pt cc qDX qEE qCY qC9 qDG qKE qGI qHZ qET qHY qFI qKF qDQ qQH qDE qN1 qN2 qMY qES qN3 qW6 qN4 qMX qQI qN0 qE6:Addr}{qHB qKW qOS qMV qKV qQF qLO fd_played qYT qRZ qLP qTD qQG qKB qFF qHA qGH qFG qED qKC qTB qOR qQE qIE qQD qMW qTC qIT qYR qG9 qW3 qS0 qW1 qKU qW4 qb7 qW5 qW0 qYS qW2 qKD:B85}
theorem sc_Lbegin:FnScope ["_law_script","_law_cells"] ["_law_script"] (qAA qJ0):=qBK
theorem ok_Lbegin (F:Fun K "_law_begin" "_law_begin" qJ0 f fd) (qDI:mg "list" = none):FnOk P w K mg base CX0 1 f fd ["_law_script"] (qU4 K):=by
 refine F.okA sc_Lbegin λa0 A o s H vs Q E hr h=>?_;obtain⟨a,m,rfl,hS,y,q⟩:=h;have hu:=qG7 hr;have z:=hr.units0;refine⟨_,(qA4 (qAJ (i:=1) sc_Lbegin.nd rfl (E8 rfl) (qAD qDY rfl qDI qFM (qA0 (qFW qHL (pv 0) qHN (qHM qA7)) qA3))) (qA4 (qBF (qAN (qOC z) (pv 1) (qBW qA3) (qAY _)) (qA5 (qAJ (i:=1) sc_Lbegin.nd rfl (E8 rfl) (qBW (qA0 qA7 qA3)))) qAL) (qA5 (qAE (qUQ (qMI qBO (pv 1) (qMI qBO qA7 qUF)) rfl rfl (by simp) (by decide)))))),?_⟩
 try dsimp only[Cx.nox,Cx.wish,cxOf]
 refine⟨_,rfl,_,rfl,a,_,rfl,hS,λp hp=>?_⟩;rw[qN8];have hl:(cutI m none (some 63)).length<=63:=F5 (qYX _ _ _) y;refine⟨p,_,rfl,.inl (SqL.of qA1),λc v=>?_⟩;have s1:Same H (Ag (Ag H p (.lst ((cutI m none (some 63)).map V.int))) c (.lst ((cutI m none (some 63)).map V.int))):=(qA2 hp _).trans (qA2 v _);refine⟨_,rfl,(by show 0<=B64;decide),λe n=>?_⟩
 have l:c≠e:=qA6 qA1 n;refine⟨c,e,_,rfl,rfl,SqL.of (by rw[qA9 l];exact qA1),SqL.of qA1,_,rfl,?_⟩
 have j:=s1.trans (qA2 n (.lst []));cases hm:cutI m none (some 63) with
 |nil=>
  rw[hm] at j n;refine iteT ?_;refine⟨(by show 1<=B64;decide),λu k=>?_⟩
  have t:=j.trans (qA2 k (.lst [.int 7]));intro d g;refine⟨_,rfl,?_⟩;have s4:=t.trans (qA2 g (.dK []));refine⟨qA1,[(O2 (D4 "cells"),.ref u),(O2 (D4 "turn"),.int 0)],rfl,(by show 2<=15;decide),?_⟩
  have b:u≠d:=qA6 qA1 g;refine q d u [7] _ ⟨?_,?_,by decide,by decide,by decide⟩ ?_ ?_ ?_
  ·rw[qA1,qZD]
  ·rw[qA9 b,qA9 b];exact qA1
  ·rw[qJB];exact t.trans (qA2 g _)
  ·exact t.free g
  ·exact j.free k
 |cons x r=>
  rw[hm] at j n hl;refine iteF ?_;intro d g;refine⟨_,rfl,?_⟩;refine⟨qA1,[(O2 (D4 "cells"),.ref c),(O2 (D4 "turn"),.int 0)],rfl,(by show 2<=15;decide),?_⟩
  have gc:(Ag (Ag (Ag H p (.lst ((x::r).map V.int))) c (.lst ((x::r).map V.int))) e (.lst [])) c=some (.lst ((x::r).map V.int)):=by rw[qA9 l];exact qA1
  have b:c≠d:=qA6 gc g;refine q d c (x::r) _ ⟨?_,?_,by simp,hl,by decide⟩ ?_ ?_ ?_
  ·rw[qA1,qZD]
  ·rw[qA9 b,qA9 b];exact gc
  ·rw[qJB];exact j.trans (qA2 g _)
  ·exact j.free g
  ·rw[hm] at v;exact(qA2 hp _).free v
theorem sc_Ltake:FnScope ["_law_state","_law_many","_law_turn","_law_place","_law_cell","_law_digit","_law_mixed"] ["_law_state","_law_many"] (qAA qMB):=qBK
theorem ok_Ltake (F:Fun K "_law_take" "_law_take" qMB f fd) (qBE:mg "len" = none) (a1:mg "divmod" = none):FnOk P w K mg base CX0 1 f fd ["_law_state","_law_many"] qL4:=by
 refine F.okA sc_Ltake λa5 A a0 s H vs Q E hr h=>?_;obtain⟨d,c,t,g,m,rfl,S,ht,a3,a8,q⟩:=h;have v:=qG7 hr;refine⟨_,(qA4 (qAJ (i:=2) sc_Ltake.nd rfl (E8 rfl) (qAU qF2 (qDK v (pv 0) qBO (λ_ _=>rfl)) qA7)) (qA4 (qEN v (pv 0) qBO (pv 2) rfl) (qA4 (qAJ (i:=3) sc_Ltake.nd rfl (E8 rfl) (qAU qJV (pv 2) (qA8 qAC rfl qBE qBJ (qA0 (qDK v (pv 0) qBO (λ_ _=>rfl)) qA3)))) (qA4 (qAJ (i:=4) sc_Ltake.nd rfl (E8 rfl) (qB9 qCS (qDK v (pv 0) qBO (λ_ _=>rfl)) (pv 3) (λ_ _=>rfl))) (qA4 (qBF (qAN qY0 (pv 4) (qAU qcR qA7 qA7) (qAY _)) (qA4 (qRD (qA8 qQQ rfl a1 qWS (qA0 (pv 4) (qA0 (pv 1) qA3))) (qL9 rfl (qBV (qcL (qDK v (pv 0) qBO (λ_ _=>rfl)) (pv 3) qXE) (qBV (qAR (i:=5) sc_Ltake.nd rfl (E8 rfl)) qGC)))) (qA5 (qAE (pv 5)))) qAL) (qA4 (qAJ (i:=6) sc_Ltake.nd rfl (E8 rfl) (qAU qJV (qAU qJU (qAU qF2 (qAU qF2 (qAU qJV (pv 4) qA7) (qAU qJU (qAU qJU (pv 2) (pv 2)) qA7)) qA7) qA7) qA7)) (qA4 (qAJ (i:=6) sc_Ltake.nd rfl (E8 rfl) (qAU qJV (qAU qJU (pv 6) (pv 6)) qA7)) (qA5 (qAE (qAU qJV (qAU qPV (qAU qJV (qAU qJU (qAU qF2 (pv 6) (qAU qJU (pv 2) qA7)) qA7) qA7) qA7) (pv 1))))))))))),?_⟩
 try dsimp only[Cx.nox,Cx.wish,cxOf]
 have a2:=S.pos;have a4:=S.ne;have a6:t<=1000000000:=ht;refine⟨_,rfl,d,_,rfl,qbB S,_,_,rfl,rfl,?_⟩;refine⟨_,rfl,_,rfl,d,_,rfl,qb9 S,?_⟩;have l:=S.turn (u:=t+1) (by lia)
 have k1:Keep d c H (Ag H d (.dK [(O2 (D4 "cells"),.ref c),(O2 (D4 "turn"),.int (t+1))])):=λb o e n _=>by rw[qA9 n];exact e
 generalize Ag H d (.dK [(O2 (D4 "cells"),.ref c),(O2 (D4 "turn"),.int (t+1))])=H1 at l k1;have k:(((g.map V.int).length:Nat):Int)=(g.length:Int):=by rw[A0]
 refine⟨_,rfl,_,rfl,d,_,rfl,qN6 l,c,_,rfl,.inl (SqL.of l.list),_,_,rfl,rfl,(by rw[k];lia),?_⟩
 have p0:0<=(t+1)%(((g.map V.int).length:Nat):Int):=X6 _ (by rw[k];lia)
 have p1:(t+1)%(((g.map V.int).length:Nat):Int)<(g.length:Int):=by
  have:=U8 (t+1) (b:=(((g.map V.int).length:Nat):Int)) (by rw[k];lia)
  rw[k] at this ⊢;exact this
 dsimp only;generalize (t+1)%(((g.map V.int).length:Nat):Int)=pl at p0 p1;obtain⟨j,rfl⟩:∃j:Nat,pl=(j:Int):=⟨pl.toNat,by lia⟩
 have hj:j<g.length:=by lia
 have r:atI (g.map V.int) (j:Int)=some (.int g[j]):=qWZ (by rw[B9,A4 hj];rfl)
 refine⟨_,rfl,d,_,rfl,qN6 l,_,rfl,c,_,_,_,rfl,rfl,SqL.of l.list,r,?_⟩;generalize hx:g[j]=x at r ⊢;refine⟨_,rfl,_,_,rfl,rfl,⟨by decide,by decide,by decide⟩,_,_,rfl,rfl,_,rfl,?_⟩
 refine ite2 (λ_=>?_) (λ_=>?_)
 ·-- a great cell
  refine⟨_,rfl,_,rfl,x,m,rfl,⟨by lia,by lia⟩,λp hp=>?_⟩
  have S2:=l.new hp (.tup [.int (x/m),.int (x%m)]);have a7:p≠c:=(qA6 l.list hp).symm;refine⟨p,_,rfl,SqT.of qA1,rfl,_,_,rfl,?_⟩;refine⟨_,rfl,d,_,rfl,qN6 S2,_,rfl,c,_,_,j,rfl,rfl,S2.list,qaW (by rw[A0];exact hj),?_⟩
  refine⟨_,_,rfl,rfl,?_⟩;refine⟨_,rfl,?_⟩;have e1:(g.map V.int).set j (.int (x/m))=(g.set j (x/m)).map V.int:=by rw[List.map_set]
  rw[e1];refine q (x%m) (g.set j (x/m)) _ (X6 _ (by lia)) (U8 _ (by lia)) (S2.put (by rw[B17])) ?_
  have k2:=k1.trans (qDW (d:=d) (c:=c) hp (.tup [.int (x/m),.int (x%m)]));exactλb o e n1 n2=>by rw[qA9 n2];exact k2 b o e n1 n2
 ·have b1:0<=x%2147483629:=X6 _ (by decide)
  have b2:x%2147483629<2147483629:=U8 _ (by decide)
  refine⟨_,rfl,_,_,rfl,rfl,(by show(0:Int)<2147483629;decide),_,rfl,_,rfl,_,_,rfl,rfl,.inl ⟨by lia,by lia⟩,_,_,rfl,rfl,.inr ⟨by decide,by decide⟩,_,_,rfl,rfl,_,_,rfl,rfl,_,_,rfl,rfl,.inr ⟨by decide,by decide⟩,_,_,rfl,rfl,(by show(0:Int)<2147483647;decide),?_⟩
  have c1:=X6 ((x%2147483629+(t+1)*(t+1)*7919+11)*48271) (b:=2147483647) (by decide)
  have c2:=U8 ((x%2147483629+(t+1)*(t+1)*7919+11)*48271) (b:=2147483647) (by decide)
  dsimp only;generalize ((x%2147483629+(t+1)*(t+1)*7919+11)*48271)%2147483647=y at c1 c2;refine⟨_,rfl,_,rfl,_,_,rfl,rfl,.inl ⟨by lia,by lia⟩,_,_,rfl,rfl,(by show(0:Int)<2147483587;decide),?_⟩
  dsimp only;generalize y*y%2147483587=z;refine⟨_,rfl,_,rfl,_,_,rfl,rfl,.inr ⟨by decide,by decide⟩,_,_,rfl,rfl,_,_,rfl,rfl,.inr ⟨by decide,by decide⟩,_,_,rfl,rfl,(by show(0:Int)<2147483629;decide),_,_,rfl,rfl,⟨by decide,by decide⟩,_,rfl,_,_,rfl,rfl,(by lia),?_⟩
  exact q _ g _ (X6 _ (by lia)) (U8 _ (by lia)) l k1
theorem sc_Lsome_needs:FnScope ["_law_state","_law_k","_law_found","_law_turn","_law_far"] ["_law_state","_law_k"] (qAA qDC):=qBK
theorem ok_Lsome_needs (F:Fun K "_law_some_needs" "_law_some_needs" qDC f fd) (qBU:Clb P w K mg base 1 qGK qHB "_law_take" ["_law_state","_law_many"] qL4)
  (qAZ:mg "range" = none) (qKR:mg "min" = none) (ai:mg "tuple" = none) (a9:mg "sorted" = none) (ac:mg "set" = none):FnOk P w K mg base CX0 2 f fd ["_law_state","_law_k"] qPG:=by
 refine F.okA sc_Lsome_needs λas A ab s H vs Q E hr h=>?_;obtain⟨d,c,t,ns,k,rfl,S,ht,au,ar,q⟩:=h;have ao:t<=1000000000-20:=ht;have an:Room 1 _:=hr;refine⟨_,(qA4 (qAJ (i:=2) sc_Lsome_needs.nd rfl (E8 rfl) (qBW qA3)) (qA4 (qBT D7 rfl (qB7 rfl qAZ (qA0 (qAT qBU hr rfl (qA0 (pv 0) (qA0 qA7 qA3))) qA3)) (qAR (i:=3) sc_Lsome_needs.nd rfl (E8 rfl)) (qA4 (qAJ (i:=4) sc_Lsome_needs.nd rfl (E8 rfl) (qB9 qCS (qBW (qA0 (qA8 (qKK rfl) rfl qKR qP2 (qA0 (pv 1) (qA0 qA7 qA3))) (qA0 (pv 1) qA3))) (qAU qPV (qAT qBU hr rfl (qA0 (pv 0) (qA0 qA7 qA3))) qA7) (λ_ _=>rfl))) (qA5 (qBF (qAN qXZ (pv 1) qA7 (qAY _)) (qA5 (qEM (qO6 J1 J6 J7 qCK (pv 2) (qA0 (qAU qEB (qAU qEB (pv 1) qA7) (qAT qBU hr rfl (qA0 (pv 0) (qA0 (pv 4) qA3)))) qA3)))) qAL)))) (qA5 (qAE (qAD qAH rfl ai qAP (qA0 (qA8 (qD5 rfl) rfl a9 qCL (qA0 (qAD (qKJ rfl) rfl ac qP1 (qA0 (pv 2) qA3)) qA3)) qA3)))))),?_⟩
 try dsimp only[Cx.nox,Cx.wish,cxOf]
 refine cut λN0 ag=>?_;refine⟨(by show 0<=B64;decide),λl g=>?_⟩
 have S1:=S.new g (.lst []);have nd:l≠d:=(qA6 S.dict g).symm;have nc:l≠c:=(qA6 S.list g).symm;refine ag _ _ (cut λN1 ak=>?_);refine⟨_,rfl,d,c,t,ns,5,rfl,S1,(by show t<=1000000000;lia),by decide,by decide,λj ah H1 j0 j5 S2 K2=>?_⟩
 refine ⟨j,rfl,by lia,by lia,qEC (lo:=0) (n:=j.toNat) (fun i σ Hc=>∃ (t':Int) (ms fs:List Int) (v1 v2:Option V),σ=[some (.ref d),some (.int k),some (.ref l),v1,v2]/\StAt Hc d c t' ms/\t<=t'/\t'<=t+1+2 * i/\Keep d c H Hc/\
  Hc l=some (.lst (fs.map V.int))/\fs.length<=i/\∀x∈fs,0<=x/\x<k)
  ⟨t+1,ah,[],none,none,rfl,S2,by lia,by lia,(qDW g _).trans K2,K2 _ _ qA1 nd nc,A7 _,λ_ z=>nomatch z⟩ ?_ ?_⟩
 ·refineλi σ Hc hi u=>opq λap a5=>?_;obtain⟨t',ms,fs,v1,v2,rfl,S3,a1,a2,K3,h3,l3,m3⟩:=u;refine a5 ?_;have aq:(i:Int)<5:=by lia
  -- far
  refine nmD λD1 d1 dr=>cut λM0 ae=>?_;refine⟨_,rfl,k,4,rfl,_,rfl,(by show 2<=B64;decide),λp m=>?_⟩
  have S4:=S3.new m (.lst [.int (if(4:Int)<k then 4 else k),.int k])
  have a8:p≠d:=(qA6 S3.dict m).symm;have aa:p≠c:=(qA6 S3.list m).symm;refine⟨_,rfl,d,c,t',ms,4,rfl,S4,(by show t'<=1000000000;lia),by decide,by decide,λk2 y H2 g0 g4 S5 K5=>?_⟩
  obtain⟨far,a3,ef⟩:=qeB (a:=if(4:Int)<k then 4 else k) (b:=k) g0 g4
  have al:far<=k:=by rcases ef with e|e<;>(subst e;first|lia|(split<;>lia))
  have a0:0<k->1<=far:=λhk=>by rcases ef with e|e<;>(subst e;first|lia|(split<;>lia))
  refine⟨_,_,rfl,rfl,⟨by decide,by decide⟩,p,_,_,_,rfl,rfl,SqL.of (K5 _ _ qA1 a8 aa),a3,?_⟩
  have K6:=K3.trans ((qDW (d:=d) (c:=c) m (.lst [.int (if(4:Int)<k then 4 else k),.int k])).trans K5)
  have h6:H2 l=some (.lst (fs.map V.int)):=K5 _ _ (by rw[qA9 (qA6 h3 m)];exact h3) nd nc
  refine ae _ _ ?_;refine⟨_,rfl,_,_,rfl,rfl,_,rfl,?_⟩;refine ite2 (λck=>?_) (λck=>?_)
  ·have hk:0<k:=of_decide_eq_true ck;refine⟨_,rfl,.inl ⟨rfl,_,SqL.of h6⟩,_,rfl,_,_,rfl,rfl,_,rfl,_,rfl,d,c,t'+1,y,far,rfl,S5,(by show t'+1<=1000000000;lia),a0 hk,by lia,λk3 a4 H3 c0 c1 S6 K7=>?_⟩
   have h7:=K7 _ _ h6 nd nc;refine⟨_,_,rfl,rfl,l,_,_,rfl,rfl,h7,qAG (by rw[A0];lia),?_⟩
   have S8:StAt (Ag H3 l (.lst (fs.map V.int++[.int (k-1-k3)]))) d c (t'+1+1) a4:=⟨by rw[qA9 (J8 nd)];exact S6.dict,by rw[qA9 (J8 nc)];exact S6.list,S6.ne,S6.len,S6.pos⟩
   have hH:H l=none:=g;refine d1 _ _ ⟨t'+1+1,a4,fs++[k-1-k3],_,_,rfl,S8,by lia,by lia,λb o e n1 n2=>?_,?_,?_,λx hx=>?_⟩
   ·rw[qA9 (qA6 e hH)];exact(K6.trans K7) b o e n1 n2
   ·rw[qA1,B1];rfl
   ·rw[B0,B8];lia
   ·rcases A8.mp hx with hx|hx
    ·exact m3 x hx
    ·rw[A6.mp hx];lia
  ·exact d1 _ _ ⟨t'+1,y,fs,_,_,rfl,S5,by lia,by lia,K6,h6,by lia,m3⟩
 ·refineλσ Hc v=>opq λam a6=>?_;obtain⟨t',ms,fs,v1,v2,rfl,S3,a1,a2,K3,h3,l3,m3⟩:=v;refine a6 ?_;refine ak _ _ ?_;refine⟨_,rfl,l,fs,rfl,SqL.of h3,by lia,λa ha=>?_⟩
  have aj:=qA2 ha (SetM w a (dedI fs));refine⟨a,dedI fs,rfl,qA1,λb zs hb m hs=>?_⟩;have af:=aj.trans (qA2 hb (.lst (zs.map V.int)));refine⟨b,_,rfl,.inl ⟨SqL.of qA1,λr ad=>?_⟩⟩;have a7:=af.trans (qA2 ad (.tup (zs.map V.int)));exact q r zs t' ms _ (S3.same a7) (by lia) (by lia) (K3.trans (.of_same a7)) qA1 (qMG m hs m3)
theorem sc_Ltree_net:FnScope ["_law_state","_law_many","_law_open_ones","_law_found","_law_k","_law_so_many"] ["_law_state","_law_many"] (qAA qEL):=qBK
theorem ok_Ltree_net (F:Fun K "_law_tree_net" "_law_tree_net" qEL f fd) (qBU:Clb P w K mg base 1 qGK qHB "_law_take" ["_law_state","_law_many"] qL4)
  (qAZ:mg "range" = none) (qKR:mg "min" = none) (a7:mg "tuple" = none) (qBE:mg "len" = none):FnOk P w K mg base CX0 2 f fd ["_law_state","_law_many"] qZ4:=by
 refine F.okA sc_Ltree_net λb4 A ap s H vs Q E hr h=>?_;obtain⟨d,c,t,ns,m,rfl,S,ht,ax,b2,q⟩:=h;have b0:t<=1000000000-1000:=ht;have ay:Room 1 _:=hr;refine⟨_,(qA4 (qAJ (i:=2) sc_Ltree_net.nd rfl (E8 rfl) (qBW qA3)) (qA4 (qAJ (i:=3) sc_Ltree_net.nd rfl (E8 rfl) (qBW qA3)) (qA4 (qBT D7 rfl (qB7 rfl qAZ (qA0 (qAU qEB (pv 1) qA7) qA3)) (qAR (i:=4) sc_Ltree_net.nd rfl (E8 rfl)) (qA4 (qAJ (i:=5) sc_Ltree_net.nd rfl (E8 rfl) (qA8 (qKK rfl) rfl qKR qP2 (qA0 (qA8 qAC rfl qBE qBJ (qA0 (pv 2) qA3)) (qA0 (qB9 qCS (qBW (qA0 qA7 (qA0 qA7 (qA0 qA7 (qA0 qA7 (qA0 qA7 (qA0 qA7 qA3))))))) (qAT qBU hr rfl (qA0 (pv 0) (qA0 qA7 qA3))) (λ_ _=>rfl)) qA3)))) (qA4 (qEM (qO6 J1 J6 J7 qCK (pv 3) (qA0 (qAD qAH rfl a7 qAP (qA0 (qFW qHL (pv 2) (qHM (qAU qEB (qA8 qAC rfl qBE qBJ (qA0 (pv 2) qA3)) (pv 5))) qHN) qA3)) qA3))) (qA5 (qAJ (i:=2) sc_Ltree_net.nd rfl (E8 rfl) (qAU qOD (qFW qHL (pv 2) qHN (qHM (qAU qEB (qA8 qAC rfl qBE qBJ (qA0 (pv 2) qA3)) (pv 5)))) (qBW (qA0 (pv 4) qA3)))))))) (qA5 (qAE (qAD qAH rfl a7 qAP (qA0 (qAU qOD (pv 3) (qBW (qA0 (qAD qAH rfl a7 qAP (qA0 (pv 2) qA3)) qA3))) qA3))))))),?_⟩
 try dsimp only[Cx.nox,Cx.wish,cxOf]
 refine cut λN0 au=>?_;refine⟨(by show 0<=B64;decide),λo0 a4=>?_⟩
 refine au _ _ (cut λN1 aw=>?_);have S1:=S.new a4 (.lst []);refine⟨(by show 0<=B64;decide),λj y=>?_⟩
 have S2:=S1.new y (.lst []);have nd:j ≠ d:=(qA6 S1.dict y).symm;have nc:j ≠ c:=(qA6 S1.list y).symm;have ac:o0 ≠ j:=qA6 qA1 y;have hF:H j=none:=(qA2 a4 _).free y;refine aw _ _ (cut fun N2 am=>?_);refine ⟨_,rfl,_,_,rfl,rfl,m - 1,rfl,by lia,by lia,qEC (lo:=0) (n:=(m - 1).toNat) (fun i σ Hc=>∃ (t':Int) (ms os:List Int) (o:Addr) (rs:List Addr) (Ae:List (List Int)) (v1 v2:Option V),σ=[some (.ref d),some (.int m),some (.ref o),some (.ref j),v1,v2]/\StAt Hc d c t' ms/\t<=t'/\t'<=t+i/\Keep d c H Hc/\
  Hc o=some (.lst (os.map V.int))/\(o≠j/\o≠c)/\Hc j=some (.lst (rs.map V.ref))/\NetL Hc rs Ae/\Ae.length=i/\WFn Ae/\Rise (i:Int) os)
  ⟨t,ns,[],o0,[],[],none,none,rfl,S2,by lia,by lia,(qDW a4 _).trans (qDW y _),by rw[qA9 ac];exact qA1,⟨ac,(qA6 S.list a4).symm⟩,qA1,.nil,rfl,WFn.nil,Rise.nil⟩ ?_ ?_⟩
 ·refineλi σ Hc hi af=>opq λaz ae=>?_;obtain⟨t',ms,os,o,rs,Ae,v1,v2,rfl,S3,a1,a2,K3,h3,⟨n3,ab⟩,f3,N3,l3,w3,r3⟩:=af;refine ae ?_;have b3:os.length<=i:=r3.len;refine nmD λD1 d1 dr=>cut λM0 aq=>?_;refine⟨_,rfl,o,_,rfl,.inl (SqL.of h3),(by show 6<=B64;decide),λp hp=>?_⟩
  have S4:=S3.new hp (.lst [.int 0,.int 0,.int 1,.int 2,.int 2,.int 3]);have ai:p≠d:=(qA6 S3.dict hp).symm;have an:p≠c:=(qA6 S3.list hp).symm;refine⟨_,rfl,d,c,t',ms,6,rfl,S4,(by show t'<=1000000000;lia),by decide,by decide,λk2 aa H2 g0 g6 S5 K5=>?_⟩
  obtain⟨v,hv,v0,v3⟩:=qeA g0 g6;refine⟨p,_,_,_,rfl,rfl,SqL.of (K5 _ _ qA1 ai an),hv,?_⟩;have sm:Same Hc (Ag Hc p (.lst [.int 0,.int 0,.int 1,.int 2,.int 2,.int 3])):=qA2 hp _;have K6:=(Keep.of_same (d:=d) (c:=c) sm).trans K5;have as:o≠d:=qCP h3 S3.dict (by intro z;cases z)
  have h6:H2 o=some (.lst (os.map V.int)):=K6 _ _ h3 as ab;have f6:H2 j=some (.lst (rs.map V.ref)):=K6 _ _ f3 nd nc;have N6:NetL H2 rs Ae:=N3.keep (λr zs e=>S3.tup e) K6;refine⟨_,_,rfl,?_⟩;dsimp only;have aj:0<=(if v<(((os.map V.int).length:Nat):Int) then v else(((os.map V.int).length:Nat):Int)):=by split<;>lia
  have ah:(if v<(((os.map V.int).length:Nat):Int) then v else(((os.map V.int).length:Nat):Int))<=(os.length:Int):=by rw[A0];split<;>lia
  generalize (if v<(((os.map V.int).length:Nat):Int) then v else(((os.map V.int).length:Nat):Int))=so at aj ah
  obtain⟨g,ek⟩:∃g:Nat,(os.length:Int)-so=(g:Int):=⟨((os.length:Int)-so).toNat,by lia⟩
  have a9:(((os.map V.int).length:Nat):Int)-so=(g:Int):=by rw[A0];exact ek
  have ar:g<=os.length:=by lia
  -- found.append(tuple(open_ones[len(open_ones)-so_many:]))
  refine aq _ _ (cut λM1 ag=>?_);refine⟨_,rfl,.inl ⟨rfl,_,SqL.of f6⟩,_,rfl,_,rfl,o,_,rfl,.inl (SqL.of h6),_,rfl,_,_,rfl,rfl,_,rfl,o,_,rfl,SqL.of h6,λp1 al=>?_⟩;refine⟨p1,_,rfl,.inl ⟨SqL.of qA1,λr a3=>?_⟩⟩;rw[a9,qN8,qWJ _ _ ar] at a3 ⊢;have x:=(qA2 al (.lst ((os.drop g).map V.int))).trans (qA2 a3 (.tup ((os.drop g).map V.int)));have f7:=x _ _ f6;have h7:=x _ _ h6;have N7:NetL _ (rs++[r]) (Ae++[os.drop g]):=qCW (N6.same λr zs e=>x _ _ e) (show(Ag (Ag H2 p1 (.lst ((os.drop g).map V.int))) r (.tup ((os.drop g).map V.int))) r=some (.tup ((os.drop g).map V.int)) from qA1);have S7:=S5.same x;have K7:=K6.trans (.of_same x);generalize (Ag (Ag H2 p1 (.lst ((os.drop g).map V.int))) r (.tup ((os.drop g).map V.int)))=H7 at f7 h7 N7 S7 K7 ⊢;refine⟨j,_,_,rfl,rfl,f7,qAG (by rw[A0,NetAt.len N3];lia),?_⟩
  have e8:rs.map V.ref++[V.ref r]=(rs++[r]).map V.ref:=by rw[B1];rfl
  rw[e8];have S8:StAt (Ag H7 j (.lst ((rs++[r]).map V.ref))) d c (t'+1) aa:=⟨by rw[qA9 (J8 nd)];exact S7.dict,by rw[qA9 (J8 nc)];exact S7.list,S7.ne,S7.len,S7.pos⟩
  have h8:(Ag H7 j (.lst ((rs++[r]).map V.ref))) o=some (.lst (os.map V.int)):=by rw[qA9 n3];exact h7
  have N8:NetL (Ag H7 j (.lst ((rs++[r]).map V.ref))) (rs++[r]) (Ae++[os.drop g]):=N7.same λr' zs e=>by rw[qA9 (qCP e f7 (by intro z;cases z))];exact e
  have K8:Keep d c H (Ag H7 j (.lst ((rs++[r]).map V.ref))):=λb u e n1 n2=>by rw[qA9 (qA6 e hF)];exact(K3.trans K7) b u e n1 n2
  have f8:(Ag H7 j (.lst ((rs++[r]).map V.ref))) j=some (.lst ((rs++[r]).map V.ref)):=qA1;generalize Ag H7 j (.lst ((rs++[r]).map V.ref))=H8 at S8 h8 N8 K8 f8 ⊢
  -- open_ones=open_ones[:len(open_ones)-so_many]+[k]
  refine ag _ _ ?_;refine⟨_,rfl,_,rfl,o,_,rfl,.inl (SqL.of h8),_,rfl,_,_,rfl,rfl,_,rfl,o,_,rfl,SqL.of h8,λp2 a0=>?_⟩;rw[a9,qN8,qbE];refine⟨_,rfl,(by show 1<=B64;decide),λp3 a5=>?_⟩
  have ak:p2≠p3:=qA6 qA1 a5;refine⟨p2,p3,_,_,rfl,rfl,by rw[qA9 ak];exact qA1,qA1,U5 (qAG (by rw[A0,C5,B8];lia)),λp4 a6=>?_⟩
  have l:=((qA2 a0 (.lst ((os.take g).map V.int))).trans (qA2 a5 (.lst [.int (0+(i:Int))]))).trans (qA2 a6 (.lst ((os.take g).map V.int++[.int (0+(i:Int))])));have e9:(os.take g).map V.int++[V.int (0+(i:Int))]=(os.take g++[(i:Int)]).map V.int:=by rw[B1,B02];rfl
  have ao:p4≠j:=(qA6 ((qA2 a5 _) _ _ ((qA2 a0 _) _ _ f8)) a6).symm;have av:p4≠c:=(qA6 ((qA2 a5 _) _ _ ((qA2 a0 _) _ _ S8.list)) a6).symm;refine d1 _ _ ⟨t'+1,aa,os.take g++[(i:Int)],p4,rs++[r],Ae++[os.drop g],_,_,rfl,S8.same l,by lia,by lia,K8.trans (.of_same l),by rw[<- e9];exact qA1,⟨ao,av⟩,l _ _ f8,N8.same λr' zs e=>l _ _ e,by rw[B0,B8,l3],w3.snoc ?_,?_⟩
  ·rw[l3];exact r3.sub (V8 _ _)
  ·have:=(r3.sub (V4 g os)).snoc (by lia)
   rw[show((i+1:Nat):Int)=(i:Int)+1 by lia]
   exact this
 ·refineλσ Hc ad=>opq λb1 a8=>?_;obtain⟨t',ms,os,o,rs,Ae,v1,v2,rfl,S3,a1,a2,K3,h3,⟨n3,ab⟩,f3,N3,l3,w3,r3⟩:=ad;refine a8 ?_;refine am _ _ ?_;refine⟨_,rfl,_,rfl,o,_,rfl,.inl ⟨SqL.of h3,λr a3=>?_⟩⟩;refine⟨(by show 1<=B64;decide),λp hp=>?_⟩
  have x:=(qA2 a3 (.tup (os.map V.int))).trans (qA2 hp (.lst [.ref r]));refine⟨j,p,_,_,rfl,rfl,x _ _ f3,qA1,U5 (qAG (by rw[A0,NetAt.len N3,B8];lia)),λp2 a0=>?_⟩
  refine⟨p2,_,rfl,.inl ⟨SqL.of qA1,λa ha=>?_⟩⟩;have l:=(x.trans (qA2 a0 (.lst (rs.map V.ref++[.ref r])))).trans (qA2 ha (.tup (rs.map V.ref++[.ref r])));have gr:=(qA2 ha (.tup (rs.map V.ref++[.ref r]))) _ _ ((qA2 a0 (.lst (rs.map V.ref++[.ref r]))) _ _ ((qA2 hp (.lst [.ref r])) r _ (qA1 (H:=Hc) (o:=.tup (os.map V.int)))));have e8:rs.map V.ref++[V.ref r]=(rs++[r]).map V.ref:=by rw[B1];rfl
  refine q a (Ae++[os]) t' ms _ (S3.same l) (by lia) (by lia) (K3.trans (.of_same l)) ⟨rs++[r],by rw[<- e8];exact qA1,qCW (N3.same λr' zs e=>l _ _ e) gr⟩ (w3.snoc (by rw[l3];exact r3)) ?_
  rw[B0,B8,l3]
  lia
theorem sc_Lnet:FnScope ["_law_state","_law_many","_law_way","_law_wide","_law_some","_law_half"] ["_law_state","_law_many"] (qAA qR5):=qBK
theorem ok_Lnet (F:Fun K "_law_net" "_law_net" qR5 f fd) (qBU:Clb P w K mg base 1 qGK qHB "_law_take" ["_law_state","_law_many"] qL4)
  (bi:Clb P w K mg base 2 qEV qKW "_law_some_needs" ["_law_state","_law_k"] qPG)
  (cl:Clb P w K mg base 2 qGJ qOS "_law_tree_net" ["_law_state","_law_many"] qZ4)
  (qAZ:mg "range" = none) (cg:mg "max" = none) (br:mg "int" = none) (c6:mg "enumerate" = none) (ab:mg "tuple" = none) (bz:mg "sorted" = none) (cc:mg "set" = none):FnOk P w K mg base CX0 3 f fd ["_law_state","_law_many"] qc5:=by
 refine F.okA sc_Lnet λda A c8 s H vs Q E hr h=>?_;obtain⟨d,c,t,ns,m,rfl,S,ht,bw,c7,q⟩:=h;have cy:t<=1000000000-10000:=ht;have d3:Room 2 _:=hr;have cw:Room 2 _:=hr;refine⟨_,(qA4 (qAJ (i:=2) sc_Lnet.nd rfl (E8 rfl) (qAT qBU hr rfl (qA0 (pv 0) (qA0 qA7 qA3)))) (qA4 (qAJ (i:=3) sc_Lnet.nd rfl (A05 rfl) (qAU qF2 qA7 (qAT qBU hr rfl (qA0 (pv 0) (qA0 qA7 qA3))))) (qA4 (qBF (qAN qHQ (pv 2) qA7 (qAY _)) (qA5 (qAE (qAD qAH rfl ab qAP (qA0 (qCJ rfl (lcs (own:=["_law_k"]) (fv:=[3]) (by kernel_rfl)) (qB7 rfl qAZ (qA0 (pv 1) qA3)) (λz1=>qBN 0) (λz1=>qB0) (λz1=>(qAD (qKZ rfl) rfl ab qAP (qA0 (qAD qOZ rfl qAZ qS7 (qA0 (qA8 (qWP rfl) rfl cg qdG (qA0 qA7 (qA0 (qAU qEB (pv 0) (pv 1)) qA3))) (qA0 (pv 0) qA3))) qA3)))) qA3)))) qAL) (qA4 (qBF (qAN qHQ (pv 2) qA7 (qAY _)) (qA4 (qMH (i:=4) sc_Lnet.nd rfl rfl rfl (lcs (own:=["_law_k"]) (fv:=[3]) (by kernel_rfl)) (qB7 rfl qAZ (qA0 (pv 1) qA3)) (λz2=>qBN 0) (λz2=>qB0) (λz2=>(qAU qOD (qAU qZC (qBW (qA0 (qAU qEB (pv 0) (pv 1)) qA3)) (qAD qP0 rfl br qS8 (qA0 (qE3 qY0 (pv 0) (pv 1) (qAY _)) qA3))) (qAU qZC (qBW (qA0 (qAU qEB (pv 0) qA7) qA3)) (qAD qP0 rfl br qS8 (qA0 (qE3 qXZ (qAU qJV (pv 0) (pv 1)) qA7 (qAY _)) qA3))))) (by kernel_rfl)) (qA5 (qAE (qAD qAH rfl ab qAP (qA0 (qCJ rfl (lcs (own:=["_law_needs"]) (fv:=[]) (by kernel_rfl)) (qC2 (pv 4)) (λz3=>qBN 0) (λz3=>qB0) (λz3=>(qAD (qGL (K:=K) rfl) rfl ab qAP (qA0 (qA8 (qNC (w:=w) rfl rfl) rfl bz qCL (qA0 (qAD (qTG (K:=K) (w:=w) rfl rfl rfl) rfl cc qP1 (qA0 (pv 0) qA3)) qA3)) qA3)))) qA3))))) qAL) (qA4 (qBF (qAN qHQ (pv 2) qA7 (qAY _)) (qA5 (qAE (qAT cl hr rfl (qA0 (pv 0) (qA0 (pv 1) qA3))))) qAL) (qA4 (qBF (qAN qHQ (pv 2) qA7 (qAY _)) (qA4 (qAJ (i:=5) sc_Lnet.nd rfl (A05 rfl) (qAU qPV (pv 1) qA7)) (qA4 (qMH (i:=4) sc_Lnet.nd rfl rfl rfl (lcs (own:=["_law_k"]) (fv:=[0,5]) (by kernel_rfl)) (qB7 rfl qAZ (qA0 (pv 1) qA3)) (λz4=>qBN 0) (λz4=>qB0) (λz4=>(qAT bi hr rfl (qA0 (pv 1) (qA0 (qEO (qAN qMO (pv 0) (pv 2) (qAY _)) (pv 0) (qAU qEB (pv 0) (pv 2))) qA3)))) (by kernel_rfl)) (qA5 (qAE (qAD qAH rfl ab qAP (qA0 (qCJ rfl (lcs (own:=["_law_k","_law_needs"]) (fv:=[5]) (by kernel_rfl)) (qaD rfl c6 qIG (qA0 (pv 4) qA3)) (λz5=>qUK (K:=K) (n:=2) rfl rfl (qBV (qBN 0) (qBV (qBN 1) qGC)) rfl rfl) (λz5=>qB0) (λz5=>(qEO (qAN qMO (pv 0) (pv 2) (qAY _)) (pv 1) (qAD (qGL (K:=K) rfl) rfl ab qAP (qA0 (qCJ (X:=lcCx _ _ _ _ z5) rfl (lcs (own:=["_law_n"]) (fv:=[2]) (by kernel_rfl)) (qPT (K:=K) rfl (pv 1)) (λz6=>qBN 0) (λz6=>qB0) (λz6=>(qAU qF2 (pv 0) (pv 1)))) qA3))))) qA3)))))) qAL) (qA5 (qAE (qAD qAH rfl ab qAP (qA0 (qCJ rfl (lcs (own:=["_law_k"]) (fv:=[0]) (by kernel_rfl)) (qB7 rfl qAZ (qA0 (pv 1) qA3)) (λz7=>qBN 0) (λz7=>qB0) (λz7=>(qAT bi hr rfl (qA0 (pv 1) (qA0 (pv 0) qA3))))) qA3)))))))))),?_⟩
 try dsimp only[Cx.nox,Cx.wish,cxOf]
 refine cut λN1 cn=>?_;refine⟨_,rfl,d,c,t,ns,8,rfl,S,(by show t<=1000000000;lia),by decide,by decide,λd4 cj H1 w0 w8 S1 K1=>?_⟩
 refine cn _ _ (cut λN2 c5=>?_);refine⟨_,rfl,d,c,t+1,cj,4,rfl,S1,(by show t+1<=1000000000;lia),by decide,by decide,λwd ad H2 d5 d8 S2 K2=>⟨_,_,rfl,rfl,?_⟩⟩
 dsimp only;have af:=K1.trans K2;generalize hwide:(1:Int)+wd=k;have cz:1<=k:=by lia
 have d9:k<=4:=by lia
 refine c5 _ _ (cut λN3 ch=>?_);refine⟨_,rfl,rfl,_,rfl,?_⟩;refine ite2 (λ_=>?_) (λ_=>?_)
 ·refine⟨_,rfl,m,rfl,by lia,by lia,λp hp=>?_⟩
  refine qDV (p:=p) (lo:=0) (n:=m.toNat) (λi σ u=>∃(v:Option V) (rs:List Addr) (Ae:List (List Int)),σ=[v,some (.int k)]/\Same H2 u/\u p=some (.lst (rs.map V.ref))/\NetL u rs Ae/\Ae.length=i/\WFn Ae) ?_ ?_ ?_
  ·exact⟨none,[],[],rfl,qA2 hp _,qA1,.nil,rfl,WFn.nil⟩
  ·refineλi σ u hi b6=>opq λd0 bm=>?_;obtain⟨v,rs,Ae,rfl,sm,l,N,hl,wf⟩:=b6;refine bm ?_;refine⟨_,rfl,_,rfl,_,_,rfl,rfl,0,_,rfl,_,rfl,_,_,rfl,λp1 bh=>?_⟩;refine⟨p1,_,_,rfl,qA1,by split<;>lia,by split<;>lia,by lia,by lia,λr a8=>?_⟩
   have ce:0<=(if(0+(i:Int))-k>0 then(0+(i:Int))-k else 0):=by split<;>lia
   have bb:=qPN (hi:=0+(i:Int)) ce;dsimp only;rw[qJL];generalize qBX (if(0+(i:Int))-k>0 then(0+(i:Int))-k else 0) (0+(i:Int))=o at bb ⊢
   generalize HO.rng (if(0+(i:Int))-k>0 then(0+(i:Int))-k else 0) (0+(i:Int))=ho at bh a8 ⊢
   have s1:=(qA2 bh ho).trans (qA2 a8 (.tup (o.map V.int)));have g1:=s1 _ _ l;refine⟨_,g1,qAG (by rw[A0,NetAt.len N];lia),?_⟩
   rw[qB6];refine⟨_,rs++[r],Ae++[o],rfl,qAB (sm.trans s1) hp,qA1,qDU (qCW (N.same λr' ys e=>s1 _ _ e) qA1) g1,by rw[B0,B8,hl],wf.snoc ?_⟩
   rw[hl];exact bb.mono (by lia)
  ·refineλσ u b9=>opq λcu bp=>?_;obtain⟨v,rs,Ae,rfl,sm,l,N,hl,wf⟩:=b9;refine bp ?_;refine⟨p,_,rfl,.inl ⟨SqL.of l,λa ha=>?_⟩⟩;have s1:=qA2 ha (.tup (rs.map V.ref));exact q a Ae (t+1+1) ad _ (S2.same (sm.trans s1)) (by lia) (by lia) (af.trans (.of_same (sm.trans s1))) ⟨rs,qA1,N.same λr ys e=>s1 _ _ e⟩ wf (by rw[hl];lia)
 refine ch _ _ (cut λN4 c4=>?_);refine⟨_,rfl,rfl,_,rfl,?_⟩;refine ite2 (λ_=>?_) (λ_=>?_)
 ·refine⟨_,rfl,m,rfl,by lia,by lia,λp hp=>?_⟩
  refine qDV (p:=p) (lo:=0) (n:=m.toNat) (fun i σ u=>∃ (v:Option V) (rs:List Addr) (ls:List (List Int)),σ=[v,some (.int k)]/\Same H2 u/\u p=some (.lst (rs.map V.ref))/\Paired (fun r o=>r ≠ p/\u r=some (.lst (o.map V.int))) rs ls/\ls.length=i/\
   ∀(j:Nat) o,ls[j]?=some o->o.length<=2/\∀x∈o,0<=x/\x<(j:Int)) ?_ ?_ ?_
  ·exact⟨none,[],[],rfl,qA2 hp _,qA1,.nil,rfl,λj o e=>by simp at e⟩
  ·refineλi σ u hi bt=>opq λcx bk=>?_;obtain⟨v,rs,ls,rfl,sm,l,N,hl,wf⟩:=bt;refine bk ?_;refine⟨_,rfl,_,rfl,_,_,rfl,rfl,(by show 1<=B64;decide),λa1 cm=>?_⟩
   refine⟨_,rfl,_,rfl,_,_,rfl,rfl,.inr ⟨_,rfl,?_⟩⟩;refine⟨a1,_,_,rfl,rfl,qA1,by split<;>decide,by split<;>decide,?_,λa2 c9=>?_⟩
   ·have:∀b:Bool,[V.int (0+(i:Int)-k)].length*(if b=true then(1:Int) else 0).toNat<=B64:=by intro b;cases b<;>simp[B77]
    exact this _
   dsimp only;rw[qcD];refine⟨_,rfl,_,_,rfl,rfl,(by show 1<=B64;decide),λa3 bg=>?_⟩
   refine⟨_,rfl,_,rfl,_,_,rfl,rfl,(by show 0<k;lia),_,_,rfl,rfl,.inr ⟨_,rfl,?_⟩⟩
   refine⟨a3,_,_,rfl,rfl,qA1,by split<;>decide,by split<;>decide,?_,λa4 bc=>?_⟩
   ·have:∀b:Bool,[V.int (0+(i:Int)-1)].length*(if b=true then(1:Int) else 0).toNat<=B64:=by intro b;cases b<;>simp[B77]
    exact this _
   dsimp only;rw[qcD];have b1:∀x∈(if decide (k<=0+(i:Int))=true then[0+(i:Int)-k] else[]),0<=x/\x<(i:Int):=by
    intro x hx
    split at hx
    ·rename_i hd
     have:=of_decide_eq_true hd;rw[A6.mp hx];lia
    ·cases hx
   have b2:∀x∈(if decide (0<(0+(i:Int))%k)=true then[0+(i:Int)-1] else[]),0<=x/\x<(i:Int):=by
    intro x hx
    split at hx
    ·rename_i hd
     have bn:=of_decide_eq_true hd;have:(i:Int)≠0:=by
      intro e;rw[e] at bn;simp at bn
     rw[A6.mp hx];lia
    ·cases hx
   have c1:(if decide (k<=0+(i:Int))=true then[0+(i:Int)-k] else[]).length<=1:=by split<;>simp
   have c2:(if decide (0<(0+(i:Int))%k)=true then[0+(i:Int)-1] else[]).length<=1:=by split<;>simp
   generalize (if decide (k<=0+(i:Int))=true then[0+(i:Int)-k] else[])=z1 at b1 c1 bg bc ⊢
   generalize (if decide (0<(0+(i:Int))%k)=true then[0+(i:Int)-1] else[])=z2 at b2 c2 ⊢
   have s2:=(qA2 bg (.lst [.int (0+(i:Int)-1)])).trans (qA2 bc (.lst (z2.map V.int)));refine⟨a2,a4,_,_,rfl,rfl,s2 _ _ qA1,qA1,U5 (qAG (by rw[A0,A0];lia)),λa5 bu=>?_⟩
   have s1:=(qA2 cm (.lst [.int (0+(i:Int)-k)])).trans (qA2 c9 (.lst (z1.map V.int)));have s3:=(s1.trans s2).trans (qA2 bu (.lst (z1.map V.int++z2.map V.int)));have e5:z1.map V.int++z2.map V.int=(z1++z2).map V.int:=by rw[B1]
   rw[e5] at s3 ⊢;have g1:=s3 _ _ l;have n5:a5≠p:=(qA6 ((s1.trans s2) _ _ l) bu).symm;refine⟨_,g1,qAG (by rw[A0,C1 N];lia),?_⟩
   rw[qB6];refine⟨_,rs++[a5],ls++[z1++z2],rfl,qAB (sm.trans s3) hp,qA1,T5 (qSW N λr o e=>⟨e.1,by rw[qA9 e.1];exact s3 _ _ e.2⟩) ⟨n5,by rw[qA9 n5];exact qA1⟩,by rw[B0,B8,hl],λj o e=>?_⟩
   rcases qR3 e with e|⟨rfl,rfl⟩
   ·exact wf j o e
   ·rw[hl];refine⟨by rw[B0];lia,λx hx=>?_⟩
    rcases A8.mp hx with hx|hx
    ·exact b1 x hx
    ·exact b2 x hx
  ·refineλσ u bj=>opq λd6 b8=>?_;obtain⟨v,rs,ls,rfl,sm,l,N,hl,wf⟩:=bj;refine b8 ?_;refine⟨_,rfl,p,rfl,⟨_,SqL.of l⟩,λp' ac=>?_⟩;refine qE4 (p:=p') (a:=p) (xs:=rs.map V.ref) (λi σ Hd=>∃(v:Option V) (rs':List Addr) (Ae:List (List Int)),σ=[v]/\Same u Hd/\Hd p'=some (.lst (rs'.map V.ref))/\NetL Hd rs' Ae/\Ae.length=i/\WFn Ae) ?_ ?_ ?_ ?_
   ·exact⟨none,[],[],rfl,qA2 ac _,qA1,.nil,rfl,WFn.nil⟩
   ·rintro i σ Hd hi ⟨v,rs',Ae,rfl,sm2,_⟩;exact SqL.of (sm2 _ _ l)
   ·refineλi x σ Hd hx ba=>opq λcv bq=>?_;obtain⟨v,rs',Ae,rfl,sm2,aa,N2,a0,a9⟩:=ba;obtain⟨r,a8,rfl⟩:=qC4 hx;obtain⟨o,hz,_,ap⟩:=qAS N a8;obtain⟨l2,m2⟩:=wf i o hz;refine bq ?_;refine⟨_,rfl,r,o,rfl,SqL.of (sm2 _ _ ap),by lia,λa ha=>?_⟩
    refine⟨a,dedI o,rfl,qA1,λb ys hb cd hs=>?_⟩;refine⟨b,_,rfl,.inl ⟨SqL.of qA1,λr2 ay=>?_⟩⟩;have s1:=((qA2 ha (SetM w a (dedI o))).trans (qA2 hb (.lst (ys.map V.int)))).trans (qA2 ay (.tup (ys.map V.int)));have g1:=s1 _ _ aa;have ci:rs.length=m.toNat:=by rw[C1 N,hl]
    have hi:i<rs.length:=(A3.mp a8).1;refine⟨_,g1,qAG (by rw[A0,NetAt.len N2];lia),?_⟩
    rw[qB6];refine⟨_,rs'++[r2],Ae++[ys],rfl,qAB (sm2.trans s1) ac,qA1,qDU (qCW (N2.same λr' bl e=>s1 _ _ e) qA1) g1,by rw[B0,B8,a0],a9.snoc ?_⟩
    rw[a0];exact qMG cd hs m2
   ·refineλσ Hd bv=>opq λd2 b5=>?_;obtain⟨v,rs',Ae,rfl,sm2,aa,N2,a0,a9⟩:=bv;refine b5 ?_;refine⟨p',_,rfl,.inl ⟨SqL.of aa,λa ha=>?_⟩⟩;have s1:=qA2 ha (.tup (rs'.map V.ref));refine q a Ae (t+1+1) ad _ (S2.same ((sm.trans sm2).trans s1)) (by lia) (by lia) (af.trans (.of_same ((sm.trans sm2).trans s1))) ⟨rs',qA1,N2.same λr ys e=>s1 _ _ e⟩ a9 ?_
    rw[a0,A0,C1 N,hl]
    lia
 refine c4 _ _ (cut λN5 c3=>?_);refine⟨_,rfl,rfl,_,rfl,?_⟩;refine ite2 (λ_=>?_) (λ_=>?_)
 ·refine⟨_,rfl,_,rfl,d,c,t+1+1,ad,m,rfl,S2,?_,bw,c7,λa Ae t' ms H' a1 a2 a3 a4 a5 a6 a7=>?_⟩
  ·show t+1+1<=1000000000-1000;lia
  ·exact q a Ae t' ms H' a1 (by lia) (by lia) (af.trans a4) a5 a6 a7
 refine c3 _ _ (cut λN6 cb=>?_);refine⟨_,rfl,rfl,_,rfl,?_⟩;refine ite2 (λ_=>?_) (λ_=>?_)
 ·refine⟨_,rfl,_,_,rfl,rfl,⟨by decide,by decide⟩,?_⟩
  dsimp only;have bo:0<=m/2:=by lia
  have c0:m/2<=m:=by lia
  generalize m/2=g at bo c0;refine⟨_,rfl,m,rfl,by lia,by lia,λp hp=>?_⟩
  refine qDV (p:=p) (lo:=0) (n:=m.toNat) (fun i σ u=>∃ (v:Option V) (t':Int) (ms:List Int) (rs:List Addr) (Ae:List (List Int)),σ=[v,some (.ref d),some (.int g)]/\StAt u d c t' ms/\t+2<=t'/\t'<=t+2+9 * i/\Keep d c H2 u/\u p=some (.lst (rs.map V.ref))/\NetL u rs Ae/\Ae.length=i/\
   ∀(j:Nat) o,Ae[j]?=some o->Rise (if(j:Int)<g then(j:Int) else(j:Int)-g) o) ?_ ?_ ?_
  ·exact⟨none,t+1+1,ad,[],[],rfl,S2.new hp _,by lia,by lia,qDW hp _,qA1,.nil,rfl,λj o e=>by simp at e⟩
  ·refine fun i σ u hi b7=>opq fun d7 be=>?_;obtain ⟨v,t',ms,rs,Ae,rfl,S3,b1,b2,k3,l,N,hl,wf⟩:=b7;refine be ?_;have ae:p ≠ d:=(qA6 S2.dict hp).symm;have ah:p ≠ c:=(qA6 S2.list hp).symm;have nx:∀ (kk:Int),kk=(if (i:Int)<g then (i:Int) else (i:Int) - g)->qPG [.ref d,.int kk] u (fun y H4=>∃ ys,H4 p=some (.lst ys)/\ys.length<B64/\∃ (v:Option V) (t':Int) (ms:List Int) (rs:List Addr) (Ae:List (List Int)),[some (V.int (0+(i:Int))),some (.ref d),some (.int g)]=[v,some (.ref d),some (.int g)]/\StAt (Ag H4 p (.lst (ys++[y]))) d c t' ms/\t+2<=t'/\t'<=t+2+9 * (i+1:Nat)/\Keep d c H2 (Ag H4 p (.lst (ys++[y])))/\(Ag H4 p (.lst (ys++[y]))) p=some (.lst (rs.map V.ref))/\NetL (Ag H4 p (.lst (ys++[y]))) rs Ae/\Ae.length=i+1/\
     ∀(j:Nat) o,Ae[j]?=some o->Rise (if(j:Int)<g then(j:Int) else(j:Int)-g) o) E0:=by
    intro kk ek;refine⟨d,c,t',ms,kk,rfl,S3,(by show t'<=1000000000-20;lia),by rw[ek];split<;>lia,by rw[ek];split<;>lia,λr o az ao H3 e1 e2 e3 e4 e5 e6=>?_⟩
    have g1:=e4 _ _ l ae ah;refine⟨_,g1,qAG (by rw[A0,NetAt.len N];lia),?_⟩
    rw[qB6];refine⟨_,az,ao,rs++[r],Ae++[o],rfl,⟨by rw[qA9 (J8 ae)];exact e1.dict,by rw[qA9 (J8 ah)];exact e1.list,e1.ne,e1.len,e1.pos⟩,by lia,by lia,qRT (k3.trans e4) hp,qA1,qDU (qCW (N.keep (λr ys e=>S3.tup e) e4) e5) g1,by rw[B0,B8,hl],λj ys e=>?_⟩
    rcases qR3 e with e|⟨rfl,rfl⟩
    ·exact wf j ys e
    ·rw[hl,<- ek];exact e6
   refine⟨_,rfl,_,rfl,_,rfl,_,_,rfl,rfl,_,rfl,?_⟩;refine ite2 (λck=>?_) (λck=>?_)
   ·have ag:0+(i:Int)<g:=of_decide_eq_true ck;exact⟨_,rfl,nx _ (by rw[if_pos (by lia)];lia)⟩
   ·have ag:¬0+(i:Int)<g:=of_decide_eq_false (F7.mpr ck);exact⟨_,rfl,_,rfl,_,_,rfl,rfl,nx _ (by rw[if_neg (by lia)];lia)⟩
  ·refineλσ u bd=>opq λd1 bs=>?_;obtain⟨v,t',ms,rs,Ae,rfl,S3,b1,b2,k3,l,N,hl,wf⟩:=bd;refine bs ?_;have ci:rs.length=m.toNat:=by rw[C1 N,hl]
   refine⟨_,rfl,p,rfl,⟨_,SqL.of l⟩,λp' ac=>?_⟩;refine qaT (p:=p') (a:=p) (xs:=rs.map V.ref) (λi σ Hd=>∃(v1 v2:Option V) (rs':List Addr) (net':List (List Int)),σ=[v1,v2,some (.int g)]/\Same u Hd/\Hd p'=some (.lst (rs'.map V.ref))/\NetL Hd rs' net'/\net'.length=i/\WFn net') ?_ ?_ ?_ ?_
   ·exact⟨none,none,[],[],rfl,qA2 ac _,qA1,.nil,rfl,WFn.nil⟩
   ·rintro i σ Hd hi ⟨v1,v2,rs',net',rfl,sm2,_⟩;exact SqL.of (sm2 _ _ l)
   ·refineλi x σ Hd T hx au hT=>opq λcs aq=>?_;obtain⟨v1,v2,rs',net',rfl,sm2,aa,N2,a0,a9⟩:=au;obtain⟨r,a8,rfl⟩:=qC4 hx;obtain⟨o,hz,ap⟩:=qAS N a8;refine aq ?_;have hi:i<rs.length:=(A3.mp a8).1;have rz:=wf i o hz;have sT:=qA2 hT (.tup [.int (i:Int),.ref r]);have aj:=sT _ _ (sm2 _ _ ap);have ai:=sT _ _ aa;have NT:=N2.same λr' bl e=>sT _ _ e;have b4:=sm2.trans sT;have gT:SqT K (Ag Hd T (.tup [.int (i:Int),.ref r])) T [.int (i:Int),.ref r]:=SqT.of qA1;generalize Ag Hd T (.tup [.int (i:Int),.ref r])=bx at aj ai NT b4 gT ⊢;refine⟨T,_,rfl,gT,rfl,_,_,rfl,_,_,rfl,rfl,?_⟩;refine⟨_,rfl,_,rfl,_,_,rfl,rfl,_,rfl,?_⟩;refine ite2 (λck=>?_) (λck=>?_)
    ·have ag:(i:Int)<g:=of_decide_eq_true ck;rw[if_pos ag] at rz;refine⟨_,rfl,_,ai,qAG (by rw[A0,NetAt.len N2];lia),?_⟩
     rw[qB6];refine⟨_,_,rs'++[r],net'++[o],rfl,qAB b4 ac,qA1,qDU (qCW NT aj) ai,by rw[B0,B8,a0],a9.snoc ?_⟩
     rw[a0];exact rz
    ·have ag:¬(i:Int)<g:=of_decide_eq_false (F7.mpr ck);rw[if_neg ag] at rz;have lz:o.length<=i:=by
      have e:((i:Int)-g)=(((i:Int)-g).toNat:Nat):=by lia
      rw[e] at rz;have:=rz.len
      lia
     refine⟨_,rfl,r,rfl,⟨_,SqT.of aj⟩,λp2 bf=>?_⟩;refine qCN (p:=p2) (a:=r) (xs:=o.map V.int) (λj σ He=>∃(v:Option V),σ=[v,some (.int g)]/\Same bx He/\He p2=some (.lst (((o.take j).map (·+g)).map V.int))) ?_ ?_ ?_ ?_
     ·exact⟨none,rfl,qA2 bf _,qA1⟩
     ·rintro j σ He hj ⟨v,rfl,sm3,_⟩;exact SqT.of (sm3 _ _ aj)
     ·refineλj x σ He cf b0=>opq λcr ax=>?_;obtain⟨v,rfl,sm3,ak⟩:=b0;obtain⟨z,ca,rfl⟩:=qB5 cf;refine ax ?_;refine⟨_,rfl,_,rfl,_,_,rfl,rfl,_,ak,qAG (by rw[A0,A0,C5];lia),_,rfl,qAB sm3 bf,?_⟩
      rw[qA1,C8,ca,C9,B1,B1]
      rfl
     ·refineλσ He am=>opq λcp aw=>?_;obtain⟨v,rfl,sm3,ak⟩:=am;refine aw ?_;rw[A0,D0 (A7 _)] at ak;refine⟨p2,_,rfl,.inl ⟨SqL.of ak,λr2 ay=>?_⟩⟩;have s1:=qA2 ay (.tup ((o.map (·+g)).map V.int));have s2:=sm3.trans s1;have g1:=s2 _ _ ai;refine⟨_,g1,qAG (by rw[A0,NetAt.len N2];lia),?_⟩
      rw[qB6];refine⟨_,_,rs'++[r2],net'++[o.map (·+g)],rfl,qAB (b4.trans s2) ac,qA1,qDU (qCW (NT.same λr' bl e=>s2 _ _ e) qA1) g1,by rw[B0,B8,a0],a9.snoc ?_⟩
      rw[a0];have:=rz.shift bo;rw[show(i:Int)-g+g=(i:Int) by lia] at this
      exact this
   ·refineλσ Hd al=>opq λct b3=>?_;obtain⟨v1,v2,rs',net',rfl,sm2,aa,N2,a0,a9⟩:=al;refine b3 ?_;refine⟨p',_,rfl,.inl ⟨SqL.of aa,λa ha=>?_⟩⟩;have s1:=qA2 ha (.tup (rs'.map V.ref));refine q a net' t' ms _ (S3.same (sm2.trans s1)) (by lia) (by lia) (af.trans (k3.trans (.of_same (sm2.trans s1)))) ⟨rs',qA1,N2.same λr ys e=>s1 _ _ e⟩ a9 ?_
    rw[a0,A0,C1 N,hl]
    lia
 refine cb _ _ ?_;refine⟨_,rfl,m,rfl,by lia,by lia,λp hp=>?_⟩
 refine qDV (p:=p) (lo:=0) (n:=m.toNat) (λi σ u=>∃(v:Option V) (t':Int) (ms:List Int) (rs:List Addr) (Ae:List (List Int)),σ=[v,some (.ref d)]/\StAt u d c t' ms/\t+2<=t'/\t'<=t+2+9*i/\Keep d c H2 u/\u p=some (.lst (rs.map V.ref))/\NetL u rs Ae/\Ae.length=i/\WFn Ae) ?_ ?_ ?_
 ·exact⟨none,t+1+1,ad,[],[],rfl,S2.new hp _,by lia,by lia,qDW hp _,qA1,.nil,rfl,WFn.nil⟩
 ·refineλi σ u hi ar=>opq λcq av=>?_;obtain⟨v,t',ms,rs,Ae,rfl,S3,b1,b2,k3,l,N,hl,wf⟩:=ar;refine av ?_;have ae:p≠d:=(qA6 S2.dict hp).symm;have ah:p≠c:=(qA6 S2.list hp).symm;refine⟨_,rfl,_,rfl,d,c,t',ms,0+(i:Int),rfl,S3,(by show t'<=1000000000-20;lia),by lia,by lia,λr o az ao H3 e1 e2 e3 e4 e5 e6=>?_⟩
  have g1:=e4 _ _ l ae ah;refine⟨_,g1,qAG (by rw[A0,NetAt.len N];lia),?_⟩
  rw[qB6];refine⟨_,az,ao,rs++[r],Ae++[o],rfl,⟨by rw[qA9 (J8 ae)];exact e1.dict,by rw[qA9 (J8 ah)];exact e1.list,e1.ne,e1.len,e1.pos⟩,by lia,by lia,qRT (k3.trans e4) hp,qA1,qDU (qCW (N.keep (λr ys e=>S3.tup e) e4) e5) g1,by rw[B0,B8,hl],wf.snoc ?_⟩
  rw[hl];exact e6.mono (by lia)
 ·refineλσ u an=>opq λco as=>?_;obtain⟨v,t',ms,rs,Ae,rfl,S3,b1,b2,k3,l,N,hl,wf⟩:=an;refine as ?_;refine⟨p,_,rfl,.inl ⟨SqL.of l,λa ha=>?_⟩⟩;have s1:=qA2 ha (.tup (rs.map V.ref));exact q a Ae t' ms _ (S3.same s1) (by lia) (by lia) (af.trans (k3.trans (.of_same s1))) ⟨rs,qA1,N.same λr ys e=>s1 _ _ e⟩ wf (by rw[hl];lia)
theorem qXT {k:Int}(a:0<=k)(b:k<4):∃v,atI [V.int 0,V.int 0,V.int 1,V.int 3] k=some (.int v)/\0<=v/\v<=3:=by
 rcases(by lia:k=0\/k=1\/k=2\/k=3) with rfl|rfl|rfl|rfl
 all_goals exact⟨_,rfl,by decide,by decide⟩
theorem sc_Lasked:FnScope ["_law_state","_law_net_here","_law_found","_law_turn"] ["_law_state","_law_net_here"] (qAA qJ1):=qBK
theorem ok_Lasked (F:Fun K "_law_asked" "_law_asked" qJ1 f fd)
  (qBU:Clb P w K mg base 1 qGK qHB "_law_take" ["_law_state","_law_many"] qL4)
  (qBE:mg "len" = none) (qKR:mg "min" = none) (qAZ:mg "range" = none) (ai:mg "set" = none) (ad:mg "sorted" = none) (al:mg "tuple" = none):FnOk P w K mg base CX0 2 f fd ["_law_state","_law_net_here"] qU5:=by
 refine F.okA sc_Lasked λar A ah s H vs Q E hr h=>?_;obtain⟨d,c,t,ns,a,Ae,rfl,S,ht,hN,wf,n1,am,q⟩:=h;have ap:t<=1000000000-100:=ht;have ao:Room 1 _:=hr;refine⟨_,(qA4 (qAJ (i:=2) sc_Lasked.nd rfl (E8 rfl) (qBW (qA0 (qAU qEB (qAU qEB (qA8 qAC rfl qBE qBJ (qA0 (pv 1) qA3)) qA7) (qAT qBU hr rfl (qA0 (pv 0) (qA0 (qA8 (qKK rfl) rfl qKR qP2 (qA0 (qA8 qAC rfl qBE qBJ (qA0 (pv 1) qA3)) (qA0 qA7 qA3))) qA3)))) qA3))) (qA4 (qBT D7 rfl (qB7 rfl qAZ (qA0 (qB9 qCS (qBW (qA0 qA7 (qA0 qA7 (qA0 qA7 (qA0 qA7 qA3))))) (qAT qBU hr rfl (qA0 (pv 0) (qA0 qA7 qA3))) (λ_ _=>rfl)) qA3)) (qAR (i:=3) sc_Lasked.nd rfl (E8 rfl)) (qA5 (qEM (qO6 J1 J6 J7 qCK (pv 2) (qA0 (qAT qBU hr rfl (qA0 (pv 0) (qA0 (qA8 qAC rfl qBE qBJ (qA0 (pv 1) qA3)) qA3))) qA3))))) (qA5 (qAE (qAD qAH rfl al qAP (qA0 (qA8 (qD5 rfl) rfl ad qCL (qA0 (qAD (qKJ rfl) rfl ai qP1 (qA0 (pv 2) qA3)) qA3)) qA3)))))),?_⟩
 try dsimp only[Cx.nox,Cx.wish,cxOf]
 obtain⟨rs,hA,NL⟩:=id hN;have l:(((rs.map V.ref).length:Nat):Int)=(Ae.length:Int):=by rw[A0,C1 NL]
 refine⟨_,rfl,a,_,rfl,.inr (SqT.of hA),_,_,rfl,rfl,?_⟩;refine⟨_,rfl,_,rfl,a,_,rfl,.inr (SqT.of hA),_,_,rfl,?_⟩;refine⟨d,c,t,ns,_,rfl,S,(by show t<=1000000000;lia),by split<;>lia,by split<;>lia,λk ak H1 k0 k1 S1 K1=>?_⟩
 have kb:0<=(Ae.length:Int)-1-k/\(Ae.length:Int)-1-k<(Ae.length:Int):=by
  rw[l] at k1
  split at k1<;>lia
 refine⟨_,_,rfl,rfl,(by show 1<=B64;decide),λg v=>?_⟩
 dsimp only;rw[l];generalize (Ae.length:Int)-1-k=x0 at kb;have a0:g≠d:=(qA6 S1.dict v).symm;have a1:g≠c:=(qA6 S1.list v).symm;have S2:=S1.new v (.lst [.int x0]);have k2:=K1.trans (qDW (d:=d) (c:=c) v (.lst [.int x0]));have af:∀o,H g=some o->False:=λo z=>by
  by_cases e1:g=d
  ·exact a0 e1
  ·by_cases e2:g=c
   ·exact a1 e2
   ·have:=K1 g o z e1 e2;rw[v] at this;cases this
 have a7:(Ag H1 g (.lst [.int x0])) g=some (.lst ([x0].map V.int)):=qA1;generalize Ag H1 g (.lst [.int x0])=H2 at S2 k2 a7;refine⟨(by show 4<=B64;decide),λp hp=>?_⟩
 have a5:p≠d:=(qA6 S2.dict hp).symm;have a4:p≠c:=(qA6 S2.list hp).symm;have sp:=qA2 hp (.lst [.int 0,.int 0,.int 1,.int 3]);refine⟨_,rfl,d,c,t+1,ak,4,rfl,S2.same sp,(by show t+1<=1000000000;lia),by decide,by decide,λj ac H3 j0 j1 S3 K3=>?_⟩
 have gp:=K3 _ _ qA1 a5 a4;have aa:=K3 _ _ (sp _ _ a7) a0 a1;have k3:=(k2.trans (.of_same sp)).trans K3;obtain⟨m,hm,m0,m3⟩:=qXT j0 j1;refine⟨p,_,_,_,rfl,rfl,SqL.of gp,hm,m,rfl,by lia,by lia,qEC (lo:=0) (n:=m.toNat) (λi σ Hc=>∃(t':Int) (ms fs:List Int) (v3:Option V),σ=[some (.ref d),some (.ref a),some (.ref g),v3]/\StAt Hc d c t' ms/\t+2<=t'/\t'<=t+2+i/\Keep d c H Hc/\Hc g=some (.lst (fs.map V.int))/\fs.length=i+1/\∀x∈fs,0<=x/\x<(Ae.length:Int))
  ⟨t+1+1,ac,[x0],none,rfl,S3,by lia,by lia,k3,aa,rfl,λx hx=>by rw[A6.mp hx];exact kb⟩ ?_ ?_⟩
 ·refineλi σ Hc hi a2=>opq λaq a8=>?_;obtain⟨t',ms,fs,v3,rfl,S4,b1,b2,k4,gf,lf,fb⟩:=a2;refine a8 ?_;have ag:=hN.keep S k4;obtain⟨rs,hA,NL⟩:=id ag;have l:(((rs.map V.ref).length:Nat):Int)=(Ae.length:Int):=by rw[A0,C1 NL]
  refine⟨_,rfl,.inl ⟨rfl,_,SqL.of gf⟩,_,rfl,_,rfl,a,_,rfl,.inr (SqT.of hA),d,c,t',ms,_,rfl,S4,(by show t'<=1000000000;lia),by rw[l];lia,by rw[l];lia,λx ab H5 x0 x1 S5 K5=>?_⟩
  rw[l] at x1;have ae:=K5 _ _ gf a0 a1;refine⟨g,_,_,rfl,rfl,ae,qAG (by rw[A0];lia),?_⟩
  refine⟨t'+1,ab,fs++[x],_,rfl,⟨by rw[qA9 (J8 a0)];exact S5.dict,by rw[qA9 (J8 a1)];exact S5.list,S5.ne,S5.len,S5.pos⟩,by lia,by lia,λb u e n1 n2=>?_,by rw[qA1,B1];rfl,by rw[B0,B8,lf],λy hy=>?_⟩
  ·by_cases e3:b=g
   ·subst e3;exact(af _ e).elim
   ·rw[qA9 e3];exact(k4.trans K5) b u e n1 n2
  ·rcases A8.mp hy with hy|hy
   ·exact fb y hy
   ·rw[A6.mp hy];exact⟨x0,x1⟩
 ·refineλσ Hc a3=>opq λan a9=>?_;obtain⟨t',ms,fs,v3,rfl,S4,b1,b2,k4,gf,lf,fb⟩:=a3;refine a9 ?_;refine⟨_,rfl,g,fs,rfl,SqL.of gf,by lia,λe he=>?_⟩
  have ld:=qYW fs;refine⟨e,dedI fs,rfl,qA1,λb ys hb a6 hs=>?_⟩;refine⟨b,_,rfl,.inl ⟨SqL.of qA1,λr aj=>?_⟩⟩;have s1:=((qA2 he (SetM w e (dedI fs))).trans (qA2 hb (.lst (ys.map V.int)))).trans (qA2 aj (.tup (ys.map V.int)));have ne:fs≠[]:=λz=>by rw[z] at lf;simp at lf
  obtain⟨y,hy⟩:=List.exists_mem_of_ne_nil fs ne;refine q r ys t' ms _ (S4.same s1) (by lia) (by lia) (k4.trans (.of_same s1)) qA1 (qMG a6 hs fb) (W9 (a6.mem_iff.mpr (mem_dedI.mpr hy)))
theorem sc_all_needed:FnScope ["net","asked","wanted","work","need"] ["net","asked"] (qAA qDT):=qBK
theorem ok_all_needed (F:Fun K "all_needed" "all_needed" qDT f fd) (qAZ:mg "range" = none) (qBE:mg "len" = none) (ah:mg "sorted" = none):FnOk P w K mg base CX0 1 f fd ["net","asked"] qU6:=by
 refine F.okA sc_all_needed λar A ai s H vs Q E hr h=>?_;obtain⟨a,t,c,Ad,rfl,hN,wf,aj,hT,a9,q⟩:=h;have hu:=qG7 hr;refine⟨_,(qA4 (qAJ (i:=2) sc_all_needed.nd rfl (E8 rfl) qML) (qA4 (qBT D7 rfl (qC7 (pv 1)) (qAR (i:=3) sc_all_needed.nd rfl (E8 rfl)) (qA5 (qEN hu (pv 2) (pv 3) qCF rfl))) (qA4 (qBT D7 rfl (qaE rfl qAZ (qA0 (qAU qEB (qA8 qAC rfl qBE qBJ (qA0 (pv 0) qA3)) qA7) (qA0 (qSV qL1 qA7) (qA0 (qSV qL1 qA7) qA3)))) (qAR (i:=3) sc_all_needed.nd rfl (E8 rfl)) (qA5 (qBF (qC6 (qUR hu (pv 3) (pv 2))) (qA5 (qBT D7 rfl (qC7 (qB9 qBI (pv 0) (pv 3) (λ_ _=>rfl))) (qAR (i:=4) sc_all_needed.nd rfl (E8 rfl)) (qA5 (qEN hu (pv 2) (pv 4) qCF rfl)))) qAL))) (qA5 (qAE (qA8 (qFL rfl) rfl ah qCL (qA0 (pv 2) qA3))))))),?_⟩
 try dsimp only[Cx.nox,Cx.wish,cxOf]
 obtain⟨rs,hA,NL⟩:=id hN;have a0:(((rs.map V.ref).length:Nat):Int)=(c.length:Int):=by rw[A0,C1 NL]
 refineλu a1=>?_;have sn:=qA2 a1 (.dK []);refine⟨_,rfl,t,rfl,⟨_,SqT.of (sn _ _ hT)⟩,qHX (a:=t) (xs:=Ad.map V.int) (λj σ Hf=>∃(Af:List (Key×V)) (ks:List Int) (v3 v4:Option V),σ=[some (.ref a),some (.ref t),some (.ref u),v3,v4]/\Same H Hf/\Hf u=some (.dK Af)/\KeysI Af ks/\∀x,x∈ks↔x∈Ad.take j)
  ⟨[],[],none,none,rfl,sn,qA1,KeysI.nil,λx=>by simp⟩ (λj σ Hf _ hP=>by obtain⟨_,_,_,_,_,d,_⟩:=hP;exact SqT.of (d _ _ hT)) ?_ ?_⟩
 ·refineλj x σ Hf hx a4=>opq λan ad=>?_;obtain⟨Af,ks,v3,v4,rfl,d,hd,m,mk⟩:=a4;obtain⟨y,ey,rfl⟩:=qB5 hx;refine ad ?_;have lk:ks.length<=c.length:=qUZ m.nd λx hx=>a9 x (O5 ((mk x).mp hx));refine⟨_,rfl,_,rfl,u,_,rfl,DPut.k (k:=G0 y) hd (qB2 (by rw[m.len];lia)),?_⟩
  refine⟨_,_,_,_,rfl,qAB d a1,qA1,m.put y _,λx=>?_⟩;rw[mem_addI,mk,C8,ey,C9,A8,A6]
 refineλσ Hf a7=>opq λak ae=>?_;obtain⟨Af,ks,v3,v4,rfl,d,hd,m,mk⟩:=a7;refine ae ?_;rw[A0,qC0 rfl] at mk;refine⟨_,rfl,a,_,rfl,.inr (SqT.of (d _ _ hA)),_,_,rfl,rfl,_,rfl,_,rfl,_,_,rfl,⟨by rw[a0];lia,by rw[a0];lia,by decide,by decide⟩,qYQ (lo:=(((rs.map V.ref).length:Nat):Int)-1) (n:=((((rs.map V.ref).length:Nat):Int)-1 - -1).toNat) (λi σ Hc=>∃(Af:List (Key×V)) (ks:List Int) (v3 v4:Option V),σ=[some (.ref a),some (.ref t),some (.ref u),v3,v4]/\Same H Hc/\Hc u=some (.dK Af)/\KeysI Af ks/\Fnd c Ad ks ((c.length:Int)-i))
  ⟨Af,ks,v3,v4,rfl,d,hd,m,⟨λx hx=>⟨a9 x ((mk x).mp hx),.ask ((mk x).mp hx)⟩,λx hx=>(mk x).mpr hx,λw zs h1 h2 h3=>?_⟩⟩ ?_ ?_⟩
 ·have:=(A3.mp h3).1
  lia
 ·refineλi σ Hc hi ag=>opq λam ab=>?_;obtain⟨Af,ks,v3,v4,rfl,d,hd,m,v⟩:=ag;refine ab ?_;rw[a0] at hi ⊢;have aq:i<c.length:=by lia
  obtain⟨g,ew⟩:∃g:Nat,(c.length:Int)-1-i=(g:Int):=⟨c.length-1-i,by lia⟩
  have hw:g<c.length:=by lia
  rw[ew];obtain⟨r,h3,h4⟩:=NL.get (A4 hw);have hz:=A4 hw;have rz:=wf g _ hz;generalize c[g]=zs at h4 hz rz;refine⟨_,rfl,_,rfl,u,_,rfl,DGet.k (k:=G0 (g:Int)) hd,_,rfl,?_⟩;rw[m.has];by_cases mw:(g:Int)∈ks
  ·rw[decide_eq_true mw];refine⟨_,rfl,_,rfl,a,_,_,_,rfl,rfl,SqT.of (d _ _ hA),qIC (by lia) (by rw[E4,B9,h3];rfl),r,rfl,⟨_,SqT.of (d _ _ h4)⟩,qHX (a:=r) (xs:=zs.map V.int) (λk σ Hd=>∃(Af:List (Key×V)) (ks:List Int) (v4:Option V),σ=[some (.ref a),some (.ref t),some (.ref u),some (.int (g:Int)),v4]/\Same H Hd/\Hd u=some (.dK Af)/\KeysI Af ks/\Fnd c Ad ks ((g:Int)+1)/\(g:Int)∈ks/\∀y∈zs.take k,y∈ks)
    ⟨Af,ks,v4,rfl,d,hd,m,by rw[show(g:Int)+1=(c.length:Int)-i by lia];exact v,mw,λy hy=>by simp at hy⟩ (λk σ Hd _ hP=>by obtain⟨_,_,_,_,o,_⟩:=hP;exact SqT.of (o _ _ h4)) ?_ ?_⟩
   ·refineλk x σ Hd hx aa=>opq λao a6=>?_;obtain⟨Af,ks,v4,rfl,o,a2,p,b,a3,ty⟩:=aa;obtain⟨y,ey,rfl⟩:=qB5 hx;refine a6 ?_;have my:=A9 ey;have yb:=rz.in_ y my;have lk:ks.length<=c.length:=qUZ p.nd λx hx=>(b.in_ x hx).1;refine⟨_,rfl,_,rfl,u,_,rfl,DPut.k (k:=G0 y) a2 (qB2 (by rw[p.len];lia)),?_⟩
    refine⟨_,_,_,rfl,qAB o a1,qA1,p.put y _,⟨λx hx=>?_,λx hx=>mem_addI.mpr (.inl (b.ask x hx)),λw1 ys h1 h2 h3 z hz'=>?_⟩,mem_addI.mpr (.inl a3),λz hz'=>?_⟩
    ·rcases mem_addI.mp hx with hx|hx
     ·exact b.in_ x hx
     ·rw[hx];exact⟨⟨yb.1,by lia⟩,.need (b.in_ _ a3).2 (by rw[E4];exact hz) my⟩
    ·rcases mem_addI.mp h2 with h2|h2
     ·exact mem_addI.mpr (.inl (b.clo w1 ys h1 h2 h3 z hz'))
     ·lia
    ·rw[C8,ey,C9,A8,A6] at hz';rcases hz' with hz'|hz'
     ·exact mem_addI.mpr (.inl (ty z hz'))
     ·exact mem_addI.mpr (.inr hz')
   ·refineλσ Hd a5=>opq λap ac=>?_;obtain⟨Af,ks,v4,rfl,o,a2,p,b,a3,ty⟩:=a5;refine ac ?_;rw[A0,qC0 rfl] at ty;refine⟨Af,ks,_,_,rfl,o,a2,p,b.in_,b.ask,λw1 ys h1 h2 h9=>?_⟩;by_cases e:w1=g
    ·subst e;rw[hz] at h9;cases h9;exact ty
    ·exact b.clo w1 ys (by lia) h2 h9
  ·rw[decide_eq_false mw];refine⟨Af,ks,_,_,rfl,d,hd,m,v.in_,v.ask,λw1 ys h1 h2 h3=>?_⟩;by_cases e:w1=g
   ·subst e;exact absurd h2 mw
   ·exact v.clo w1 ys (by lia) h2 h3
 ·refineλσ Hc a8=>opq λal af=>?_;obtain⟨Af,ks,v3,v4,rfl,d,hd,m,v⟩:=a8;refine af ?_;rw[a0,show((c.length:Int)-(((c.length:Int)-1 - -1).toNat:Nat))=0 by lia] at v
  have as:ks.length<=c.length:=qUZ m.nd λx hx=>(v.in_ x hx).1;refine⟨_,rfl,u,ks,rfl,.inr (.inr ⟨Af,hd,m.keys⟩),λl zs hl hp hs=>?_⟩;have s1:=qA2 hl (.lst (zs.map V.int));refine q l zs _ (d.trans s1) (d.free hl) qA1 ⟨⟨qFB hs (hp.nodup_iff.mpr m.nd),λx hx=>(v.in_ x (hp.mem_iff.mp hx)).1⟩,λx=>?_⟩;rw[hp.mem_iff];exact v.all wf x
theorem qM9:FnScope ["needs","numbers"] ["needs","numbers"] (qAA qDR):=qBK
theorem ok_renumbered (F:Fun K "renumbered" "renumbered" qDR f fd) (a0:mg "tuple" = none):FnOk P w K mg base CX0 1 f fd ["needs","numbers"] qc4:=by
 refine F.okA qM9 λa2 A u s H vs Q E hr h=>?_;obtain⟨r,d,zs,Af,c,rfl,hR,z,hd,hv,q⟩:=h;have hu:=qG7 hr;refine⟨_,(qA5 (qAE (qAD qAH rfl a0 qAP (qA0 (qCJ rfl (lcs (own:=["need"]) (fv:=[1]) (by kernel_rfl)) (qC7 (pv 0)) (λz1=>qBN 0) (λz1=>(qDJ (qC6 (qUR hu (pv 0) (pv 1))))) (λz1=>(qDK hu (pv 1) (pv 0) (λ_ _=>rfl)))) qA3)))),?_⟩
 try dsimp only[Cx.nox,Cx.wish,cxOf]
 refine⟨_,rfl,r,rfl,⟨_,SqT.of hR⟩,λp hp=>?_⟩;refine qCN (p:=p) (a:=r) (xs:=zs.map V.int) (λi σ t=>∃(v0:Option V),σ=[v0,some (.ref d)]/\Same H t/\t p=some (.lst (((zs.take i).filterMap c).map V.int))) ?_ ?_ ?_ ?_
 ·exact⟨none,rfl,qA2 hp _,qA1⟩
 ·rintro i σ t hi ⟨v0,rfl,sm,_⟩;exact SqT.of (sm _ _ hR)
 ·refineλi x σ t hx m=>opq λa1 g=>?_;obtain⟨v0,rfl,sm,b⟩:=m;obtain⟨y,ey,rfl⟩:=qB5 hx;refine g ?_;have lt:=(A3.mp ey).1;have j:=DGet.k (k:=G0 y) (sm _ _ hd);have lk:((zs.take i).filterMap c).length<=i:=F5 (G7 _ _) (by rw[C5];lia)
  refine⟨_,rfl,_,rfl,d,_,rfl,j,_,rfl,?_⟩;rw[C8,ey,C9,U9,K0,List.filterMap_nil];rw[hv] at j ⊢;cases e:c y with
  |none=>
   rw[e] at j;refine⟨_,rfl,sm,?_⟩;simpa using b
  |some n=>
   rw[e] at j;refine⟨_,rfl,_,rfl,d,_,rfl,j,_,b,qAG (by rw[A0];lia),_,rfl,qAB sm hp,?_⟩
   rw[qA1,B1]
   rfl
 ·refineλσ t l=>opq λa3 o=>?_;obtain⟨v0,rfl,sm,b⟩:=l;refine o ?_;rw[A0,qC0 rfl] at b;refine⟨p,_,rfl,.inl ⟨SqL.of b,λr' v=>?_⟩⟩;exact q r' _ (sm.trans (qA2 v _)) qA1
theorem sc_part_net:FnScope ["net","works","numbers","number","work"] ["net","works"] (qAA qFQ):=qBK
theorem ok_part_net (F:Fun K "part_net" "part_net" qFQ f fd) (ad:Clb P w K mg base 1 qFH qMV "renumbered" ["needs","numbers"] qc4)
  (a9:mg "enumerate" = none) (ag:mg "tuple" = none):FnOk P w K mg base CX0 2 f fd ["net","works"] qM5:=by
 refine F.okA sc_part_net λak A ab s H vs Q E hr h=>?_;obtain⟨a,t,Ae,g,rfl,hN,wf,ae,hT,l,q⟩:=h;have hu:=qG7 hr;have ai:Room 1 _:=hr;have lw:=l.len;refine⟨_,(qA4 (qAJ (i:=2) sc_part_net.nd rfl (A05 rfl) qML) (qA4 (qBT D7 rfl (qXU rfl a9 qIG (qA0 (pv 1) qA3)) (qL9 rfl (qBV (qAR (i:=3) sc_part_net.nd rfl (E8 rfl)) (qBV (qAR (i:=4) sc_part_net.nd rfl (E8 rfl)) qGC))) (qA5 (qEN hu (pv 2) (pv 4) (pv 3) rfl))) (qA5 (qAE (qAD qAH rfl ag qAP (qA0 (qCJ rfl (lcs (own:=["work"]) (fv:=[0,2]) (by kernel_rfl)) (qC7 (pv 1)) (λz2=>qBN 0) (λz2=>qB0) (λz2=>(qAT ad hr rfl (qA0 (qB9 (qHV (K:=K) rfl) (pv 1) (pv 0) (λ_ _=>rfl)) (qA0 (pv 2) qA3))))) qA3)))))),?_⟩
 try dsimp only[Cx.nox,Cx.wish,cxOf]
 obtain⟨rs,hA,NL⟩:=id hN;refineλdn a5=>?_;have sn:=qA2 a5 (.dK []);refine⟨_,rfl,t,rfl,⟨_,.inl (Rd.same hT sn)⟩,qVY (a:=t) (xs:=g.map V.int) (λi σ n=>∃(Af:List (Key×V)) (v3 v4:Option V),σ=[some (.ref a),some (.ref t),some (.ref dn),v3,v4]/\Same H n/\n dn=some (.dK Af)/\Af.length<=i/\∀x,valV Af (G0 x)=(qCE (g.take i) x).map V.int)
  ⟨[],none,none,rfl,sn,qA1,A7 _,λx=>by simp[qCE,valV]⟩ (λi σ n _ ⟨_,_,_,_,sm,_⟩=>.inl (Rd.same hT sm)) ?_ ?_⟩
 ·refineλi x σ n T hx a7 aa=>opq λan a2=>?_;obtain⟨Af,v3,v4,rfl,sm,hd,lk,hv⟩:=a7;obtain⟨y,m,rfl⟩:=qB5 hx;refine a2 ?_;have lt:=(A3.mp m).1;have sT:=qA2 aa (.tup [.int (i:Int),.int y]);refine⟨T,_,rfl,SqT.of qA1,rfl,_,_,rfl,_,_,rfl,rfl,?_⟩;refine⟨_,rfl,_,rfl,_,rfl,dn,_,rfl,DPut.k (k:=G0 y) (sT _ _ hd) (qB2 (by lia)),?_⟩
  refine⟨_,_,_,rfl,qAB (sm.trans sT) a5,qA1,F5 (qCR _ _ _) (by lia),λx=>?_⟩
  rw[qIU,qSU l.nodup m x];by_cases e:x=y
  ·rw[e,if_pos rfl,if_pos rfl]
   rfl
  ·rw[if_neg e,if_neg λz=>e (p8 z)];exact hv x
 refineλσ n a0=>opq λah a4=>?_;obtain⟨Af,v3,v4,rfl,sm,hd,lk,hv⟩:=a0;refine a4 ?_;rw[A0,qC0 rfl] at hv;refine⟨_,rfl,t,rfl,⟨_,.inl (Rd.same hT sm)⟩,λp hp=>?_⟩;refine qCN (p:=p) (a:=t) (xs:=g.map V.int) (λi σ o=>∃(v0:Option V) (ss:List Addr),σ=[v0,some (.ref a),some (.ref dn)]/\Same n o/\o p=some (.lst (ss.map V.ref))/\NetL o ss ((qBR Ae g).take i)) ?_ ?_ ?_ ?_
 ·exact⟨none,[],rfl,qA2 hp _,qA1,by rw[List.take_zero];exact .nil⟩
 ·refineλi σ o hi a3=>opq λaj v=>?_;obtain⟨v0,ss,rfl,c,_⟩:=a3;refine v ?_;exact .inl (Rd.same (Rd.same hT sm) c)
 ·refineλi x σ o hx a6=>opq λam u=>?_;obtain⟨v0,ss,rfl,c,j,N2⟩:=a6;obtain⟨y,m,rfl⟩:=qB5 hx;refine u ?_;have lt:=(A3.mp m).1;have yb:=l.in_ y (A9 m);have s3:=sm.trans c;have hy:y.toNat<Ae.length:=by lia
  obtain⟨r,h3,h4⟩:=NL.get (A4 hy);have lz:=(wf y.toNat _ (A4 hy)).len;refine⟨_,rfl,_,rfl,a,_,_,_,rfl,rfl,SqT.of (s3 _ _ hA),qIC yb.1 (by rw[B9,h3];rfl),_,rfl,r,dn,_,Af,qCE g,rfl,s3 _ _ h4,by lia,c _ _ hd,hv,λr' H' d ac=>?_⟩
  have g1:=d _ _ j;have af:ss.length=((qBR Ae g).take i).length:=C1 N2;refine⟨_,g1,qAG (by rw[A0,af,C5,qBL];lia),?_⟩
  rw[qB6];refine⟨_,ss++[r'],rfl,qAB (c.trans d) hp,qA1,?_⟩;rw[C8,qGX m,A4 hy];exact qDU (qCW (N2.same λr' ys e=>d _ _ e) ac) g1
 ·refineλσ o a1=>opq λal a8=>?_;obtain⟨v0,ss,rfl,c,j,N2⟩:=a1;refine a8 ?_;rw[A0,qC0 (qBL Ae g)] at N2;refine⟨p,_,rfl,.inl ⟨SqL.of j,λb hb=>?_⟩⟩;have s1:=qA2 hb (.tup (ss.map V.ref));exact q b _ ((sm.trans c).trans s1) ⟨ss,qA1,N2.same λr ys e=>s1 _ _ e⟩
theorem sc_fault_of_do:FnScope ["net","rooms","stand","work","there","result","need"] ["net","rooms","stand","work"] (qAA qDB):=qBK
theorem ok_fault_of_do (F:Fun K "fault_of_do" "fault_of_do" qDB f fd) (qBE:mg "len" = none):FnOk P w K mg base CX0 1 f fd ["net","rooms","stand","work"] qNU:=by
 refine F.okA sc_fault_of_do λaf A a8 s H vs Q E hr h=>?_;obtain⟨a,so,Ae,c,ns,m,j,rfl,hN,n,ae,ab,a9,q⟩:=h;have hu:=qG7 hr;refine⟨_,(qA4 (qAJ (i:=4) sc_fault_of_do.nd rfl (E8 rfl) qML) (qA4 (qBT D7 rfl (qC7 (pv 2)) (qAR (i:=5) sc_fault_of_do.nd rfl (E8 rfl)) (qA5 (qEN hu (pv 4) (pv 5) qCF rfl))) (qA4 (qBF (qC6 (qUR hu (pv 3) (pv 4))) (qA5 (qAE qBO)) qAL) (qA4 (qBT D7 rfl (qC7 (qB9 qBI (pv 0) (pv 3) (λ_ _=>rfl))) (qAR (i:=6) sc_fault_of_do.nd rfl (E8 rfl)) (qA5 (qBF (qC6 (qD3 hu (pv 6) (pv 4))) (qA5 (qAE qBO)) qAL))) (qA4 (qBF (qAN qY0 (qA8 qAC rfl qBE qBJ (qA0 (pv 2) qA3)) (pv 1) (qAY _)) (qA5 (qAE qBO)) qAL) (qA5 (qAE qF8))))))),?_⟩
 try dsimp only[Cx.nox,Cx.wish,cxOf]
 refineλp hp=>?_;have s0:=qA2 hp (.dK []);refine⟨_,rfl,so,rfl,⟨_,SqT.of (s0 _ _ n)⟩,qHX (a:=so) (xs:=c.map V.int) (λi σ Hc=>∃(Af:List (Key×V)) (v:Option V),σ=[some (.ref a),some (.int m),some (.ref so),some (.int j),some (.ref p),v,none]/\Same H Hc/\Hc p=some (.dK Af)/\Af.length<=i/\∀x:Int,(valV Af (G0 x)).isSome=true↔x∈c.take i)
  ⟨[],none,rfl,s0,qA1,A7 _,λx=>by simp[valV]⟩ (λi σ Hc _ hP=>by obtain⟨_,_,_,g,_⟩:=hP;exact SqT.of (g _ _ n)) ?_ ?_⟩
 ·refineλi x σ Hc l a1=>opq λai a4=>?_;obtain⟨Af,v,rfl,g,hd,lk,t⟩:=a1;refine a4 ?_;rw[B9] at l;cases ez:c[i]? with
  |none=>rw[ez] at l;cases l
  |some z=>
   rw[ez] at l;cases l;have ac:i<c.length:=(A3.mp ez).1;refine⟨_,rfl,_,rfl,p,_,rfl,DPut.k (k:=G0 z) hd (qAG (by lia)),?_⟩
   refine⟨putK Af (G0 z) (.bl true),_,rfl,λb o e=>?_,qA1,F5 (qCR _ _ _) (by lia),λy=>?_⟩
   ·rw[qA9 (qA6 e hp)];exact g b o e
   ·rw[qIU,C8,ez,C9,A8,A6];by_cases u:y=z
    ·subst u;simp
    ·have:¬(G0 y:Key)=G0 z:=λq=>u (p8 q);rw[if_neg this,t y];simp[u]
 ·refineλσ Hc a3=>opq λad a0=>?_;obtain⟨Af,v,rfl,g,hd,lk,t⟩:=a3;refine a0 ?_;rw[A0,D0 (A7 _)] at t;obtain⟨rs,r,h1,l1,h2,h3⟩:=hN.get a9;refine⟨_,rfl,_,rfl,p,_,rfl,DGet.k (k:=G0 j) hd,_,rfl,?_⟩;refine ite2 (λck=>?_) (λck=>?_)
  ·have hw:=(t j).mp ck;have e:qD7 ns c m j=.str "there":=by unfold qD7;rw[if_pos hw]
   have:=q Hc g;rw[e] at this;exact this
  ·have hw:¬j∈c:=λz=>ck ((t j).mpr z);refine⟨_,rfl,_,rfl,a,_,_,_,rfl,rfl,SqT.of (g _ _ h1),qIC ab h2,r,rfl,⟨_,SqT.of (g _ _ h3)⟩,qHX (a:=r) (xs:=ns.map V.int) (λi σ Hd=>∃(v6:Option V),σ=[some (.ref a),some (.int m),some (.ref so),some (.int j),some (.ref p),v,v6]/\Hd=Hc/\∀x∈ns.take i,x∈c)
    ⟨none,rfl,rfl,λx l=>by simp at l⟩ (λi σ Hd _ ⟨_,_,e,_⟩=>by rw[e];exact SqT.of (g _ _ h3)) ?_ ?_⟩
   ·refineλi x σ Hd l a7=>opq λah a6=>?_;obtain⟨v6,rfl,rfl,mm⟩:=a7;obtain⟨z,ez,rfl⟩:=qB5 l;refine a6 ?_;refine⟨_,rfl,_,rfl,p,_,rfl,DGet.k (k:=G0 z) hd,_,rfl,?_⟩;refine ite2 (λcz=>?_) (λcz=>?_)
    ·have hz:¬z∈c:=λzz=>by rw[(t z).mpr zz] at cz;cases cz
     have e:qD7 ns c m j=.str "needs":=by
      unfold qD7;rw[if_neg hw,if_neg λaa=>hz (aa z (A9 ez))]
     have:=q Hd g;rw[e] at this;exact this
    ·have hz:z∈c:=by
      apply(t z).mp;cases hv:(valV Af (G0 z:Key)).isSome with
      |true=>rfl
      |false=>rw[hv] at cz;exact absurd rfl cz
     refine⟨_,rfl,rfl,λy hy=>?_⟩;rw[C8,ez,C9,A8,A6] at hy;rcases hy with hy|rfl
     ·exact mm y hy
     ·exact hz
   ·refineλσ Hd a5=>opq λag a2=>?_;obtain⟨v6,rfl,rfl,mm⟩:=a5;refine a2 ?_;rw[A0,D0 (A7 _)] at mm;refine⟨_,rfl,so,_,rfl,.inr (SqT.of (g _ _ n)),_,rfl,_,_,rfl,rfl,_,rfl,?_⟩;have q':=q Hd g;have e0:qD7 ns c m j=if m<=(c.length:Int) then .str "full" else .non:=by
     unfold qD7;rw[if_neg hw,if_pos mm]
    rw[e0] at q';refine ite2 (λcf=>?_) (λcf=>?_)
    ·have d:m<=(((c.map V.int).length:Nat):Int):=of_decide_eq_true cf;rw[A0] at d;rw[if_pos d] at q';exact q'
    ·have d:¬m<=(((c.map V.int).length:Nat):Int):=of_decide_eq_false (F7.mpr cf);rw[A0] at d;rw[if_neg d] at q';exact q'
theorem qPL:FnScope ["net","rooms","stand","move"] ["net","rooms","stand","move"] (qAA qFU):=qBK
theorem ok_fault_of (F:Fun K "fault_of" "fault_of" qFU f fd) (j:Clb P w K mg base 1 qEU qKV "fault_of_do" ["net","rooms","stand","work"] qNU):
  FnOk P w K mg base CX0 2 f fd ["net","rooms","stand","move"] qJG:=by
 refine F.okA qPL λa0 A i s H vs Q E t h=>?_;obtain⟨a,u,m,Ae,v,y,Aa,z,x,rfl,hN,d,k,c,r,n,l,a2,q⟩:=h;have a1:Room 1 _:=t;refine⟨_,(qA4 (qBF (qAN qHQ (qB9 qBI (pv 3) qA7 (λ_ _=>rfl)) qBO (qAY _)) (qA5 (qAE (qAT j t rfl (qA0 (pv 0) (qA0 (pv 1) (qA0 (pv 2) (qA0 (qB9 qBI (pv 3) qA7 (λ_ _=>rfl)) qA3))))))) qAL) (qA4 (qBF (qAN qGY (qB9 qBI (pv 3) qA7 (λ_ _=>rfl)) (pv 2) (by with_unfolding_all rfl)) (qA5 (qAE qF8)) qAL) (qA5 (qAE qBO)))),?_⟩
 try dsimp only[Cx.nox,Cx.wish,cxOf]
 refine⟨_,rfl,m,_,_,_,rfl,rfl,SqT.of c,rfl,rfl,_,rfl,?_⟩;refine ite2 (λp=>?_) (λp=>?_)
 ·have g:x = "do":=V.str.inj (of_decide_eq_true p)
  refine⟨_,rfl,_,rfl,_,rfl,_,rfl,m,_,_,_,rfl,rfl,SqT.of c,rfl,a,u,Ae,v,y,Aa,z,rfl,hN,d,k,n,l,λH' sm=>?_⟩;have b:=q H' sm;unfold qCH at b;rw[if_pos g] at b;exact b
 ·have g:¬x = "do":=λe=>(of_decide_eq_false (F7.mpr p)) (congrArg V.str e)
  have b:=q H (Same.refl H);unfold qCH qD2 at b;rw[if_neg g] at b;refine⟨_,rfl,m,_,_,_,rfl,rfl,SqT.of c,rfl,_,rfl,u,_,rfl,.inr (SqT.of d),rfl,qBZ v,_,rfl,?_⟩;rw[qDN];refine ite2 (λo=>?_) (λo=>?_)
  ·rw[if_pos (of_decide_eq_true o)] at b;exact b
  ·rw[if_neg (of_decide_eq_false (F7.mpr o))] at b;exact b
theorem qSP:FnScope ["_law_stand","_law_move"] ["_law_stand","_law_move"] (qAA qGT):=qBK
theorem ok_Lbehind (F:Fun K "_law_behind" "_law_behind" qGT f fd) (a6:mg "sorted" = none) (a4:mg "tuple" = none):FnOk P w K mg base CX0 1 f fd ["_law_stand","_law_move"] qE7:=by
 refine F.okA qSP λa8 A a5 s H vs Q E m h=>?_;obtain⟨so,mv,d,Ac,c,rfl,n,lst,t,o,q⟩:=h;refine⟨_,(qA4 (qBF (qAN qHQ (qB9 qBI (pv 1) qA7 (λ_ _=>rfl)) qBO (qAY _)) (qA5 (qAE (qAD qAH rfl a4 qAP (qA0 (qA8 (qFL rfl) rfl a6 qCL (qA0 (qAU qUV (pv 0) (qBY (qA0 (qB9 qBI (pv 1) qA7 (λ_ _=>rfl)) qA3))) qA3)) qA3)))) qAL) (qA5 (qAE (qAD qAH rfl a4 qAP (qA0 (qCJ rfl (lcs (own:=["_law_work"]) (fv:=[1]) (by kernel_rfl)) (qC7 (pv 0)) (λz1=>qBN 0) (λz1=>(qDJ (qAN qXX (pv 0) (qB9 (qHV (K:=K) rfl) (pv 1) qA7 (λ_ _=>rfl)) (qAY _)))) (λz1=>(pv 0))) qA3))))),?_⟩
 try dsimp only[Cx.nox,Cx.wish,cxOf]
 refine⟨_,rfl,mv,_,_,_,rfl,rfl,SqT.of t,rfl,rfl,_,rfl,?_⟩;refine ite2 (λck=>?_) (λck=>?_)
 ·have hd:Ac = "do":=V.str.inj (of_decide_eq_true ck)
  refine⟨_,rfl,_,rfl,mv,_,_,_,rfl,rfl,SqT.of t,rfl,(by show 1<=B64;decide),λT hT=>?_⟩
  have sT:=qA2 hT (.tup [.int c]);have a0:∀(p:Addr) (H1:Hp),Same H H1->H1 p=some (.tup ((d++[c]).map V.int))->∀(b:Addr) (zs:List Int),H1 b=none->zs.Perm (d++[c])->zs.Pairwise (·<=·)->∀r,(Ag H1 b (.lst (zs.map V.int))) r=none->Q (.ref r) (Ag (Ag H1 b (.lst (zs.map V.int))) r (.tup (zs.map V.int))):=by
   intro p H1 s1 hp b zs hb j hs r m;refine q r zs _ (s1.trans ((qA2 hb _).trans (qA2 m _))) qA1 ⟨λ_=>⟨j,hs⟩,λz=>?_⟩;rw[hd] at z;exact absurd z.symm qAF
  refine⟨so,T,d.map V.int,[.int c],rfl,rfl,SqT.of (sT _ _ n),SqT.of qA1,by simp,U5 (qB2 (by rw[A0,B8];lia)),λz=>?_,λz p hp=>?_⟩
  ·have e:d=[]:=A70.mp z;have g:(Ag H T (.tup [.int c])) T=some (.tup ((d++[c]).map V.int)):=by rw[qA1,e];rfl
   exact⟨T,d++[c],rfl,.inr (.inl (SqT.of g)),λb zs hb j hs=>⟨b,_,rfl,.inl ⟨SqL.of qA1,λr m=>a0 T _ sT g b zs hb j hs r m⟩⟩⟩
  ·have g:(Ag (Ag H T (.tup [.int c])) p (.tup (d.map V.int++[.int c]))) p=some (.tup ((d++[c]).map V.int)):=by rw[qA1,B1];rfl
   exact⟨p,d++[c],rfl,.inr (.inl (SqT.of g)),λb zs hb j hs=>⟨b,_,rfl,.inl ⟨SqL.of qA1,λr m=>a0 p _ (sT.trans (qA2 hp _)) g b zs hb j hs r m⟩⟩⟩
 ·have hd:Ac = "clear":=o.resolve_left λe=>(of_decide_eq_false (F7.mpr ck)) (congrArg V.str e);refine⟨_,rfl,so,rfl,⟨_,SqT.of n⟩,λp hp=>?_⟩;refine qCN (p:=p) (a:=so) (xs:=d.map V.int) (λi σ Hc=>∃(v:Option V),σ=[v,some (.ref mv)]/\Same H Hc/\Hc p=some (.lst (((d.take i).filter λx=>decide (x≠c)).map V.int))) ?_ ?_ ?_ ?_
  ·exact⟨none,rfl,qA2 hp _,qA1⟩
  ·rintro i σ Hc hi ⟨v,rfl,sm,_⟩;exact SqT.of (sm _ _ n)
  ·refineλi x σ Hc hx a2=>opq λa7 u=>?_;obtain⟨v,rfl,sm,k⟩:=a2;obtain⟨y,ey,rfl⟩:=qB5 hx;refine u ?_;have hi:=(A3.mp ey).1;have lk:=qDP (p:=λx=>decide (x≠c)) (l:=d) (i:=i);refine⟨_,rfl,_,rfl,mv,_,_,_,rfl,rfl,SqT.of (sm _ _ t),rfl,rfl,_,rfl,?_⟩;rw[qER ey];by_cases e:y=c
   ·rw[decide_eq_true (show V.int y=V.int c by rw[e]),decide_eq_false (show¬y≠c fromλz=>z e)]
    refine⟨_,rfl,sm,?_⟩;simpa using k
   ·rw[decide_eq_false (show¬V.int y=V.int c fromλz=>e (V.int.inj z)),decide_eq_true (show y≠c from e)];refine⟨_,rfl,_,k,qAG (by rw[A0];lia),_,rfl,qAB sm hp,?_⟩
    rw[qA1,if_pos rfl,B1]
    rfl
  ·refineλσ Hc a1=>opq λa9 a3=>?_;obtain⟨v,rfl,sm,k⟩:=a1;refine a3 ?_;rw[A0,qC0 rfl] at k;refine⟨p,_,rfl,.inl ⟨SqL.of k,λr m=>?_⟩⟩;refine q r _ _ (sm.trans (qA2 m _)) qA1 ⟨λz=>?_,λ_=>rfl⟩;rw[hd] at z;exact absurd z qAF
theorem qJI:FnScope ["stand","move"] ["stand","move"] (qAA qCT):=qBK
theorem ok_stand_behind (F:Fun K "stand_behind" "stand_behind" qCT f fd) (a6:mg "sorted" = none) (a4:mg "tuple" = none):FnOk P w K mg base CX0 1 f fd ["stand","move"] qE7:=by
 refine F.okA qJI λa9 A a5 s H vs Q E m h=>?_;obtain⟨so,mv,d,Ac,c,rfl,n,lst,t,o,q⟩:=h;refine⟨_,(qA4 (qBF (qAN qHQ (qB9 qBI (pv 1) qA7 (λ_ _=>rfl)) qBO (qAY _)) (qA5 (qAE (qAD qAH rfl a4 qAP (qA0 (qA8 (qFL rfl) rfl a6 qCL (qA0 (qAU qUV (pv 0) (qBY (qA0 (qB9 qBI (pv 1) qA7 (λ_ _=>rfl)) qA3))) qA3)) qA3)))) qAL) (qA5 (qAE (qAD qAH rfl a4 qAP (qA0 (qCJ rfl (lcs (own:=["result"]) (fv:=[1]) (by kernel_rfl)) (qC7 (pv 0)) (λz2=>qBN 0) (λz2=>(qDJ (qAN qXX (pv 0) (qB9 (qHV (K:=K) rfl) (pv 1) qA7 (λ_ _=>rfl)) (qAY _)))) (λz2=>(pv 0))) qA3))))),?_⟩
 try dsimp only[Cx.nox,Cx.wish,cxOf]
 refine⟨_,rfl,mv,_,_,_,rfl,rfl,SqT.of t,rfl,rfl,_,rfl,?_⟩;refine ite2 (λck=>?_) (λck=>?_)
 ·have hd:Ac = "do":=V.str.inj (of_decide_eq_true ck)
  refine⟨_,rfl,_,rfl,mv,_,_,_,rfl,rfl,SqT.of t,rfl,(by show 1<=B64;decide),λT hT=>?_⟩
  have sT:=qA2 hT (.tup [.int c]);have a1:∀(p:Addr) (H1:Hp),Same H H1->H1 p=some (.tup ((d++[c]).map V.int))->∀(b:Addr) (zs:List Int),H1 b=none->zs.Perm (d++[c])->zs.Pairwise (·<=·)->∀r,(Ag H1 b (.lst (zs.map V.int))) r=none->Q (.ref r) (Ag (Ag H1 b (.lst (zs.map V.int))) r (.tup (zs.map V.int))):=by
   intro p H1 s1 hp b zs hb j hs r m;refine q r zs _ (s1.trans ((qA2 hb _).trans (qA2 m _))) qA1 ⟨λ_=>⟨j,hs⟩,λz=>?_⟩;rw[hd] at z;exact absurd z.symm qAF
  refine⟨so,T,d.map V.int,[.int c],rfl,rfl,SqT.of (sT _ _ n),SqT.of qA1,by simp,U5 (qB2 (by rw[A0,B8];lia)),λz=>?_,λz p hp=>?_⟩
  ·have e:d=[]:=A70.mp z;have g:(Ag H T (.tup [.int c])) T=some (.tup ((d++[c]).map V.int)):=by rw[qA1,e];rfl
   exact⟨T,d++[c],rfl,.inr (.inl (SqT.of g)),λb zs hb j hs=>⟨b,_,rfl,.inl ⟨SqL.of qA1,λr m=>a1 T _ sT g b zs hb j hs r m⟩⟩⟩
  ·have g:(Ag (Ag H T (.tup [.int c])) p (.tup (d.map V.int++[.int c]))) p=some (.tup ((d++[c]).map V.int)):=by rw[qA1,B1];rfl
   exact⟨p,d++[c],rfl,.inr (.inl (SqT.of g)),λb zs hb j hs=>⟨b,_,rfl,.inl ⟨SqL.of qA1,λr m=>a1 p _ (sT.trans (qA2 hp _)) g b zs hb j hs r m⟩⟩⟩
 ·have hd:Ac = "clear":=o.resolve_left λe=>(of_decide_eq_false (F7.mpr ck)) (congrArg V.str e);refine⟨_,rfl,so,rfl,⟨_,SqT.of n⟩,λp hp=>?_⟩;refine qCN (p:=p) (a:=so) (xs:=d.map V.int) (λi σ Hc=>∃(v:Option V),σ=[v,some (.ref mv)]/\Same H Hc/\Hc p=some (.lst (((d.take i).filter λx=>decide (x≠c)).map V.int))) ?_ ?_ ?_ ?_
  ·exact⟨none,rfl,qA2 hp _,qA1⟩
  ·rintro i σ Hc hi ⟨v,rfl,sm,_⟩;exact SqT.of (sm _ _ n)
  ·refineλi x σ Hc hx a0=>opq λa7 a3=>?_;obtain⟨v,rfl,sm,k⟩:=a0;obtain⟨y,ey,rfl⟩:=qB5 hx;refine a3 ?_;have hi:=(A3.mp ey).1;have lk:=qDP (p:=λx=>decide (x≠c)) (l:=d) (i:=i);refine⟨_,rfl,_,rfl,mv,_,_,_,rfl,rfl,SqT.of (sm _ _ t),rfl,rfl,_,rfl,?_⟩;rw[qER ey];by_cases e:y=c
   ·rw[decide_eq_true (show V.int y=V.int c by rw[e]),decide_eq_false (show¬y≠c fromλz=>z e)]
    refine⟨_,rfl,sm,?_⟩;simpa using k
   ·rw[decide_eq_false (show¬V.int y=V.int c fromλz=>e (V.int.inj z)),decide_eq_true (show y≠c from e)];refine⟨_,rfl,_,k,qAG (by rw[A0];lia),_,rfl,qAB sm hp,?_⟩
    rw[qA1,if_pos rfl,B1]
    rfl
  ·refineλσ Hc a2=>opq λa8 u=>?_;obtain⟨v,rfl,sm,k⟩:=a2;refine u ?_;rw[A0,qC0 rfl] at k;refine⟨p,_,rfl,.inl ⟨SqL.of k,λr m=>?_⟩⟩;refine q r _ _ (sm.trans (qA2 m _)) qA1 ⟨λz=>?_,λ_=>rfl⟩;rw[hd] at z;exact absurd z qAF
theorem sc_moves_of:FnScope ["net","rooms","stand","dos","clears"] ["net","rooms","stand"] (qAA qFR):=qBK
theorem ok_moves_of (F:Fun K "moves_of" "moves_of" qFR f fd) (aj:Clb P w K mg base 2 qI0 qQF "fault_of" ["net","rooms","stand","move"] qJG)
  (qAZ:mg "range" = none) (qBE:mg "len" = none):FnOk P w K mg base CX0 3 f fd ["net","rooms","stand"] qJF:=by
 refine F.okA sc_moves_of λau A ag s H vs Q E hr h=>?_;obtain⟨a,so,b,st,z,rfl,hN,wf,ak,af,lst,q⟩:=h;have aq:Room 2 _:=hr;refine⟨_,(qA4 (qMH (i:=3) sc_moves_of.nd rfl rfl rfl (lcs (own:=["work"]) (fv:=[]) (by kernel_rfl)) (qB7 rfl qAZ (qA0 (qA8 qAC rfl qBE qBJ (qA0 (pv 0) qA3)) qA3)) (λz1=>qBN 0) (λz1=>qB0) (λz1=>(qBY (qA0 qBO (qA0 (pv 0) qA3)))) (by kernel_rfl)) (qA4 (qMH (i:=4) sc_moves_of.nd rfl rfl rfl (lcs (own:=["work"]) (fv:=[]) (by kernel_rfl)) (qB7 rfl qAZ (qA0 (qA8 qAC rfl qBE qBJ (qA0 (pv 0) qA3)) qA3)) (λz2=>qBN 0) (λz2=>qB0) (λz2=>(qBY (qA0 qBO (qA0 (pv 0) qA3)))) (by kernel_rfl)) (qA5 (qAE (qCJ rfl (lcs (own:=["move"]) (fv:=[0,1,2]) (by kernel_rfl)) (qC2 (qAU qOD (pv 3) (pv 4))) (λz3=>qBN 0) (λz3=>(qDJ (qC6 (qO7 (qAT aj hr rfl (qA0 (pv 1) (qA0 (pv 2) (qA0 (pv 3) (qA0 (pv 0) qA3))))))))) (λz3=>(pv 0))))))),?_⟩
 try dsimp only[Cx.nox,Cx.wish,cxOf]
 obtain⟨rs,hA,NL⟩:=id hN;have d:(((rs.map V.ref).length:Nat):Int)=(b.length:Int):=by rw[A0,C1 NL]
 refine⟨_,rfl,a,_,rfl,.inr (SqT.of hA),_,rfl,by rw[d];lia,by rw[d];lia,λp hp=>?_⟩
 refine qDV (p:=p) (lo:=0) (n:=((((rs.map V.ref).length:Nat):Int)).toNat) (λi σ Hc=>∃(v:Option V) (rd:List Addr),σ=[v]/\Same H Hc/\Hc p=some (.lst (rd.map V.ref))/\MovL Hc rd (qIR "do" i)) ?_ ?_ ?_
 ·exact⟨none,[],rfl,qA2 hp _,qA1,.nil⟩
 ·refineλi σ Hc hi a3=>opq λap aa=>?_;obtain⟨v,rd,rfl,sm,r,ML⟩:=a3;refine aa ?_;rw[d] at hi;refine⟨_,rfl,(by show 2<=B64;decide),λmv e=>?_⟩
  have t:=qA2 e (.tup [.str "do",.int (0+(i:Int))])
  have ll:=C1 ML;rw[qFA] at ll;refine⟨_,t _ _ r,qAG (by rw[A0];lia),_,rd++[mv],rfl,qAB (sm.trans t) hp,?_,?_⟩
  ·rw[qA1,qB6]
  ·rw[qLC];exact((ML.same t).snoc qA1).put (t _ _ r)
 ·refineλσ Hc a5=>opq λam ab=>?_;obtain⟨v,rd,rfl,sm,r,ML⟩:=a5;refine ab ?_;rw[show((((rs.map V.ref).length:Nat):Int)).toNat=b.length by rw[d];lia] at ML
  refine⟨_,rfl,a,_,rfl,.inr (SqT.of (sm _ _ hA)),_,rfl,by rw[d];lia,by rw[d];lia,λp2 a7=>?_⟩
  refine qDV (p:=p2) (lo:=0) (n:=((((rs.map V.ref).length:Nat):Int)).toNat) (λi σ u=>∃(v:Option V) (re:List Addr),σ=[v]/\Same Hc u/\u p2=some (.lst (re.map V.ref))/\MovL u re (qIR "clear" i)) ?_ ?_ ?_
  ·exact⟨none,[],rfl,qA2 a7 _,qA1,.nil⟩
  ·refineλi σ u hi ae=>opq λao a9=>?_;obtain⟨v,re,rfl,g,o,ME⟩:=ae;refine a9 ?_;rw[d] at hi;refine⟨_,rfl,(by show 2<=B64;decide),λmv e=>?_⟩
   have t:=qA2 e (.tup [.str "clear",.int (0+(i:Int))]);have ll:=C1 ME;rw[qFA] at ll;refine⟨_,t _ _ o,qAG (by rw[A0];lia),_,re++[mv],rfl,qAB (g.trans t) a7,?_,?_⟩
   ·rw[qA1,qB6]
   ·rw[qLC];exact((ME.same t).snoc qA1).put (t _ _ o)
  ·refineλσ u a8=>opq λas a4=>?_;obtain⟨v,re,rfl,g,o,ME⟩:=a8;refine a4 ?_;rw[show((((rs.map V.ref).length:Nat):Int)).toNat=b.length by rw[d];lia] at ME
   have l1:=C1 ML;have l2:=C1 ME;rw[qFA] at l1 l2;refine⟨_,rfl,_,rfl,p,p2,_,_,rfl,rfl,g _ _ r,o,?_,λl hl=>?_⟩
   ·rw[A0,A0,B77];lia
   have sl:=qA2 hl (.lst (rd.map V.ref++re.map V.ref));have MA:MovL (Ag u l (.lst (rd.map V.ref++re.map V.ref))) (rd++re) (qKX b.length):=((ML.same g).app ME).same sl;have gl:(Ag u l (.lst (rd.map V.ref++re.map V.ref))) l=some (.lst ((rd++re).map V.ref)):=by rw[qA1,B1]
   have k:=(sm.trans g).trans sl;generalize Ag u l (.lst (rd.map V.ref++re.map V.ref))=He at MA gl k ⊢;have lE:(rd++re).length=b.length+b.length:=by rw[B0,l1,l2]
   refine⟨l,rfl,⟨_,SqL.of gl⟩,λp3 a1=>?_⟩;refine qE4 (p:=p3) (a:=l) (xs:=(rd++re).map V.ref) (λi σ y=>∃(v:Option V) (rk:List Addr),σ=[v,some (.ref a),some (.int z),some (.ref so)]/\Same He y/\y p3=some (.lst (rk.map V.ref))/\MovL y rk (((qKX b.length).take i).filter λm=>decide (wd b st z m=.non))) ?_ ?_ ?_ ?_
   ·exact⟨none,[],rfl,qA2 a1 _,qA1,.nil⟩
   ·rintro i σ y hi ⟨v,rk,rfl,sm3,_⟩;exact SqL.of (sm3 _ _ gl)
   ·refineλi x σ y hx a6=>opq λan ac=>?_;obtain⟨v,rk,rfl,sm3,j,MK⟩:=a6;obtain⟨mv,e,rfl⟩:=qC4 hx;refine ac ?_;have hi:i<b.length+b.length:=by rw[<- lE];exact(A3.mp e).1
    obtain⟨m,hm,em⟩:=qAS MA e;obtain⟨hw,m0,m1⟩:=qS1 (A9 hm);have al:m.2.toNat<b.length:=by lia
    have a0:=A4 al;have rz:=wf _ _ a0;have lk:=C1 MK;have ai:=P4 (λm=>decide (wd b st z m=.non)) ((qKX b.length).take i);rw[C5,qOT] at ai;have ah:wd b st z m=qCH b[m.2.toNat] st z m.1 m.2:=by unfold wd;rw[a0];rfl
    refine⟨_,rfl,_,rfl,_,rfl,_,rfl,a,so,mv,b,st,b[m.2.toNat],z,m.2,m.1,rfl,hN.same (k.trans sm3),(k.trans sm3) _ _ af,lst,sm3 _ _ em,hw,m0,a0,?_,λHg c=>⟨_,rfl,?_⟩⟩
    ·have:=rz.len;lia
    rw[<- ah,qER hm];by_cases hd:wd b st z m=.non
    ·rw[hd];refine⟨_,rfl,_,c _ _ j,(by rw[A0,B77];lia),_,rk++[mv],rfl,qAB (sm3.trans c) a1,?_,?_⟩
     ·rw[qA1,qB6]
     ·exact((MK.same c).snoc (c _ _ (sm3 _ _ em))).put (c _ _ j)
    ·rw[decide_eq_false hd];refine⟨_,rk,rfl,sm3.trans c,c _ _ j,?_⟩;simpa using MK.same c
   ·refineλσ y ad=>opq λar a2=>?_;obtain⟨v,rk,rfl,sm3,j,MK⟩:=ad;refine a2 ?_;rw[D0 (by rw[A0,lE,qOT];exact A7 _)] at MK
    exact q p3 rk y (k.trans sm3) (k.free a1) j MK
theorem qSO:FnScope ["results","works"] ["results","works"] (qAA qGR):=qBK
theorem ok_has_all (F:Fun K "has_all" "has_all" qGR f fd) (a1:mg "all" = none):FnOk P w K mg base CX0 1 f fd ["results","works"] qTY:=by
 refine F.okA qSO λa4 A a0 s H vs Q E hr h=>?_;obtain⟨b,a,t,o,y,rfl,a2,hT,l1,q⟩:=h;refine⟨_,(qA5 (qAE (qA8 (qEY rfl) rfl a1 qKL (qA0 (qCJ rfl (lcs (own:=["work"]) (fv:=[0]) (by kernel_rfl)) (qcK (pv 1)) (λz1=>qBN 0) (λz1=>qB0) (λz1=>(qE3 (qIA (K:=K) rfl) (pv 0) (pv 1) (by with_unfolding_all rfl)))) qA3)))),?_⟩
 try dsimp only[Cx.nox,Cx.wish,cxOf]
 refine⟨_,rfl,b,t,rfl,⟨_,sqo hT⟩,λp hp=>?_⟩;refine qcV (b:=b) (p:=p) (a:=t) (xs:=y.map V.int) (λi σ g=>∃(v:Option V),σ=[v,some (.ref a)]/\Same H g/\g p=some (.lst (((y.take i).map λx=>decide (x∈o)).map V.bl))) ?_ ?_ ?_ ?_
 ·exact⟨none,rfl,qA2 hp _,qA1⟩
 ·refineλi σ g hi k=>opq λa6 n=>?_;obtain⟨v,rfl,d,_⟩:=k;refine n ?_;exact sqo (hT.same d)
 ·refineλi x σ g hx m=>opq λa3 j=>?_;obtain⟨v,rfl,d,c⟩:=m;obtain⟨z,ez,rfl⟩:=qB5 hx;refine j ?_;have hi:=(A3.mp ez).1;refine⟨_,rfl,_,rfl,a,_,rfl,.inr (SqT.of (d _ _ a2)),rfl,qBZ o,_,c,qAG (by rw[A0,A0,C5];lia),_,rfl,qAB d hp,?_⟩
  rw[qA1];refine congrArg (λl=>some (HO.lst l)) ?_;rw[C8,ez,C9,B1,B1];show _++[V.bl (inV (.int z) (o.map V.int))]=_;rw[qDN]
  rfl
 ·refineλσ g u=>opq λa5 r=>?_;obtain⟨v,rfl,d,c⟩:=u;refine r ?_;rw[A0,D0 (A7 _)] at c;refine⟨p,_,rfl,SqL.of c,?_⟩;have e:((y.map λx=>decide (x∈o)).all id)=decide (∀x∈y,x∈o):=by
   rw[L7,decide_eq_true_eq];exact all_in
  rw[e];exact q g d
theorem qXG:FnScope ["_law_net_here","_law_rooms","_law_stand","_law_move"] ["_law_net_here","_law_rooms","_law_stand","_law_move"] (qAA qMA):=qBK
theorem ok_Lword (F:Fun K "_law_word" "_law_word" qMA f fd) (qBE:mg "len" = none) (a4:mg "all" = none):FnOk P w K mg base CX0 1 f fd ["_law_net_here","_law_rooms","_law_stand","_law_move"] qJG:=by
 refine F.okA qXG λa8 A a3 s H vs Q E hr h=>?_;obtain⟨a,so,mv,Ae,d,t,Aa,wk,Ac,rfl,hN,g,lst,m,o,a6,a5,aa,q⟩:=h;refine⟨_,(qA4 (qBF (qAN qHQ (qB9 qBI (pv 3) qA7 (λ_ _=>rfl)) qBO (qAY _)) (qA5 (qAE (qEO (qAN qGY (qB9 qBI (pv 3) qA7 (λ_ _=>rfl)) (pv 2) (by with_unfolding_all rfl)) qF8 qBO))) qAL) (qA4 (qBF (qAN qGY (qB9 qBI (pv 3) qA7 (λ_ _=>rfl)) (pv 2) (by with_unfolding_all rfl)) (qA5 (qAE qBO)) qAL) (qA4 (qBF (qCM (qCC (qA8 (qEY rfl) rfl a4 qKL (qA0 (qCJ rfl (lcs (own:=["_law_need"]) (fv:=[2]) (by kernel_rfl)) (qC7 (qB9 qBI (pv 0) (qB9 qBI (pv 3) qA7 (λ_ _=>rfl)) (λ_ _=>rfl))) (λz1=>qBN 0) (λz1=>qB0) (λz1=>(qE3 (qIA (K:=K) rfl) (pv 0) (pv 1) (by with_unfolding_all rfl)))) qA3)))) (qA5 (qAE qBO)) qAL) (qA5 (qAE (qEO (qAN qY0 (qA8 qAC rfl qBE qBJ (qA0 (pv 2) qA3)) (pv 1) (qAY _)) qBO qF8)))))),?_⟩
 try dsimp only[Cx.nox,Cx.wish,cxOf]
 refine⟨_,rfl,mv,_,_,_,rfl,rfl,SqT.of m,rfl,rfl,_,rfl,?_⟩;refine ite2 (λck=>?_) (λck=>?_)
 ·have hd:Ac = "clear":=V.str.inj (of_decide_eq_true ck);have b:=q H (Same.refl H);unfold qCH qD2 at b;rw[if_neg (by rw[hd];exact qAF)] at b
  refine⟨_,rfl,mv,_,_,_,rfl,rfl,SqT.of m,rfl,_,rfl,so,_,rfl,.inr (SqT.of g),rfl,qBZ d,_,rfl,?_⟩;rw[qDN];refine ite2 (λn=>?_) (λn=>?_)
  ·rw[if_pos (of_decide_eq_true n)] at b;exact b
  ·rw[if_neg (of_decide_eq_false (F7.mpr n))] at b;exact b
 ·have hd:Ac = "do":=o.resolve_right λe=>(of_decide_eq_false (F7.mpr ck)) (congrArg V.str e)
  have q1:∀H',Same H H'->Q (qD7 t d Aa wk) H':=λH' k=>by
   have b:=q H' k;unfold qCH at b;rw[if_pos hd] at b;exact b
  refine⟨_,rfl,mv,_,_,_,rfl,rfl,SqT.of m,rfl,_,rfl,so,_,rfl,.inr (SqT.of g),rfl,qBZ d,_,rfl,?_⟩;rw[qDN];refine ite2 (λn=>?_) (λn=>?_)
  ·have b:=q1 H (Same.refl H);unfold qD7 at b;rw[if_pos (of_decide_eq_true n)] at b;exact b
  ·have hw:¬wk∈d:=of_decide_eq_false (F7.mpr n);obtain⟨rs,r,h1,l1,h2,h3⟩:=hN.get a5;refine⟨_,rfl,_,rfl,mv,_,_,_,rfl,rfl,SqT.of m,rfl,a,_,_,_,rfl,rfl,SqT.of h1,qIC a6 h2,r,rfl,⟨_,SqT.of h3⟩,λp hp=>?_⟩;refine qCN (p:=p) (a:=r) (xs:=t.map V.int) (λi σ u=>∃(v:Option V),σ=[v,some (.ref so)]/\Same H u/\u p=some (.lst (((t.take i).map λx=>decide (x∈d)).map V.bl))) ?_ ?_ ?_ ?_
   ·exact⟨none,rfl,qA2 hp _,qA1⟩
   ·rintro i σ u hi ⟨v,rfl,k,_⟩;exact SqT.of (k _ _ h3)
   ·refineλi x σ u hx a0=>opq λa7 y=>?_;obtain⟨v,rfl,k,j⟩:=a0;obtain⟨z,ez,rfl⟩:=qB5 hx;refine y ?_;have hi:i<t.length:=(A3.mp ez).1;refine⟨_,rfl,_,rfl,so,_,rfl,.inr (SqT.of (k _ _ g)),rfl,qBZ d,_,j,qAG (by rw[A0,A0,C5];lia),_,rfl,qAB k hp,?_⟩
    rw[qA1];refine congrArg (λl=>some (HO.lst l)) ?_;rw[<- qM1 ez];show _++[V.bl (inV (.int z) (d.map V.int))]=_;rw[qDN]
   ·refineλσ u a2=>opq λa9 a1=>?_;obtain⟨v,rfl,k,j⟩:=a2;refine a1 ?_;rw[A0,D0 (A7 _)] at j;refine⟨p,_,rfl,SqL.of j,_,rfl,?_⟩;have b:=q1 u k;unfold qD7 at b;rw[if_neg hw] at b;cases hall:(t.map λx=>decide (x∈d)).all id with
    |false=>
     have na:¬ ∀x∈t,x∈d:=λz=>by rw[all_in.mpr z] at hall;cases hall
     rw[if_neg na] at b;exact b
    |true=>
     rw[if_pos (all_in.mp hall)] at b;refine⟨_,rfl,so,_,rfl,.inr (SqT.of (k _ _ g)),_,rfl,_,_,rfl,rfl,_,rfl,?_⟩;refine ite2 (λcf=>?_) (λcf=>?_)
     ·have c:Aa<=(((d.map V.int).length:Nat):Int):=of_decide_eq_true cf;rw[A0] at c;rw[if_pos c] at b;exact b
     ·have c:¬Aa<=(((d.map V.int).length:Nat):Int):=of_decide_eq_false (F7.mpr cf);rw[A0] at c;rw[if_neg c] at b;exact b
theorem qaB {j:Int}(a:0<=j)(b:j<=1000):CPow 1 j:=⟨a,by lia,by decide⟩
theorem qU9 {n:Nat}(h:n<=12):2^n<=4096:=by
 have:=L6 (show 0<2 by decide) h
 simpa using this
theorem sc_Lcome:FnScope ["_law_net_here","_law_rooms","_law_needs","_law_found","_law_layer","_law_many","_law_cleared","_law_at","_law_work","_law_less","_law_bits_here","_law_more"] ["_law_net_here","_law_rooms"] (qAA qME):=qBK
theorem ok_Lcome (F:Fun K "_law_come" "_law_come" qME f fd) (bc:mg "sum" = none) (qDI:mg "list" = none) (qBE:mg "len" = none) (qAZ:mg "range" = none):FnOk P w K mg base CX0 1 f fd ["_law_net_here","_law_rooms"] qU0:=by
 refine F.okA sc_Lcome λcw A bz s H vs Q E hr h=>?_;obtain⟨a,Ae,Aa,rfl,hN,wf,c5,q⟩:=h;have hu:=qG7 hr;have bv:=hr.units0;refine⟨_,(qA4 (qMH (i:=2) sc_Lcome.nd rfl rfl rfl (lcs (own:=["_law_one"]) (fv:=[]) (by kernel_rfl)) (qC7 (pv 0)) (λz1=>qBN 0) (λz1=>qB0) (λz1=>(qA8 (qWN (K:=K) rfl rfl) rfl bc qWR (qA0 (qCJ (X:=lcCx _ _ _ _ z1) rfl (lcs (own:=["_law_need"]) (fv:=[]) (by kernel_rfl)) (qPT (K:=K) rfl (pv 0)) (λz2=>qBN 0) (λz2=>qB0) (λz2=>(qAU qRL qA7 (pv 0)))) qA3))) (by kernel_rfl)) (qA4 (qAJ (i:=3) sc_Lcome.nd rfl (E8 rfl) (qUQ (qMI qA7 qA7 qUF) rfl rfl (by simp) (by decide))) (qA4 (qAJ (i:=4) sc_Lcome.nd rfl (E8 rfl) (qBW (qA0 qA7 qA3))) (qA4 (qAJ (i:=5) sc_Lcome.nd rfl (E8 rfl) qA7) (qA4 (qGU D7 (qAN (qOB bv) (pv 4) (qBW qA3) (qAY _)) (qA4 (qAJ (i:=6) sc_Lcome.nd rfl (E8 rfl) (qAD qDY rfl qDI qFM (qA0 (pv 4) qA3))) (qA4 (qAJ (i:=7) sc_Lcome.nd rfl (E8 rfl) qA7) (qA4 (qGU D7 (qAN qMO (pv 7) (qA8 qAC rfl qBE qBJ (qA0 (pv 6) qA3)) (qAY _)) (qA4 (qBT D7 rfl (qB7 rfl qAZ (qA0 (qA8 qAC rfl qBE qBJ (qA0 (pv 0) qA3)) qA3)) (qAR (i:=8) sc_Lcome.nd rfl (E8 rfl)) (qA4 (qAJ (i:=9) sc_Lcome.nd rfl (E8 rfl) (qAU qEB (qB9 qCS (pv 6) (pv 7) (λ_ _=>rfl)) (qAU qJU (qAU qRL qA7 (pv 8)) (qAU qOE (qAU qUU (qB9 qCS (pv 6) (pv 7) (λ_ _=>rfl)) (pv 8)) qA7)))) (qA5 (qBF (qC6 (qD3 hu (pv 9) (pv 3))) (qA4 (qEN hu (pv 3) (pv 9) (pv 5) rfl) (qA5 (qEM (qO6 J1 J6 J7 qCK (pv 6) (qA0 (pv 9) qA3))))) qAL)))) (qA5 (qAJ (i:=7) sc_Lcome.nd rfl (E8 rfl) (qAU qF2 (pv 7) qA7))))) (qA4 (qAJ (i:=5) sc_Lcome.nd rfl (E8 rfl) (qAU qF2 (pv 5) qA7)) (qA4 (qAJ (i:=4) sc_Lcome.nd rfl (E8 rfl) (qBW qA3)) (qA5 (qBT D7 rfl (qC2 (pv 6)) (qAR (i:=10) sc_Lcome.nd rfl (A05 rfl)) (qA5 (qBF (qAN qMO (qA8 (qNB rfl) rfl bc qWR (qA0 (qCJ rfl (lcs (own:=["_law_work"]) (fv:=[10]) (by kernel_rfl)) (qB7 rfl qAZ (qA0 (qA8 qAC rfl qBE qBJ (qA0 (pv 0) qA3)) qA3)) (λz3=>qBN 0) (λz3=>qB0) (λz3=>(qAU qOE (qAU qUU (pv 1) (pv 0)) qA7))) qA3)) (pv 1) (qAY _)) (qA5 (qBT D7 rfl (qB7 rfl qAZ (qA0 (qA8 qAC rfl qBE qBJ (qA0 (pv 0) qA3)) qA3)) (qAR (i:=8) sc_Lcome.nd rfl (E8 rfl)) (qA4 (qAJ (i:=11) sc_Lcome.nd rfl (E8 rfl) (qAU qeD (pv 10) (qAU qRL qA7 (pv 8)))) (qA5 (qBF (PW.pt (qZ7 (qAN qHQ (qAU qOE (pv 10) (qB9 qCS (pv 2) (pv 8) (λ_ _=>rfl))) (qB9 qCS (pv 2) (pv 8) (λ_ _=>rfl)) (qAY _)) (qUE (qC6 (qD3 hu (pv 11) (pv 3)))))) (qA4 (qEN hu (pv 3) (pv 11) (pv 5) rfl) (qA5 (qEM (qO6 J1 J6 J7 qCK (pv 4) (qA0 (pv 11) qA3))))) qAL))))) qAL)))))))))) (qA5 (qAE (qcO (pv 3))))))))),?_⟩
 try dsimp only[Cx.nox,Cx.wish,cxOf]
 obtain⟨rs,hA,NL⟩:=id hN;have l2:=qU9 c5;have bo:rs.length=Ae.length:=C1 NL;have a1:(((rs.map V.ref).length:Nat):Int)=(Ae.length:Int):=by rw[A0,bo]
 have a7:((((rs.map V.ref).length:Nat):Int)).toNat=Ae.length:=by rw[a1];lia
 refine cut λN1 bt=>?_;refine⟨_,rfl,a,rfl,⟨_,SqT.of hA⟩,λp hp=>?_⟩;refine qCN (p:=p) (a:=a) (xs:=rs.map V.ref) (λj σ Hd=>∃(v:Option V),σ=[v]/\Same H Hd/\Hd p=some (.lst ((natI ((Ae.take j).map mskN)).map V.int))) ?_ ?_ ?_ ?_
 ·exact⟨none,rfl,qA2 hp _,qA1⟩
 ·rintro j σ Hd hj ⟨v,rfl,sm,_⟩;exact SqT.of (sm _ _ hA)
 ·refineλj x σ Hd hx b7=>opq λco bm=>?_;obtain⟨v,rfl,sm,a2⟩:=b7;obtain⟨r,er,rfl⟩:=qC4 hx;refine bm ?_;have hj:j<Ae.length:=by have:=(A3.mp er).1;lia
  have hz:=A4 hj;obtain⟨r',h3,h4⟩:=NL.get hz;rw[er] at h3;cases h3;have rz:=wf j _ hz;generalize Ae[j]=zs at h4 hz rz;have lz:=rz.len;refine⟨_,rfl,r,rfl,⟨_,SqT.of (sm _ _ h4)⟩,λp2 a5=>?_⟩;refine qCN (p:=p2) (a:=r) (xs:=zs.map V.int) (λi σ He=>∃(v:Option V),σ=[v]/\Same Hd He/\He p2=some (.lst (((zs.take i).map λz=>(1:Int)*2^z.toNat).map V.int))) ?_ ?_ ?_ ?_
  ·exact⟨none,rfl,qA2 a5 _,qA1⟩
  ·rintro i σ He hi ⟨v,rfl,se,_⟩;exact SqT.of (se _ _ (sm _ _ h4))
  ·refineλi x σ He hx bg=>opq λct b5=>?_;obtain⟨v,rfl,se,aa⟩:=bg;obtain⟨z,ez,rfl⟩:=qB5 hx;refine b5 ?_;have hi:=(A3.mp ez).1;have zb:=rz.in_ z (A9 ez);refine⟨_,rfl,_,_,rfl,rfl,qaB zb.1 (by lia),_,aa,qAG (by rw[A0,A0,C5];lia),_,rfl,qAB se a5,?_⟩
   rw[qA1,C8,ez,C9,B1,B1]
   rfl
  ·refineλσ He b3=>opq λcu bj=>?_;obtain⟨v,rfl,se,aa⟩:=b3;refine bj ?_;rw[A0,qC0 rfl] at aa;refine⟨p2,_,rfl,SqL.of aa,_,se _ _ a2,qAG (by rw[A0,qH0,A0,C5];lia),_,rfl,qAB (sm.trans se) hp,?_⟩
   rw[qA1,C8,hz,C9,B1,A84,qJX,B1,qQ0]
   rfl
 refineλσ Hd b8=>opq λcp bn=>?_;obtain⟨v,rfl,as,gp⟩:=b8;refine bn ?_;rw[A0,bo,qC0 rfl] at gp;have fp:H p=none:=hp;clear hp v;refine bt _ _ (cut λN2 bf=>?_);intro d hd;refine⟨qA1,[(G0 0,.int 0)],rfl,(by show 1<=15;decide),?_⟩
 rw[qJB];have a9:H d=none:=as.free hd;have sd:=qA2 hd (.dK (qG8 [] [((G0 0:Key),V.int 0)]));have gd:(Ag Hd d (.dK (qG8 [] [((G0 0:Key),V.int 0)]))) d=some (.dK (kvN [0] λ_=>0)):=qA1;have bb:p≠d:=qA6 gp hd;have y:=sd _ _ gp;have t:=as.trans sd;generalize Ag Hd d (.dK (qG8 [] [((G0 0:Key),V.int 0)]))=H1 at sd gd y t ⊢;refine bf _ _ (cut λN3 bl=>?_);refine⟨(by show 1<=B64;decide),λl0 b6=>?_⟩
 have sl:=qA2 b6 (.lst [.int 0]);have bk:(Ag H1 l0 (.lst [.int 0])) l0=some (.lst ((natI [0]).map V.int)):=qA1;have u:=sl _ _ gd;have a3:=sl _ _ y;have a8:=t.trans sl;generalize Ag H1 l0 (.lst [.int 0])=H2 at sl bk u a3 a8 ⊢;refine bl _ _ (cut λN4 be=>?_);refine be _ _ (cut λN5 bw=>?_);clear bt bf bl be gd gp y sd sl as t b6 hd;refine⟨λm σ l=>∃(ks ly:List Nat) (f:Nat->Nat) (many:Nat) (ll:Addr) (v6 v7 v8 v9 v10 v11:Option V),σ=[some (.ref a),some (.int Aa),some (.ref p),some (.ref d),some (.ref ll),some (.int (many:Int)),v6,v7,v8,v9,v10,v11]/\m=2^Ae.length+1-many/\Same H l/\l p=some (.lst ((natI (Ae.map mskN)).map V.int))/\l d=some (.dK (kvN ks f))/\l ll=some (.lst ((natI ly).map V.int))/\A1 Ae Aa many ks f ly 0 0/\(ly≠[]->many<ks.length),
  ⟨_,[0],[0],λ_=>0,0,l0,none,none,none,none,none,none,rfl,rfl,a8,a3,u,bk,A1.start,λ_=>by decide⟩,?_⟩
 refineλm σ l bs=>opq λcs az=>?_;obtain⟨ks,ly,f,many,ll,v6,v7,v8,v9,v10,v11,rfl,rfl,sm,gp,gd,gl,I1,lm⟩:=bs;refine az ?_;refine⟨_,rfl,(by show 0<=B64;decide),λe he=>?_⟩
 have se:=qA2 he (.lst []);refine⟨ll,e,_,rfl,rfl,SqL.of (se _ _ gl),SqL.of qA1,_,rfl,?_⟩;have y:=se _ _ gp;have u:=se _ _ gd;have al:=se _ _ gl;have t:=sm.trans se;generalize Ag l e (.lst [])=H3 at y u al t ⊢;clear se he gp gd gl sm;refine ite2 (λcn=>?_) (λcn=>?_)
 ·have c2:ly≠[]:=λz=>by rw[z] at cn;cases cn
  have lk:=lm c2;have kl:=I1.fd.len;refine qV0 λW0 c3=>?_;refine cut λM1 b0=>?_;refine⟨_,rfl,ll,_,rfl,.inl (SqL.of al),λc hc=>?_⟩;have fc:H c=none:=t.free hc;have sc:=qA2 hc (.lst ((natI ly).map V.int));have bx:p≠c:=qA6 y hc;have ag:d≠c:=qA6 u hc;have gc:(Ag H3 c (.lst ((natI ly).map V.int))) c=some (.lst ((natI ly).map V.int)):=qA1;have a3:=sc _ _ y;have av:=sc _ _ u;have a8:=t.trans sc;generalize Ag H3 c (.lst ((natI ly).map V.int))=H4 at gc a3 av a8 ⊢;clear sc hc y u al t;refine b0 _ _ (cut λM2 b1=>?_);refine b1 _ _ (cut λM3 cb=>?_);clear b0 b1;refine⟨λm σ l=>∃(ks cl:List Nat) (f:Nat->Nat) (at_:Nat) (v8 v9:Option V),σ=[some (.ref a),some (.int Aa),some (.ref p),some (.ref d),some (.ref ll),some (.int (many:Int)),some (.ref c),some (.int (at_:Int)),v8,v9,v10,v11]/\m=2^Ae.length-at_/\Same H l/\l p=some (.lst ((natI (Ae.map mskN)).map V.int))/\l d=some (.dK (kvN ks f))/\l c=some (.lst ((natI cl).map V.int))/\A1 Ae Aa many ks f cl at_ 0/\many<ks.length,
   ⟨_,ks,ly,f,0,v8,v9,rfl,rfl,a8,a3,av,gc,I1,lk⟩,?_⟩
  clear a3 av gc a8 I1 lk kl lm;refineλm σ l b4=>opq λcv ba=>?_;obtain⟨ks,cl,f,at_,v8,v9,rfl,rfl,sm,gp,gd,gc,I1,lk⟩:=b4;refine ba ?_;have aq:=I1.len;have kl:=I1.fd.len;refine⟨_,rfl,_,rfl,c,_,rfl,.inl (SqL.of gc),_,_,rfl,rfl,_,rfl,?_⟩;have bh:(((((natI cl).map V.int).length:Nat):Int))=(cl.length:Int):=by rw[A0,qH0]
  dsimp only;rw[bh];refine ite2 (λca=>?_) (λca=>?_)
  ·have b2:(at_:Int)<(cl.length:Int):=of_decide_eq_true ca;refine qV0 λW1 c8=>?_;refine cut λL1 ah=>?_;refine⟨_,rfl,a,_,rfl,.inr (SqT.of (sm _ _ hA)),_,rfl,by rw[a1];lia,by rw[a1];lia,qLL (lo:=0) (n:=((((rs.map V.ref).length:Nat):Int)).toNat) (λk σ l=>∃(ks cl:List Nat) (f:Nat->Nat) (v8 v9:Option V),σ=[some (.ref a),some (.int Aa),some (.ref p),some (.ref d),some (.ref ll),some (.int (many:Int)),some (.ref c),some (.int (at_:Int)),v8,v9,v10,v11]/\Same H l/\l p=some (.lst ((natI (Ae.map mskN)).map V.int))/\l d=some (.dK (kvN ks f))/\l c=some (.lst ((natI cl).map V.int))/\A1 Ae Aa many ks f cl at_ k/\many<ks.length/\at_<cl.length)
    ⟨ks,cl,f,v8,v9,rfl,sm,gp,gd,gc,I1,lk,by lia⟩ ?_ ?_⟩
   ·clear sm gp gd gc I1 lk aq kl ca b2 bh;refineλk σ l hk b9 Na bq=>opq λcq bp=>?_;obtain⟨ks,cl,f,v8,v9,rfl,sm,gp,gd,gc,I1,lk,la⟩:=b9;refine bp ?_;rw[a7] at hk;have aq:=I1.len;have kl:=I1.fd.len;have ec:cl[at_]?=some cl[at_]:=A4 la;generalize cl[at_]=x at ec;have ga:atI ((natI cl).map V.int) (at_:Int)=some (.int (x:Int)):=qIC (by lia) (by rw[E4,B9,qRO ec];rfl)
    have e0:(0+(k:Int)).toNat=k:=by lia
    refine cut λL2 c6=>?_;refine⟨_,rfl,_,rfl,c,_,_,_,rfl,rfl,SqL.of gc,ga,_,rfl,_,_,rfl,rfl,qaB (by lia) (by lia),_,rfl,_,rfl,c,_,_,_,rfl,rfl,SqL.of gc,ga,_,rfl,_,_,rfl,rfl,(by show(0:Int)<=0+(k:Int);lia),_,_,rfl,rfl,_,_,rfl,rfl,?_,_,_,rfl,rfl,?_⟩
    ·rw[e0,qKM];refine .inr ⟨by lia,?_⟩
     have:=Z7 (x/2^k) (show 0<2 by decide)
     lia
    dsimp only;rw[e0,qbK];refine c6 _ _ ?_;refine⟨_,rfl,_,rfl,d,_,rfl,DGet.k (k:=G0 ((clrb x k:Nat):Int)) gd,_,rfl,?_⟩;rw[qMS];by_cases ck:clrb x k∈ks
    ·rw[if_pos ck];exact bq _ _ ⟨ks,cl,f,_,_,rfl,sm,gp,gd,gc,I1.hit ec ck,lk,la⟩
    ·rw[if_neg ck];refine iteT (cut λL3 ac=>?_);refine⟨_,rfl,_,rfl,_,rfl,d,_,rfl,DPut.k (k:=G0 ((clrb x k:Nat):Int)) gd (qB2 (by rw[qQ8];lia)),?_⟩
     rw[qVD ck];refine ac _ _ ?_;have a0:(Ag l d (.dK (kvN (ks++[clrb x k]) (fset f (clrb x k) many)))) c=some (.lst ((natI cl).map V.int)):=by rw[qA9 ag.symm];exact gc
     refine⟨_,rfl,.inl ⟨rfl,_,SqL.of a0⟩,_,rfl,c,_,_,rfl,rfl,a0,qB2 (by rw[A0,qH0];lia),?_⟩
     refine bq _ _ ⟨ks++[clrb x k],cl++[clrb x k],fset f (clrb x k) many,_,_,rfl,qAB (qAB sm a9) fc,by rw[qA9 bx,qA9 bb];exact gp,by rw[qA9 ag,qA1],?_,I1.add ec hk ck,by rw[B0];lia,by rw[B0];lia⟩
     rw[qA1,qJX,B1]
     rfl
   ·refineλσ l aj=>opq λce ae=>?_;obtain⟨ks,cl,f,v8,v9,rfl,sm,gp,gd,gc,I1,lk,la⟩:=aj;refine ae ?_;rw[a7] at I1;have aq:=I1.len;refine ah _ _ ?_;refine⟨_,rfl,_,_,rfl,rfl,?_⟩;exact c8 _ _ ⟨2^Ae.length-(at_+1),by lia,ks,cl,f,at_+1,_,_,rfl,rfl,sm,gp,gd,gc,I1.next,lk⟩
  ·have b2:¬(at_:Int)<(cl.length:Int):=of_decide_eq_false (F7.mpr ca);refine cb _ _ (cut λM4 cc=>?_);refine⟨_,rfl,_,_,rfl,rfl,?_⟩;refine cc _ _ (cut λM5 bu=>?_);refine⟨(by show 0<=B64;decide),λlz a6=>?_⟩
   have c4:H lz=none:=sm.free a6;have sz:=qA2 a6 (.lst []);have c1:p≠lz:=qA6 gp a6;have bi:d≠lz:=qA6 gd a6;have c7:c≠lz:=qA6 gc a6;have gz:(Ag l lz (.lst [])) lz=some (.lst ((natI []).map V.int)):=qA1;have y:=sz _ _ gp;have u:=sz _ _ gd;have a0:=sz _ _ gc;have t:=sm.trans sz;generalize Ag l lz (.lst [])=H5 at gz y u a0 t ⊢;clear sz a6 gp gd gc sm;refine bu _ _ ?_;have J0:=I1.two (by lia)
   refine⟨_,rfl,c,rfl,⟨_,SqL.of a0⟩,qK9 (a:=c) (xs:=(natI cl).map V.int) (λi σ l=>∃(ks ly:List Nat) (f:Nat->Nat) (v8 v10 v11:Option V),σ=[some (.ref a),some (.int Aa),some (.ref p),some (.ref d),some (.ref lz),some (.int ((many+1:Nat):Int)),some (.ref c),some (.int (at_:Int)),v8,v9,v10,v11]/\Same H l/\l p=some (.lst ((natI (Ae.map mskN)).map V.int))/\l d=some (.dK (kvN ks f))/\l lz=some (.lst ((natI ly).map V.int))/\l c=some (.lst ((natI cl).map V.int))/\A2 Ae Aa many ks f cl ly i 0/\many+1+ly.length<=ks.length)
    ⟨ks,[],f,v8,v10,v11,rfl,t,y,u,gz,a0,J0,by simp;lia⟩ (λi σ l _ hP=>by obtain⟨_,_,_,_,_,_,_,_,_,_,_,g,_⟩:=hP;exact SqL.of g) ?_ ?_⟩
   ·clear y u a0 gz t J0 I1 lk kl;refineλi x0 σ l hx am Nb br=>opq λci ai=>?_;obtain⟨ks,ly,f,v8,v10,v11,rfl,sm,gp,gd,gz,gc,J,lk⟩:=am;obtain⟨z,ez,rfl⟩:=qB5 hx;obtain⟨x,ec,rfl⟩:=qaN ez;refine ai ?_;refine⟨_,rfl,a,_,rfl,.inr (SqT.of (sm _ _ hA)),_,rfl,by rw[a1];lia,by rw[a1];lia,λp2 a5=>?_⟩
    refine qDV (p:=p2) (lo:=0) (n:=((((rs.map V.ref).length:Nat):Int)).toNat) (λk σ Hd=>∃(v:Option V),σ=[v,some (.int (x:Int))]/\Same l Hd/\Hd p2=some (.lst ((((F2 k).map λk=>((x/2^k%2:Nat):Int))).map V.int))) ?_ ?_ ?_
    ·exact⟨none,rfl,qA2 a5 _,qA1⟩
    ·refineλk σ Hd hk aw=>opq λcd ap=>?_;obtain⟨v,rfl,sd,a2⟩:=aw;refine ap ?_;rw[a7] at hk;have e0:(0+(k:Int)).toNat=k:=by lia
     refine⟨_,rfl,_,rfl,_,_,rfl,rfl,(by show(0:Int)<=0+(k:Int);lia),_,_,rfl,rfl,_,a2,qAG (by rw[A0,A0,A96];lia),_,rfl,qAB sd a5,?_⟩
     dsimp only;rw[qA1,e0,qKM,B26,B1,B1]
     rfl
    ·refineλσ Hd ax=>opq λch au=>?_;obtain⟨v,rfl,sd,a2⟩:=ax;refine au ?_;rw[a7] at a2;refine⟨p2,_,rfl,SqL.of a2,_,rfl,_,_,rfl,rfl,_,rfl,?_⟩;dsimp only;rw[qS6];have y:=sd _ _ gp;have u:=sd _ _ gd;have a4:=sd _ _ gz;have a0:=sd _ _ gc;have t:=sm.trans sd;clear gp gd gz gc sm a2 sd a5;refine ite2 (λcr=>?_) (λcr=>?_)
     ·have an:(cntN Ae.length x:Int)<Aa:=of_decide_eq_true cr;refine⟨_,rfl,a,_,rfl,.inr (SqT.of (t _ _ hA)),_,rfl,by rw[a1];lia,by rw[a1];lia,qLL (lo:=0) (n:=((((rs.map V.ref).length:Nat):Int)).toNat) (λk σ l=>∃(ks ly:List Nat) (f:Nat->Nat) (v8 v11:Option V),σ=[some (.ref a),some (.int Aa),some (.ref p),some (.ref d),some (.ref lz),some (.int ((many+1:Nat):Int)),some (.ref c),some (.int (at_:Int)),v8,v9,some (.int (x:Int)),v11]/\Same H l/\l p=some (.lst ((natI (Ae.map mskN)).map V.int))/\l d=some (.dK (kvN ks f))/\l lz=some (.lst ((natI ly).map V.int))/\l c=some (.lst ((natI cl).map V.int))/\A2 Ae Aa many ks f cl ly i k/\many+1+ly.length<=ks.length)
       ⟨ks,ly,f,v8,v11,rfl,t,y,u,a4,a0,J,lk⟩ ?_ ?_⟩
      ·clear y u a4 a0 t J lk;refineλk σ l hk ad Nc af=>opq λcf ar=>?_;obtain⟨ks,ly,f,v8,v11,rfl,sm,gp,gd,gz,gc,J,lk⟩:=ad;refine ar ?_;rw[a7] at hk;have kl:=J.fd.len;have e0:(0+(k:Int)).toNat=k:=by lia
       have bd:=A4 hk;have gm:atI ((natI (Ae.map mskN)).map V.int) (0+(k:Int))=some (.int ((nxt Ae k:Nat):Int)):=qIC (by lia) (by
        rw[e0,B9,qRO (b:=nxt Ae k) (by rw[B9,bd];unfold nxt;rw[bd];rfl)]
        rfl)
       refine cut λL1 ah=>?_;refine⟨_,rfl,_,rfl,_,_,rfl,rfl,qaB (by lia) (by lia),_,_,rfl,rfl,?_⟩
       dsimp only;rw[e0,qPQ,qWX];refine ah _ _ ?_;refine⟨_,rfl,_,rfl,_,rfl,p,_,_,_,rfl,rfl,SqL.of gp,gm,_,_,rfl,rfl,_,rfl,_,rfl,p,_,_,_,rfl,rfl,SqL.of gp,gm,rfl,_,rfl,?_⟩;dsimp only;have c9:decide (V.int (O8 (x:Int) ((nxt Ae k:Nat):Int))=V.int ((nxt Ae k:Nat):Int))=decide (x &&& nxt Ae k=nxt Ae k):=decide_eq_decide.mpr ⟨λz=>by have:=V.int.inj z;rw[qEG] at this;lia,λz=>by rw[qEG,z]⟩
       rw[c9];by_cases cm:x &&& nxt Ae k=nxt Ae k
       ·rw[decide_eq_true cm];have cn:can Ae Aa x k:=⟨an,hk,cm⟩;refine⟨_,rfl,_,rfl,d,_,rfl,DGet.k (k:=G0 ((x ||| 2^k:Nat):Int)) gd,_,rfl,?_⟩;rw[qMS];by_cases ck:x ||| 2^k∈ks
        ·rw[if_pos ck];exact af _ _ ⟨ks,ly,f,_,_,rfl,sm,gp,gd,gz,gc,J.hit ec λ_=>ck,lk⟩
        ·rw[if_neg ck];refine iteT (cut λL3 ac=>?_);refine⟨_,rfl,_,rfl,_,rfl,d,_,rfl,DPut.k (k:=G0 ((x ||| 2^k:Nat):Int)) gd (qB2 (by rw[qQ8];lia)),?_⟩
         rw[qVD ck];refine ac _ _ ?_;have a4:(Ag l d (.dK (kvN (ks++[x ||| 2^k]) (fset f (x ||| 2^k) (many+1))))) lz=some (.lst ((natI ly).map V.int)):=by rw[qA9 bi.symm];exact gz
         refine⟨_,rfl,.inl ⟨rfl,_,SqL.of a4⟩,_,rfl,lz,_,_,rfl,rfl,a4,qB2 (by rw[A0,qH0];lia),?_⟩
         refine af _ _ ⟨ks++[x ||| 2^k],ly++[x ||| 2^k],fset f (x ||| 2^k) (many+1),_,_,rfl,qAB (qAB sm a9) c4,by rw[qA9 c1,qA9 bb];exact gp,by rw[qA9 bi,qA1],?_,by rw[qA9 c7,qA9 ag.symm];exact gc,J.add ec cn ck,by rw[B0,B0,B8];lia⟩
         rw[qA1,qJX,B1]
         rfl
       ·rw[decide_eq_false cm];exact af _ _ ⟨ks,ly,f,_,_,rfl,sm,gp,gd,gz,gc,J.hit ec λc=>absurd c.2.2 cm,lk⟩
      ·refineλσ l ab=>opq λcj ay=>?_;obtain⟨ks,ly,f,v8,v11,rfl,sm,gp,gd,gz,gc,J,lk⟩:=ab;refine ay ?_;rw[a7] at J;exact br _ _ ⟨ks,ly,f,_,_,_,rfl,sm,gp,gd,gz,gc,J.next,lk⟩
     ·have an:¬(cntN Ae.length x:Int)<Aa:=of_decide_eq_false (F7.mpr cr);exact br _ _ ⟨ks,ly,f,_,_,_,rfl,t,y,u,a4,a0,J.skip ec an,lk⟩
   ·refineλσ l ak=>opq λcg ao=>?_;obtain⟨ks,ly,f,v8,v10,v11,rfl,sm,gp,gd,gz,gc,J,lk⟩:=ak;refine ao ?_;have kl:=J.fd.len;rw[A0,qH0] at J;refine c3 _ _ ⟨2^Ae.length+1-(many+1),by lia,ks,ly,f,many+1,lz,_,_,_,_,_,_,rfl,rfl,sm,gp,gd,gz,J.one (A7 _),λc0=>?_⟩
    have:=r8.mpr c0
    lia
 ·have le:ly=[]:=by
   cases ly with
   |nil=>rfl
   |cons x xs=>exact absurd rfl cn
  subst le;refine bw _ _ ?_;refine⟨_,rfl,d,_,rfl,u,λo=>?_⟩;exact q d o ks f _ (qAB t a9) a9 qA1 I1.come
theorem qXI:FnScope ["_law_works_here"] ["_law_works_here"] (qAA qMF):=qBK
theorem ok_Lbits (F:Fun K "_law_bits" "_law_bits" qMF f fd) (n:mg "sum" = none):FnOk P w K mg base CX0 1 f fd ["_law_works_here"] qU1:=by
 refine F.okA qXI λa1 A k s H vs Q E hr h=>?_;obtain⟨l,r,rfl,u,m,lw,q⟩:=h;refine⟨_,(qA5 (qAE (qA8 (qNB rfl) rfl n qWR (qA0 (qCJ rfl (lcs (own:=["_law_work"]) (fv:=[]) (by kernel_rfl)) (qC7 (pv 0)) (λy=>qBN 0) (λy=>qB0) (λy=>(qAU qRL qA7 (pv 0)))) qA3)))),?_⟩
 try dsimp only[Cx.nox,Cx.wish,cxOf]
 refine⟨_,rfl,l,rfl,⟨_,SqT.of u⟩,λp t=>?_⟩;refine qCN (p:=p) (a:=l) (xs:=r.map V.int) (λi σ c=>∃(v:Option V),σ=[v]/\Same H c/\c p=some (.lst (((r.take i).map λz=>(1:Int)*2^z.toNat).map V.int))) ?_ ?_ ?_ ?_
 ·exact⟨none,rfl,qA2 t _,qA1⟩
 ·rintro i σ c hi ⟨v,rfl,se,_⟩;exact SqT.of (se _ _ u)
 ·refineλi x σ c hx e=>opq λa0 d=>?_;obtain⟨v,rfl,se,b⟩:=e;obtain⟨z,o,rfl⟩:=qB5 hx;refine d ?_;have hi:=(A3.mp o).1;have zb:=m z (A9 o);refine⟨_,rfl,_,_,rfl,rfl,⟨zb.1,by lia,by decide⟩,_,b,qAG (by rw[A0,A0,C5];lia),_,rfl,qAB se t,?_⟩
  rw[qA1,C8,o,C9,B1,B1]
  rfl
 ·refineλσ c j=>opq λa2 g=>?_;obtain⟨v,rfl,se,b⟩:=j;refine g ?_;rw[A0,qC0 rfl] at b;refine⟨p,_,rfl,SqL.of b,?_⟩;rw[qQ0];exact q c se
theorem sc_Lleast:FnScope ["_law_come_here","_law_asked_here","_law_goal","_law_some"] ["_law_come_here","_law_asked_here"] (qAA qIY):=qBK
theorem ok_Lleast (F:Fun K "_law_least" "_law_least" qIY f fd) (a9:Clb P w K mg base 1 qQJ qYT "_law_bits" ["_law_works_here"] qU1) (qKR:mg "min" = none):FnOk P w K mg base CX0 2 f fd ["_law_come_here","_law_asked_here"] qQY:=by
 refine F.okA sc_Lleast λae A a8 s H vs Q E hr h=>?_;obtain⟨d,t,o,Ae,Aa,Ad,m,g,rfl,hd,C,ab,⟨hT,rA⟩,q⟩:=h;have hu:=qG7 hr;have aa:=hr.units0;have af:Room 1 _:=hr;refine⟨_,(qA4 (qAJ (i:=2) sc_Lleast.nd rfl (A05 rfl) (qAT a9 hr rfl (qA0 (pv 1) qA3))) (qA4 (qMH (i:=3) sc_Lleast.nd rfl rfl rfl (lcs (own:=["_law_bits_here"]) (fv:=[0,2]) (by kernel_rfl)) (qRH (pv 0)) (λz1=>qBN 0) (λz1=>(qDJ (qAN qHQ (qAU qOE (pv 0) (pv 2)) (pv 2) (qAY _)))) (λz1=>(qDK hu (pv 1) (pv 0) (λ_ _=>rfl))) (by kernel_rfl)) (qA5 (qAE (qEO (qAN (qOB aa) (pv 3) (qBW qA3) (qAY _)) (qA8 (qWO rfl) rfl qKR qP2 (qA0 (pv 3) qA3)) qF8))))),?_⟩
 try dsimp only[Cx.nox,Cx.wish,cxOf]
 have kl:m.length<=2^Ae.length:=qEH C.nd λb hb=>(C.snd b hb).1.lt;have k2:2^Ae.length<=2^12:=L6 (by decide) ab
 refine⟨_,rfl,t,Ad,rfl,hT,λx hx=>?_,by have:=rA.len;lia,λH1 s1=>?_⟩
 ·have:=rA.in_ x hx;lia
 generalize hwant:mskN Ad=j;refine⟨_,rfl,d,o,kvN m g,rfl,s1 _ _ hd,λp hp=>?_⟩;refine qYA (p:=p) (a:=d) (o:=o) (Af:=kvN m g) (λi σ Hc=>∃(v:Option V),σ=[v,some (.ref d),some (.int (j:Int))]/\Same H1 Hc/\Hc p=some (.lst ((((m.take i).filter λb=>decide (b &&& j=j)).map λx=>(g x:Int)).map V.int))) ?_ ?_ ?_ ?_
 ·exact⟨none,rfl,qA2 hp _,qA1⟩
 ·refineλi σ Hd hi a1=>opq λah a5=>?_;obtain⟨v,rfl,sd,_⟩:=a1;refine a5 ?_;exact sd _ _ (s1 _ _ hd)
 ·refineλi k v1 σ Hd r a3=>opq λad a0=>?_;obtain⟨v,rfl,sd,a2⟩:=a3;refine a0 ?_;unfold kvN at r;rw[B9] at r;cases e:m[i]? with
  |none=>rw[e] at r;cases r
  |some x=>
   rw[e] at r;cases r;have hi:=(A3.mp e).1;have lf:=P4 (λb=>decide (b &&& j=j)) (m.take i);rw[C5] at lf;refine⟨_,rfl,_,rfl,_,_,rfl,rfl,_,rfl,rfl,_,rfl,?_⟩;have a4:decide (V.int (O8 (x:Int) (j:Int))=V.int (j:Int))=decide (x &&& j=j):=decide_eq_decide.mpr ⟨λz=>by have:=V.int.inj z;rw[qEG] at this;lia,λz=>by rw[qEG,z]⟩
   rw[C8,e,C9,y4];have dg:DGet Hd d (.int (x:Int)) (some (.int (g x:Int))):=.inl ⟨kvN m g,G0 (x:Int),.inr ⟨o,sd _ _ (s1 _ _ hd)⟩,rfl,by rw[qMS,if_pos (A9 e)]⟩
   by_cases c:x &&& j=j
   ·have dt:decide (V.int (O8 (x:Int) (j:Int))=V.int (j:Int))=true:=by rw[a4];exact decide_eq_true c
    dsimp only;rw[dt];refine⟨_,rfl,_,rfl,d,_,rfl,dg,_,a2,qB2 (by rw[A0,A0];lia),_,rfl,qAB sd hp,?_⟩
    rw[qA1,O1,if_pos (decide_eq_true c),B1,B1]
    rfl
   ·have dt:decide (V.int (O8 (x:Int) (j:Int))=V.int (j:Int))=false:=by rw[a4];exact decide_eq_false c
    dsimp only;rw[dt];refine⟨_,rfl,sd,?_⟩;rw[O1,if_neg (by rw[decide_eq_false c];exact B4),B28,P7]
    exact a2
 refineλσ H2 a7=>opq λag a6=>?_;obtain⟨v,rfl,s2,u⟩:=a7;refine a6 ?_;rw[qQ8,L4] at u;refine⟨_,rfl,(by show 0<=B64;decide),λe1 ac=>?_⟩
 have se:=qA2 ac (.lst []);refine⟨p,e1,_,rfl,rfl,SqL.of (se _ _ u),SqL.of qA1,_,rfl,?_⟩;have q:=q _ (s1.trans (s2.trans se));have n:∀y,y∈(m.filter λb=>decide (b &&& j=j))↔y∈m/\y &&& j=j:=λy=>by rw[D6,decide_eq_true_eq]
 have u:=se _ _ u;generalize (m.filter λb=>decide (b &&& j=j))=fl at u n;subst hwant;cases fl with
 |nil=>
  refine iteF ?_;exact q.2 (qbF C λy hy c=>nomatch(n y).mpr ⟨hy,c⟩)
 |cons b l=>
  refine iteT ?_;obtain⟨x,hx,ex,le⟩:=qY5 g l b;obtain⟨x1,x2⟩:=(n x).mp hx;refine⟨_,rfl,p,(b::l).map λx=>(g x:Int),(g x:Int),rfl,SqL.of u,congrArg some ex,?_⟩;exact q.1 (g x) (qbG C x1 x2 λy hy c=>le y ((n y).mpr ⟨hy,c⟩))
theorem sc_Lplayed:FnScope ["_law_net_here","_law_rooms","_law_plan","_law_stands","_law_move","_law_word_here"] ["_law_net_here","_law_rooms","_law_plan"] (qAA qGS):=qBK
theorem ok_Lplayed (F:Fun K "_law_played" "_law_played" qGS f fd)
  (ad:Clb P w K mg base 1 qMZ qRZ "_law_word" ["_law_net_here","_law_rooms","_law_stand","_law_move"] qJG)
  (af:Clb P w K mg base 1 qHD qLP "_law_behind" ["_law_stand","_law_move"] qE7):FnOk P w K mg base CX0 2 f fd ["_law_net_here","_law_rooms","_law_plan"] qQW:=by
 refine F.okA sc_Lplayed λar A ab s H vs Q E hr h=>?_;obtain⟨a,l,Ae,ms,u,rfl,⟨hN,wf,an,⟨rs,hl,M⟩,ao,ac,r0,am⟩,q⟩:=h;have as:Room 1 _:=hr;have aq:Room 1 _:=hr;refine⟨_,(qA4 (qAJ (i:=3) sc_Lplayed.nd rfl (E8 rfl) (qBW (qA0 (qBY qA3) qA3))) (qA4 (qBT D7 rfl (qC2 (pv 2)) (qAR (i:=4) sc_Lplayed.nd rfl (E8 rfl)) (qA4 (qAJ (i:=5) sc_Lplayed.nd rfl (E8 rfl) (qAT ad hr rfl (qA0 (pv 0) (qA0 (pv 1) (qA0 (qB9 qCS (pv 3) (qSV qL1 qA7) (λ_ _=>rfl)) (qA0 (pv 4) qA3)))))) (qA4 (qBF (qC6 (qHO (pv 5))) (qA5 (qAE (qBY (qA0 (pv 3) (qA0 (pv 5) qA3))))) qAL) (qA5 (qEM (qO6 J1 J6 J7 qCK (pv 3) (qA0 (qAT af hr rfl (qA0 (qB9 qCS (pv 3) (qSV qL1 qA7) (λ_ _=>rfl)) (qA0 (pv 4) qA3))) qA3))))))) (qA5 (qAE (qBY (qA0 (pv 3) (qA0 qF8 qA3))))))),?_⟩
 try dsimp only[Cx.nox,Cx.wish,cxOf]
 have a7:=C1 M;refine⟨(by show 0<=B64;decide),λe he=>⟨(by show 1<=B64;decide),λg o=>?_⟩⟩
 have s1:=qA2 he (.tup []);have s2:=s1.trans (qA2 o (.lst [.ref e]));have a1:H g=none:=s1.free o;refine⟨_,rfl,l,rfl,⟨_,SqL.of (s2 _ _ hl)⟩,qH9 (a:=l) (xs:=rs.map V.ref) (λk σ Hc=>∃(ss:List Addr) (r:Addr) (sts:List (List Int)) (st:List Int) (v4 v5:Option V),σ=[some (.ref a),some (.int u),some (.ref l),some (.ref g),v4,v5]/\Same H Hc/\Hc g=some (.lst ((ss++[r]).map V.ref))/\NetL Hc (ss++[r]) ([]::sts)/\Hc r=some (.tup (st.map V.int))/\Rise (Ae.length:Int) st/\sts.length=k/\∀sts' v,Play Ae u st (ms.drop k) sts' v->Play Ae u [] ms (sts++sts') v)
  ⟨[],e,[],[],none,none,rfl,s2,qA1,.cons ((qA2 o (.lst [.ref e])) _ _ qA1) .nil,(qA2 o (.lst [.ref e])) _ _ qA1,Rise.nil,rfl,λsts' v p=>p⟩ (λk σ Hc _ hP=>by obtain⟨_,_,_,_,_,_,_,sm,_⟩:=hP;exact SqL.of (sm _ _ hl)) ?_ ?_⟩
 ·refineλk x σ Hc hx a5=>opq λau a9=>?_;obtain⟨ss,r,sts,st,v4,v5,rfl,sm,b,N,a2,t,lk,go⟩:=a5;refine a9 ?_;have al:=t.len;obtain⟨mv,aj,rfl⟩:=qC4 hx;obtain⟨⟨Ac,j⟩,hm,hH⟩:=qAS M aj;have hk:=(A3.mp hm).1;obtain⟨hw,a0,aa⟩:=ac _ (A9 hm);dsimp only at hw a0 aa hH;have ed:ms.drop k=(Ac,j)::ms.drop (k+1):=by
   obtain⟨ak,e⟩:=A3.mp hm;rw[G3 ak,e]
  have ag:j.toNat<Ae.length:=by lia
  have n:=A4 ag;have ae:=(wf j.toNat _ n).len;generalize Ae[j.toNat]=ns at n ae;have a3:wd Ae st u (Ac,j)=qCH ns st u Ac j:=by unfold wd;rw[n];rfl
  have ai:=C1 N;rw[D3] at ai;have d:atI ((ss++[r]).map V.ref) (-1)=some (.ref r):=by rw[B1];exact qSB _ _
  refine⟨_,rfl,_,rfl,_,rfl,_,rfl,g,_,_,_,rfl,rfl,SqL.of b,d,_,rfl,a,r,mv,Ae,st,ns,u,j,Ac,rfl,hN.same sm,a2,by lia,sm _ _ hH,hw,a0,n,by lia,λH2 c=>?_⟩
  rcases qPD ns st u Ac j with e|⟨w0,e⟩
  ·rw[e];refine⟨_,rfl,_,rfl,?_⟩;rw[decide_eq_true (rfl:V.non=V.non)];refine⟨_,rfl,.inl ⟨rfl,_,SqL.of (c _ _ b)⟩,_,rfl,_,rfl,g,_,_,_,rfl,rfl,SqL.of (c _ _ b),d,_,rfl,r,mv,st,Ac,j,rfl,c _ _ a2,by lia,c _ _ (sm _ _ hH),hw,λr' m H3 ah gr bh=>?_⟩
   have s3:=c.trans ah;have y:=s3 _ _ b;have a6:=qS9 t hw a0 aa (λew=>((qZ2 hw (a3.trans e)).1 ew).1) bh;refine⟨g,_,_,rfl,rfl,y,qB2 (by rw[A0];lia),?_⟩
   rw[qB6];have N3:NetL H3 (ss++[r]++[r']) ([]::(sts++[m])):=T5 (NetL.sm N s3) gr;refine⟨ss++[r],r',sts++[m],m,_,_,rfl,qAB (sm.trans s3) a1,qA1,NetL.put N3 y,?_,a6,by rw[B0,B8,lk],λsts' v p=>?_⟩
   ·rw[qA9 (qCP gr y (by intro z;cases z))]
    exact gr
   ·rw[P3];exact go (m::sts') v (by rw[ed];exact .go (a3.trans e) bh p)
  ·rw[e];refine⟨_,rfl,_,rfl,?_⟩;rw[decide_eq_false (show¬V.str w0=V.non fromλz=>nomatch z)];refine⟨_,rfl,_,rfl,(by show 2<=B64;decide),λT hT=>?_⟩
   have sT:=qA2 hT (.tup [.ref g,.str w0]);have pl:=go [] (.str w0) (by rw[ed];exact .stop (a3.trans e))
   rw[P7] at pl;exact q T g sts (.str w0) _ ((sm.trans c).trans sT) pl qA1 a1 ((StandsAt.same ⟨_,b,N⟩ c).same sT) (by lia)
 ·refineλσ Hc a8=>opq λap a4=>?_;obtain⟨ss,r,sts,st,v4,v5,rfl,sm,b,N,a2,t,lk,go⟩:=a8;refine a4 ?_;rw[A0,a7] at lk;have pl:=go [] .non (by rw[A0,a7,A29];exact .nil)
  rw[P7] at pl;refine⟨_,rfl,(by show 2<=B64;decide),λT hT=>?_⟩
  have sT:=qA2 hT (.tup [.ref g,.non]);exact q T g sts .non _ (sm.trans sT) pl qA1 a1 (StandsAt.same ⟨_,b,N⟩ sT) (by lia)
theorem qYF {Ac:Str} (h:Ac = "do"\/Ac = "clear"):inV (.str Ac) [.str "do",.str "clear"]=true:=by
 rcases h with rfl|rfl
 ·decide +kernel
 ·decide +kernel
theorem qPM:FnScope ["_law_net_here","_law_move"] ["_law_net_here","_law_move"] (qAA qFV):=qBK
theorem ok_Lis_move (F:Fun K "_law_is_move" "_law_is_move" qFV f fd) (d:mg "isinstance" = none) (r:mg "tuple" = none) (qBE:mg "len" = none) (k:mg "int" = none) (n:mg "bool" = none):FnOk P w K mg base CX0 1 f fd ["_law_net_here","_law_move"] qR0:=by
 refine F.okA qPM λz A j s H vs Q E hr h=>?_;obtain⟨a,i,Ae,Ac,g,rfl,hN,c,e,o,t,q⟩:=h;refine⟨_,(qA4 (qBF (PW.pt (qG6 (qCM (qCC (qA8 qBH rfl d qAW (qA0 (pv 1) (qA0 (qD6 (v:=.ty "tuple") rfl r qAP rfl) qA3))))) (qG6 (qAN qXX (qA8 qAC rfl qBE qBJ (qA0 (pv 1) qA3)) qA7 (qAY _)) (qEA (qAN qOA (qB9 qBI (pv 1) qA7 (λ_ _=>rfl)) (qBY (qA0 qBO (qA0 qBO qA3))) (by with_unfolding_all rfl)))))) (qA5 (qAE qCF)) qAL) (qA5 (qAE (qI9 (qA8 qBH rfl d qAW (qA0 (qB9 qBI (pv 1) qA7 (λ_ _=>rfl)) (qA0 (qD6 (v:=.ty "int") rfl k qS8 rfl) qA3))) (qI9 (qUO (qA8 qBH rfl d qAW (qA0 (qB9 qBI (pv 1) qA7 (λ_ _=>rfl)) (qA0 (qD6 (v:=.ty "bool") rfl n qWU rfl) qA3)))) (qJQ (qMM qXY qMO qA7 (qB9 qBI (pv 1) qA7 (λ_ _=>rfl)) (qA8 qAC rfl qBE qBJ (qA0 (pv 0) qA3))))))))),?_⟩
 try dsimp only[Cx.nox,Cx.wish,cxOf]
 obtain⟨x,hA,y⟩:=id hN;have l:(((x.map V.ref).length:Nat):Int)=(Ae.length:Int):=by rw[A0,C1 y]
 refine⟨_,rfl,_,"tuple",_,true,rfl,TyOf.tup c,rfl,_,rfl,?_⟩;refine⟨_,rfl,i,_,rfl,.inr (SqT.of c),rfl,_,rfl,?_⟩;rw[decide_eq_true (show V.int ((([V.str Ac,V.int g].length:Nat)):Int)=V.int 2 from rfl)];refine⟨_,rfl,i,_,_,_,rfl,rfl,SqT.of c,rfl,(by show 2<=B64;decide),λT hT=>?_⟩
 have m:=qA2 hT (.tup [.str "do",.str "clear"])
 refine⟨T,_,rfl,.inr (SqT.of qA1),rfl,rfl,_,rfl,?_⟩;rw[qYF e];have b:=m _ _ c;have p:=m _ _ hA;refine⟨_,rfl,i,_,_,_,rfl,rfl,SqT.of b,rfl,_,"int",_,true,rfl,TyOf.int g,qZF,_,rfl,?_⟩;refine⟨_,rfl,i,_,_,_,rfl,rfl,SqT.of b,rfl,_,"bool",_,false,rfl,TyOf.int g,qZG,_,rfl,_,rfl,?_⟩;refine⟨_,rfl,i,_,_,_,rfl,rfl,SqT.of b,rfl,_,_,rfl,rfl,_,rfl,?_⟩;rw[decide_eq_true (show(0:Int)<=g from o)];refine⟨_,rfl,a,_,rfl,.inr (SqT.of p),_,_,rfl,rfl,?_⟩;have u:=q _ m;rw[<- decide_eq_true (show g<(((x.map V.ref).length:Nat):Int) by rw[l];exact t)] at u
 exact u
theorem sc_stands_reached:FnScope ["net","rooms","reached","due","later","stand","move","further","steps"] ["net","rooms"] (qAA qAI):=qBK
theorem ok_stands_reached (F:Fun K "stands_reached" "stands_reached" qAI f fd) (bz:Clb P w K mg base 3 qG3 qKB "moves_of" ["net","rooms","stand"] qJF) (bp:Clb P w K mg base 1 qCX qFF "stand_behind" ["stand","move"] qE7):FnOk P w K mg base CX0 4 f fd ["net","rooms"] qM4:=by
 refine F.okA sc_stands_reached λcf A bw s H vs Q E hr h=>?_;obtain⟨a,Ae,Aa,rfl,hN,wf,c0,q⟩:=h;have hu:=qG7 hr;have ce:Room 3 _:=hr;have bq:qAV qAI=[.Assign [.Name "reached" ⟨67,4,67,11⟩] (.Dict [some (kOf ((qAV qAI).getD 0 (.Pass ⟨0,0,0,0⟩)))] [vOf ((qAV qAI).getD 0 (.Pass ⟨0,0,0,0⟩))] ⟨67,14,67,35⟩) ⟨67,4,67,35⟩,(qAV qAI).getD 1 (.Pass ⟨0,0,0,0⟩),(qAV qAI).getD 2 (.Pass ⟨0,0,0,0⟩),(qAV qAI).getD 3 (.Pass ⟨0,0,0,0⟩)]:=by kernel_rfl
 have hk:∀X:Cx,PE X (kOf ((qAV qAI).getD 0 (.Pass ⟨0,0,0,0⟩))) (tTup tNil):=λX=>qaF ⟨_,_,rfl⟩;have hv:∀X:Cx,PE X (vOf ((qAV qAI).getD 0 (.Pass ⟨0,0,0,0⟩))) (tTup (qNN (tC (.int 0)) (qNN (tC .non) (qNN (tC .non) tNil)))):=λX=>qUN ⟨_,_,_,_,_,_,_,_,rfl⟩;rw[bq];generalize kOf ((qAV qAI).getD 0 (.Pass ⟨0,0,0,0⟩))=k0 at hk ⊢;generalize vOf ((qAV qAI).getD 0 (.Pass ⟨0,0,0,0⟩))=v9 at hv ⊢;refine⟨_,(qA4 (qAJ (i:=2) sc_stands_reached.nd rfl (E8 rfl) (qUP hu (hk _) (hv _))) (qA4 (qAJ (i:=3) sc_stands_reached.nd rfl (E8 rfl) (qBW (qA0 (qBY qA3) qA3))) (qA4 (qGU D7 (qXP (pv 3) (λ_=>rfl)) (qA4 (qAJ (i:=4) sc_stands_reached.nd rfl (E8 rfl) (qBW qA3)) (qA4 (qBT D7 rfl (qC2 (pv 3)) (qAR (i:=5) sc_stands_reached.nd rfl (E8 rfl)) (qA5 (qBT D7 rfl (qC2 (qAT bz hr rfl (qA0 (pv 0) (qA0 (pv 1) (qA0 (pv 5) qA3))))) (qAR (i:=6) sc_stands_reached.nd rfl (E8 rfl)) (qA4 (qAJ (i:=7) sc_stands_reached.nd rfl (E8 rfl) (qAT bp hr rfl (qA0 (pv 5) (qA0 (pv 6) qA3)))) (qA5 (qBF (qC6 (qD3 hu (pv 7) (pv 2))) (qA4 (qAJ (i:=8) sc_stands_reached.nd rfl (E8 rfl) (qAU qF2 (qB9 qBI (qDK hu (pv 2) (pv 5) (λ_ _=>rfl)) qA7 (λ_ _=>rfl)) (qEO (qAN qHQ (qB9 qBI (pv 6) qA7 (λ_ _=>rfl)) qBO (qAY _)) qA7 qA7))) (qA4 (qEN hu (pv 2) (pv 7) (qBY (qA0 (pv 8) (qA0 (pv 5) (qA0 (pv 6) qA3)))) rfl) (qA5 (qEM (qO6 J1 J6 J7 qCK (pv 4) (qA0 (pv 7) qA3)))))) qAL)))))) (qA5 (qAJ (i:=3) sc_stands_reached.nd rfl (E8 rfl) (pv 4)))))) (qA5 (qAE (qPU (pv 2))))))),?_⟩
 try dsimp only[Cx.nox,Cx.wish,cxOf]
 have pw:2^Ae.length<=2^12:=L6 (by decide) c0
 intro j ag;refine⟨(by show 0<=B64;decide),λe0 b9=>?_⟩
 refine⟨(by show 3<=B64;decide),λv0 bh=>?_⟩
 have s1:=qA2 ag (.dT []);have s2:=qA2 b9 (.tup []);have s3:=qA2 bh (.tup [.int 0,.non,.non]);have g1:(Ag (Ag (Ag H j (.dT [])) e0 (.tup [])) v0 (.tup [.int 0,.non,.non])) j=some (.dT []):=s3 _ _ (s2 _ _ qA1);have g2:(Ag (Ag (Ag H j (.dT [])) e0 (.tup [])) v0 (.tup [.int 0,.non,.non])) e0=some (.tup (([]:List Key).map kV)):=s3 _ _ qA1;have g3:(Ag (Ag (Ag H j (.dT [])) e0 (.tup [])) v0 (.tup [.int 0,.non,.non])) v0=some (.tup [.int ((0:Nat):Int),.non,.non]):=qA1;have sA:=s1.trans (s2.trans s3);generalize Ag (Ag (Ag H j (.dT [])) e0 (.tup [])) v0 (.tup [.int 0,.non,.non])=H1 at g1 g2 g3 sA;refine⟨g1,e0,[],rfl,g2,?_⟩;have b:EntZ H1 [([],.ref v0)] [[]] (λ_=>0) (PrvH Ae Aa [[]] λ_=>0):=⟨λ_=>none,.cons ⟨rfl,v0,rfl,g3⟩ .nil,PrvH.start⟩;have b:=b.put (u:=.dT [([],.ref v0)]) g1 (λxs z=>by cases z)
 have sB:Same H (Ag H1 j (.dT [([],.ref v0)])):=qAB sA ag;have g4:(Ag H1 j (.dT [([],.ref v0)])) j=some (.dT [([],.ref v0)]):=qA1;have aa:H j=none:=ag;refine⟨(by show 0<=B64;decide),λe1 bu=>⟨(by show 1<=B64;decide),λdu bs=>?_⟩⟩
 have s5:=qA2 bu (.tup []);have s6:=qA2 bs (.lst [.ref e1]);have sC:=sB.trans (s5.trans s6);have ab:=(b.same s5).same s6;have g5:=s6 _ _ (s5 _ _ g4);have g6:(Ag (Ag (Ag H1 j (.dT [([],.ref v0)])) e1 (.tup [])) du (.lst [.ref e1])) du=some (.lst ([e1].map V.ref)):=qA1;have g7:StL (Ag (Ag (Ag H1 j (.dT [([],.ref v0)])) e1 (.tup [])) du (.lst [.ref e1])) [e1] [[]]:=.cons (s6 _ _ qA1) .nil;generalize Ag (Ag (Ag H1 j (.dT [([],.ref v0)])) e1 (.tup [])) du (.lst [.ref e1])=H2 at sC ab g5 g6 g7;clear s1 s2 s3 g1 g2 g3 sA b sB g4 s5 s6 b9 bh ag;refine⟨λm σ Hc=>∃(du:Addr) (dr:List Addr) (due ks:List (List Int)) (f:List Int->Nat) (Af:List (List Key×V)) (t:Nat) (v4 v5 v6 v7 v8:Option V),σ=[some (.ref a),some (.int Aa),some (.ref j),some (.ref du),v4,v5,v6,v7,v8]/\m=(2^Ae.length-ks.length)*2+(if due=[] then 0 else 1)/\Same H Hc/\Hc j=some (.dT Af)/\EntZ Hc Af ks f (PrvH Ae Aa ks f)/\Hc du=some (.lst (dr.map V.ref))/\StL Hc dr due/\BF Ae Aa t ks due [] f 0 0,
  ⟨_,du,[e1],[[]],[[]],λ_=>0,_,0,none,none,none,none,none,rfl,rfl,sC,g5,ab,g6,g7,BF.start⟩,?_⟩
 clear sC g5 ab g6 g7;refineλm σ Hc b2=>opq λc7 bj=>?_;obtain⟨du,dr,due,ks,f,Af,t,v4,v5,v6,v7,v8,rfl,rfl,sm,d,b,n,SD,B⟩:=b2;refine bj ?_;refine⟨_,rfl,_,.inl ⟨_,SqL.of n,rfl⟩,?_⟩;have ay:dr.length=due.length:=C1 SD;by_cases hz:due=[]
 ·subst hz;have:dr=[]:=O3.mp ay;subst this;refine iteF ?_;obtain⟨g,eX,b1⟩:=b.ex;exact⟨_,rfl,j,Af,rfl,d,λo=>q j o Af ks f g _ (qAB sm aa) aa qA1 (eX.put d λxs z=>by cases z) B.rch b1⟩
 ·have ne:(!(dr.map V.ref).isEmpty)=true:=by
   cases dr with
   |nil=>exact absurd (O3.mp ay.symm) hz
   |cons _ _=>rfl
  dsimp only;rw[if_pos ne];have br:=B.len;have ln:=b.len;refine qV0 λN0 bl=>?_;refine⟨(by show 0<=B64;decide),λll ah=>?_⟩
  have s7:=qA2 ah (.lst []);have c2:H ll=none:=sm.free ah;have as:ll≠j/\ll≠du:=⟨(qA6 d ah).symm,(qA6 n ah).symm⟩;have bd:j≠du:=qCP d n (by intro z;cases z)
  obtain⟨k0,b0⟩:∃k0,k0=ks.length:=⟨_,rfl⟩;rw[<- b0] at bl;refine⟨_,rfl,du,rfl,⟨_,SqL.of (s7 _ _ n)⟩,qK9 (a:=du) (xs:=dr.map V.ref) (λi σ Hd=>∃(lr:List Addr) (ly ks:List (List Int)) (f:List Int->Nat) (Af:List (List Key×V)) (v5 v6 v7 v8:Option V),σ=[some (.ref a),some (.int Aa),some (.ref j),some (.ref du),some (.ref ll),v5,v6,v7,v8]/\Same H Hd/\Hd j=some (.dT Af)/\EntZ Hd Af ks f (PrvH Ae Aa ks f)/\Hd du=some (.lst (dr.map V.ref))/\StL Hd dr due/\Hd ll=some (.lst (lr.map V.ref))/\StL Hd lr ly/\BF Ae Aa t ks due ly f i 0/\ks.length=k0+ly.length)
   ⟨[],[],ks,f,Af,v5,v6,v7,v8,rfl,sm.trans s7,s7 _ _ d,b.same s7,s7 _ _ n,SD.same s7,qA1,.nil,B,b0.symm⟩ (by rintro i σ Hd _ ⟨_,_,_,_,_,_,_,_,_,_,_,_,_,z,_⟩;exact SqL.of z) ?_ ?_⟩
  ·clear s7 d b n SD B sm ln br b0;refineλi x σ Hd hx b6 N1 c3=>opq λc5 bk=>?_;obtain⟨lr,ly,ks,f,Af,v5,v6,v7,v8,rfl,sm,d,b,n,SD,a0,SL,B,a2⟩:=b6;obtain⟨sr,b7,rfl⟩:=qC4 hx;obtain⟨p,a7,a9⟩:=qAS SD b7;refine bk ?_;have ri:Rise (Ae.length:Int) p:=((B.duem p).mp (A9 a7)).1.rise;have cc:p.length<=12:=by have:=ri.len;lia
   have a4:p∈ks:=B.full t p (A7 _) ((B.duem p).mp (A9 a7)).1;refine⟨_,rfl,_,rfl,_,rfl,a,sr,Ae,p,Aa,rfl,hN.same sm,wf,by lia,a9,by lia,λl rs H3 s3 fl gl ML=>?_⟩
   have c1:rs.length=(qD4 Ae p Aa).length:=C1 ML;refine⟨l,rfl,⟨_,SqL.of gl⟩,qK9 (a:=l) (xs:=rs.map V.ref) (λk σ Hd=>∃(lr:List Addr) (ly ks:List (List Int)) (f:List Int->Nat) (Af:List (List Key×V)) (v6 v7 v8:Option V),σ=[some (.ref a),some (.int Aa),some (.ref j),some (.ref du),some (.ref ll),some (.ref sr),v6,v7,v8]/\Same H Hd/\Hd j=some (.dT Af)/\EntZ Hd Af ks f (PrvH Ae Aa ks f)/\Hd du=some (.lst (dr.map V.ref))/\StL Hd dr due/\Hd ll=some (.lst (lr.map V.ref))/\StL Hd lr ly/\BF Ae Aa t ks due ly f i k/\ks.length=k0+ly.length/\Hd l=some (.lst (rs.map V.ref))/\MovL Hd rs (qD4 Ae p Aa)/\p∈ks)
    ⟨lr,ly,ks,f,Af,v6,v7,v8,rfl,sm.trans s3,s3 _ _ d,b.same s3,s3 _ _ n,SD.same s3,s3 _ _ a0,SL.same s3,B,a2,gl,ML,a4⟩ (by rintro k σ Hd _ ⟨_,_,_,_,_,_,_,_,_,_,_,_,_,_,_,_,_,_,z,_⟩;exact SqL.of z) ?_ ?_⟩
   ·have nl:j≠l/\ll≠l:=⟨qA6 d fl,qA6 a0 fl⟩;clear d b n SD a0 SL B a2 sm gl ML s3 a4 a9;refineλk x σ Hd hx bm N2 aq=>opq λc6 bc=>?_;obtain⟨lr,ly,ks,f,Af,v6,v7,v8,rfl,sm,d,b,n,SD,a0,SL,B,a2,gl,ML,a4⟩:=bm;obtain⟨mv,bv,rfl⟩:=qC4 hx;obtain⟨⟨Ac,wk⟩,af,ae⟩:=qAS ML bv;refine bc ?_;dsimp only at ae;obtain⟨ca,am,a9⟩:=qAS SD b7;rw[a7] at am;cases am;have hw:=(due_iff.mp (A9 af)).1.1;refine⟨_,rfl,_,rfl,sr,mv,p,Ac,wk,rfl,a9,by lia,ae,hw,λr cb H4 s4 gr bt=>?_⟩
    have e2:=qWY (m:=(Ac,wk)) ri hw bt;rw[e2] at gr;have be:=sm.trans s4;have a6:=s4 _ _ d;have a1:=b.same s4;have ao:=s4 _ _ n;have b8:=SD.same s4;have al:=s4 _ _ a0;have ar:=SL.same s4;have b5:=s4 _ _ gl;have bo:=ML.same s4;have an:=s4 _ _ a9;have ak:=s4 _ _ ae;have lb:=B.len;clear d b n SD a0 SL gl ML a9 ae;refine⟨_,rfl,_,rfl,j,_,rfl,.inr ⟨Af,keyS (behL p (Ac,wk)),r,.inl a6,rfl,by rw[qC3];exact gr,rfl⟩,_,rfl,?_⟩
    by_cases a8:behL p (Ac,wk)∈ks
    ·obtain⟨v,ev,_⟩:=a1.val a8;rw[ev];refine iteF ?_;exact aq _ _ ⟨lr,ly,ks,f,Af,_,_,_,rfl,be,a6,a1,ao,b8,al,ar,B.hit a7 af a8,a2,b5,bo,a4⟩
    ·rw[a1.none a8];refine iteT ?_;obtain⟨v,ev,vr,xx,yy,e6,gv⟩:=a1.val a4;subst e6;have dg:DGet H4 j (.ref sr) (some (.ref vr)):=by
      rw[<- ev];exact .inr ⟨Af,keyS p,sr,.inl a6,rfl,by rw[qC3];exact an,rfl⟩
     have B2:=B.add a7 af a8;have bx:=B2.len;rw[B0,B8] at bx;have cd:lr.length=ly.length:=C1 ar;have c4:=a1.len;refine⟨_,rfl,_,rfl,j,.ref vr,rfl,dg,vr,_,_,_,rfl,rfl,SqT.of gv,rfl,_,rfl,mv,_,_,_,rfl,rfl,SqT.of ak,rfl,rfl,_,rfl,?_⟩;obtain⟨z,ai,bf⟩:∃z:Nat,(if decide (V.str Ac=V.str "do")=true then z=1 else z=0)/\z=if((Ac,wk):Mv).1=D4 "do" then 1 else 0:=by
      by_cases c:Ac=D4 "do"
      ·exact⟨1,by rw[if_pos (decide_eq_true (congrArg V.str c))],by rw[if_pos c]⟩
      ·exact⟨0,by rw[if_neg (λq=>c (V.str.inj (of_decide_eq_true q)))],by rw[if_neg c]⟩
     rw[<- bf] at B2;have bg:∀(y:Int) (H5:Hp) (tp:Addr),y=((f p+z:Nat):Int)->H4 tp=none->H5=Ag H4 tp (.tup [.int y,.ref sr,.ref mv])->∃H6 H7,DPut H5 j (.ref r) (.ref tp) H6/\H6 ll=some (.lst (lr.map V.ref))/\H7=Ag H6 ll (.lst (lr.map V.ref++[.ref r]))/\
       ∃(lr:List Addr) (ly ks:List (List Int)) (f:List Int->Nat) (Af:List (List Key×V)),Same H H7/\H7 j=some (.dT Af)/\EntZ H7 Af ks f (PrvH Ae Aa ks f)/\H7 du=some (.lst (dr.map V.ref))/\StL H7 dr due/\H7 ll=some (.lst (lr.map V.ref))/\StL H7 lr ly/\BF Ae Aa t ks due ly f i (k+1)/\ks.length=k0+ly.length/\H7 l=some (.lst (rs.map V.ref))/\MovL H7 rs (qD4 Ae p Aa)/\p∈ks:=by
      intro y H5 tp ey ac e5;subst ey e5;have s5:=qA2 ac (.tup [.int ((f p+z:Nat):Int),.ref sr,.ref mv]);have g5:(Ag H4 tp (.tup [.int ((f p+z:Nat):Int),.ref sr,.ref mv])) tp=some (.tup [.int ((f p+z:Nat):Int),.ref sr,.ref mv]):=qA1;generalize Ag H4 tp (.tup [.int ((f p+z:Nat):Int),.ref sr,.ref mv])=H5 at s5 g5;have a5:=s5 _ _ a6;have ba:=s5 _ _ gr;have bn:=s5 _ _ al;have nt:∀kk xs,HO.dT kk≠.tup xs:=λkk xs q=>by cases q
      have aj:∀kk xs,HO.lst kk≠.tup xs:=λkk xs q=>by cases q
      have a3:(Ag H5 j (.dT (putK Af (keyS (behL p (Ac,wk))) (.ref tp)))) ll=some (.lst (lr.map V.ref)):=(qA9 as.1).trans bn;refine⟨_,_,.inr ⟨Af,keyS (behL p (Ac,wk)),r,a5,rfl,by rw[qC3];exact ba,qB2 (by lia),rfl⟩,a3,rfl,lr++[r],ly++[behL p (Ac,wk)],ks++[behL p (Ac,wk)],_,_,qAB (qAB (be.trans s5) aa) c2,?_,(((a1.same s5).snoc (m:=(Ac,wk)) a8 g5 (s5 _ _ an) (s5 _ _ ak) (λg e=>PrvH.snoc a4 (A9 af) a8 bf e)).put a5 (nt _)).put a3 (aj _),?_,((b8.same s5).put a5 (nt _)).put a3 (aj _),?_,(((ar.same s5).snoc ba).put a5 (nt _)).put a3 (aj _),B2,?_,?_,((bo.same s5).putG a5 (nt _)).putG a3 (aj _),A8.mpr (.inl a4)⟩
      ·rw[qA9 as.1.symm,qA1]
      ·rw[qA9 as.2.symm,qA9 bd.symm];exact s5 _ _ ao
      ·rw[qA1,qB6]
      ·simp only[B0,B8];lia
      ·rw[qA9 nl.2.symm,qA9 nl.1.symm];exact s5 _ _ b5
     refine ite2 (λck=>?_) (λck=>?_)
     ·rw[if_pos ck] at ai;refine⟨_,_,rfl,rfl,_,rfl,_,rfl,_,rfl,(by show 3<=B64;decide),λtp ac=>?_⟩
      obtain⟨H6,H7,dp,g6,e7,az,ax,aw,f2,ad,x1,x2,x3,x4,x5,x6,x7,x8,x9,au,av,ap⟩:=bg _ _ tp (by rw[ai]) ac rfl
      subst e7;refine⟨_,rfl,_,rfl,j,H6,rfl,dp,_,rfl,.inl ⟨rfl,_,SqL.of g6⟩,_,rfl,ll,_,_,rfl,rfl,g6,qB2 (by rw[A0];lia),?_⟩
      exact aq _ _ ⟨az,ax,aw,f2,ad,_,_,_,rfl,x1,x2,x3,x4,x5,x6,x7,x8,x9,au,av,ap⟩
     ·rw[if_neg ck] at ai;refine⟨_,_,rfl,rfl,_,rfl,_,rfl,_,rfl,(by show 3<=B64;decide),λtp ac=>?_⟩
      obtain⟨H6,H7,dp,g6,e7,az,ax,aw,f2,ad,x1,x2,x3,x4,x5,x6,x7,x8,x9,au,av,ap⟩:=bg _ _ tp (by rw[ai]) ac rfl
      subst e7;refine⟨_,rfl,_,rfl,j,H6,rfl,dp,_,rfl,.inl ⟨rfl,_,SqL.of g6⟩,_,rfl,ll,_,_,rfl,rfl,g6,qB2 (by rw[A0];lia),?_⟩
      exact aq _ _ ⟨az,ax,aw,f2,ad,_,_,_,rfl,x1,x2,x3,x4,x5,x6,x7,x8,x9,au,av,ap⟩
   ·refineλσ Hd bb=>opq λc8 b4=>?_;obtain⟨lr,ly,ks,f,Af,v6,v7,v8,rfl,sm,d,b,n,SD,a0,SL,B,a2,gl,ML,a4⟩:=bb;refine b4 ?_;rw[A0,c1] at B;exact c3 _ _ ⟨lr,ly,ks,f,Af,_,_,_,_,rfl,sm,d,b,n,SD,a0,SL,B.next a7 (A7 _),a2⟩
  ·refineλσ Hd b3=>opq λc9 bi=>?_;obtain⟨lr,ly,ks,f,Af,v5,v6,v7,v8,rfl,sm,d,b,n,SD,a0,SL,B,a2⟩:=b3;refine bi ?_;rw[A0,ay] at B;have B2:=B.level (A7 _);have lb:=B2.len;refine⟨_,rfl,bl _ _ ⟨_,?_,ll,lr,ly,ks,f,Af,t+1,_,_,_,_,_,rfl,rfl,sm,d,b,a0,SL,B2⟩⟩;rw[if_neg hz];by_cases c:ly=[]
   ·rw[if_pos c,a2,c,O9]
    lia
   ·have:0<ly.length:=r8.mpr c;rw[if_neg c,a2]
    lia
theorem sc_best_end:FnScope ["reached","asked","ends"] ["reached","asked"] (qAA qCO):=qBK
theorem ok_best_end (F:Fun K "best_end" "best_end" qCO f fd) (hcd:fd.code=.ref cc) (hBM:BM mg base) (qEP:hdIn K cc Pt=true) (qEI:Clb P w K mg base 1 qHC qLO "has_all" ["results","works"] qTY) (qKR:mg "min" = none):FnOk P w K mg base CX0 2 f fd ["reached","asked"] (qU2 Pt):=by
 refine F.okL hcd sc_best_end (λvs H Q E h=>?_) (λA al s H vs Q E hr h=>?_)
 ·obtain⟨d,t,o,Af,g,l,e,rfl,_⟩:=h
  rfl
 obtain⟨d,t,o,Af,g,l,e,rfl,ac,hd,a6,lk,hT,la,q⟩:=h;have hu:=qG7 hr;have aj:=hu2_of hr;have rm:Room 1 _:=hr;have as:Room 1 _:=hr;refine⟨_,(qA4 (qMH (i:=2) sc_best_end.nd rfl rfl rfl (lcs (own:=["stand"]) (fv:=[1]) (by kernel_rfl)) (qMK (pv 0)) (λz1=>qBN 0) (λz1=>(qDJ (qCC (qAT qEI hr rfl (qA0 (pv 0) (qA0 (pv 1) qA3)))))) (λz1=>(pv 0)) (by kernel_rfl)) (qA5 (qAE (qXV (p:="stand") (fv:=[0]) (q:="best_end.<locals>.<lambda>") rm rfl rfl qKR qP2 hBM rfl qEP (by kernel_rfl) (lms (by kernel_rfl)) rfl (λ_ _ _ _ _=>rfl) (qeK aj) (qA0 (pv 2) qA3) (λz2=>(qBY (qA0 (qB9 (qHV (K:=K) rfl) (qDK (lm_hu _) (pv 1) (pv 0) (λ_ _=>rfl)) qA7 (λ_ _=>rfl)) (qA0 (pv 0) qA3)))) qF8)))),?_⟩
 try dsimp only[Cx.nox,Cx.wish,cxOf]
 have ln:=a6.len;refine⟨_,rfl,d,o,Af,rfl,hd,λle ab=>?_⟩;refine qY9 (p:=le) (a:=d) (o:=o) (Af:=Af) (λk σ Hd=>∃(v0:Option V) (er:List Addr),σ=[v0,some (.ref t)]/\Same H Hd/\Hd le=some (.lst (er.map V.ref))/\StL Hd er ((g.take k).filter λs=>decide (∀x∈e,x∈s))) ?_ ?_ ?_ ?_
 ·exact⟨none,[],rfl,qA2 ab _,qA1,.nil⟩
 ·refineλk σ Hd hk a9=>opq λar ae=>?_;obtain⟨v0,er,rfl,sd,_⟩:=a9;refine ae ?_;exact sd _ _ hd
 ·refineλk a7 v r σ Hd y a8 aa=>opq λao af=>?_;obtain⟨v0,er,rfl,sd,ge,SE⟩:=aa;obtain⟨m,u,e1,v3⟩:=qAS a6 y;refine af ?_;dsimp only at e1;subst e1;rw[qC3] at a8;have ap:=(A3.mp u).1;have lE:er.length=((g.take k).filter λs=>decide (∀x∈e,x∈s)).length:=C1 SE;have am:=P4 (λs:List Int=>decide (∀x∈e,x∈s)) (g.take k);rw[C5] at am;refine⟨_,rfl,_,rfl,true,r,t,m,e,rfl,a8,.inl (sd _ _ hT),la,λH2 n=>⟨_,rfl,?_⟩⟩;rw[C8,u,C9,y4];by_cases c:∀x∈e,x∈m
  ·rw[decide_eq_true c];refine⟨_,rfl,_,n _ _ ge,qB2 (by rw[A0];lia),?_⟩
   rw[qB6];refine⟨_,er++[r],rfl,qAB (sd.trans n) ab,qA1,?_⟩;rw[O1,if_pos (decide_eq_true c)];exact((SE.same n).snoc (n _ _ a8)).put (n _ _ ge) λxs z=>by cases z
  ·rw[decide_eq_false c];refine⟨_,er,rfl,sd.trans n,n _ _ ge,?_⟩;rw[O1,if_neg (by rw[decide_eq_false c];exact B4),B28,P7]
   exact SE.same n
 refineλσ H1 ag=>opq λaq ad=>?_;obtain⟨v0,er,rfl,s1,ge,SE⟩:=ag;refine ad ?_;rw[ln,L4] at SE;have lE:er.length=(g.filter λs=>decide (∀x∈e,x∈s)).length:=C1 SE;refine⟨_,rfl,s1 _ _ ac,le,er.map V.ref,(g.filter λs=>decide (∀x∈e,x∈s)).map λs=>(l s:Int)::s,?_⟩;have a7:∀(i:Nat) (x:V) (k:List Int),(er.map V.ref)[i]?=some x->((g.filter λs=>decide (∀x∈e,x∈s)).map λs=>(l s:Int)::s)[i]?=some k->∃r s,x=.ref r/\k=(l s:Int)::s/\s∈g/\(∀x∈e,x∈s)/\H1 r=some (.tup (s.map V.int)):=by
  intro i x k y hk;obtain⟨r,a0,rfl⟩:=qC4 y;obtain⟨m,u,gs⟩:=qAS SE a0;rw[B9,u] at hk;cases hk;have hm:=D6.mp (A9 u);exact⟨r,m,rfl,rfl,hm.1,of_decide_eq_true hm.2,gs⟩
 have ai:∀(i:Nat) (x:V) (k:List Int),(er.map V.ref)[i]?=some x->((g.filter λs=>decide (∀x∈e,x∈s)).map λs=>(l s:Int)::s)[i]?=some k->∀Hc,Sm0 H1 Hc->∃r s vr xx yy,x=.ref r/\k=(l s:Int)::s/\Hc r=some (.tup (s.map V.int))/\DGet Hc d (.ref r) (some (.ref vr))/\Hc vr=some (.tup [.int (l s:Int),xx,yy]):=by
  intro i x k y hk Hc sc;obtain⟨r,m,e1,e2,e3,e4,e5⟩:=a7 i x k y hk;obtain⟨v,ev,vr,xx,yy,e6,e7⟩:=a6.val e3;subst e6;have gr:=sc _ _ e5;refine⟨r,m,vr,xx,yy,e1,e2,gr,?_,sc _ _ (s1 _ _ e7)⟩;rw[<- ev];exact .inr ⟨Af,keyS m,r,.inr ⟨o,sc _ _ (s1 _ _ hd)⟩,rfl,by rw[qC3];exact gr,rfl⟩
 cases er with
 |nil=>
  have he:(g.filter λs=>decide (∀x∈e,x∈s))=[]:=O3.mp lE.symm;refine⟨.non,rfl,ge,by rw[A0,A0,he];rfl,λi x k y=>by simp at y,by rw[he];rfl,λH2 n=>(q H2 (s1.trans n)).1 λs hs c=>?_⟩
  have:s∈g.filter λs=>decide (∀x∈e,x∈s):=D6.mpr ⟨hs,decide_eq_true c⟩;rw[he] at this;cases this
 |cons r0 er=>
  cases eZ:((r0::er).map V.ref).zip ((g.filter λs=>decide (∀x∈e,x∈s)).map λs=>(l s:Int)::s) with
  |nil=>
   exfalso
   have:=congrArg T3 eZ;rw[A43,A0,A0,<- lE,D3,O9] at this
   lia
  |cons b rest=>
   obtain⟨k,h1,h2⟩:=qJP rest b;rw[<- eZ] at h1 h2;have ah:∀p:V×List Int,p∈((r0::er).map V.ref).zip ((g.filter λs=>decide (∀x∈e,x∈s)).map λs=>(l s:Int)::s)->∃i:Nat,((r0::er).map V.ref)[i]?=some p.1/\((g.filter λs=>decide (∀x∈e,x∈s)).map λs=>(l s:Int)::s)[i]?=some p.2:=by
    intro p hp;obtain⟨i,hi⟩:=E5 hp;rw[A01] at hi;exact⟨i,hi.1,hi.2⟩
   obtain⟨i,g1,g2⟩:=ah _ h1;obtain⟨r,m,e1,e2,e3,e4,e5⟩:=a7 i _ _ g1 g2;refine⟨qF3 b rest,rfl,ge,by rw[A0,A0,lE],λi x k y hk Hc sc=>?_,rfl,λH2 n=>?_⟩
   ·obtain⟨r,m,vr,xx,yy,a1,a2,a3,a4,a5⟩:=ai i x k y hk Hc sc;subst a1 a2;exact⟨_,rfl,_,rfl,d,.ref vr,rfl,a4,vr,_,_,_,rfl,rfl,SqT.of a5,rfl,_,rfl,(by show 2<=B64;decide),λp hp=>⟨qA2 hp _,p,r,_,m,rfl,rfl,qA1,by rw[qA9 (qA6 a3 hp)];exact a3⟩⟩
   ·have e1:qF3 b rest=.ref r:=e1;rw[e1];refine(q H2 (s1.trans n)).2 r m (n _ _ e5) e3 e4 λs' an c'=>?_;have hf:s'∈g.filter λs=>decide (∀x∈e,x∈s):=D6.mpr ⟨an,decide_eq_true c'⟩;obtain⟨j,hj⟩:=E5 hf;have ak:=(A3.mp hj).1;have a0:j<((r0::er).map V.ref).length:=by rw[A0,lE];exact ak
    have hq:(((r0::er).map V.ref)[j],(l s':Int)::s')∈((r0::er).map V.ref).zip ((g.filter λs=>decide (∀x∈e,x∈s)).map λs=>(l s:Int)::s):=
     A9 (i:=j) (A01.mpr ⟨A4 a0,by rw[B9,hj];rfl⟩)
    have hl:=h2 _ hq;have e2:k=(l m:Int)::m:=e2;rw[e2] at hl;dsimp only at hl;rw[HT.lexLt_cons] at hl;by_cases c:(l s':Int)=(l m:Int)
    ·lia
    ·rw[if_neg c] at hl;have:=of_decide_eq_false hl
     lia
theorem MovL.rev {H:Hp}{c:List Addr}{b:List Mv}(h:MovL H c b):MovL H c.reverse b.reverse:=by
 induction h with
 |nil=>exact .nil
 |@cons r m l1 l2 a _ ih=>
  rw[i8,i8];exact T5 ih a
theorem sc_plan_to:FnScope ["reached","stand","plan"] ["reached","stand"] (qAA qGP):=qBK
theorem ok_plan_to (F:Fun K "plan_to" "plan_to" qGP f fd):FnOk P w K mg base CX0 1 f fd ["reached","stand"] qTV:=by
 refine F.okA sc_plan_to λag A a9 s H vs Q E hr h=>?_;obtain⟨d,t,o,Af,Ae,Aa,ks,fu,g,u,rfl,gd,ae,wf,RC,FR,lk,gt,l,q⟩:=h;have hu:=qG7 hr;refine⟨_,(qA4 (qAJ (i:=2) sc_plan_to.nd rfl (E8 rfl) (qBW qA3)) (qA4 (qGU D7 (qC6 (qHO (qB9 qBI (qDK hu (pv 0) (pv 1) (λ_ _=>rfl)) qA7 (λ_ _=>rfl)))) (qA4 (qEM (qO6 J1 J6 J7 qCK (pv 2) (qA0 (qB9 qBI (qDK hu (pv 0) (pv 1) (λ_ _=>rfl)) qA7 (λ_ _=>rfl)) qA3))) (qA5 (qAJ (i:=1) sc_plan_to.nd rfl (E8 rfl) (qB9 qBI (qDK hu (pv 0) (pv 1) (λ_ _=>rfl)) qA7 (λ_ _=>rfl)))))) (qA4 (qEM (qcQ J1 PySem.F.slot_list_reverse PySem.F.type_list_reverse qSY (pv 2))) (qA5 (qAE (pv 2)))))),?_⟩
 try dsimp only[Cx.nox,Cx.wish,cxOf]
 have pv:=FR.1;obtain⟨u0,_,af⟩:=RC.snd u l;have ep:pth fu g u=qF9 g u0 u:=by unfold pth;rw[show 2*fu u-u.length=u0 by lia]
 have a6:=(qPP wf RC pv l).2.2.2;rw[ep] at a6;refine⟨(by show 0<=B64;decide),λj e=>?_⟩
 have s1:=qA2 e (.lst []);refine⟨λm σ c=>∃(tr:Addr) (cur:List Int) (rs:List Addr) (done:List Mv),σ=[some (.ref d),some (.ref tr),some (.ref j)]/\Same H c/\c tr=some (.tup (cur.map V.int))/\cur∈ks/\2*fu cur=m+cur.length/\c j=some (.lst (rs.map V.ref))/\MovL c rs done/\qF9 g u0 u=qF9 g m cur++done.reverse,
  ⟨u0,t,u,[],[],rfl,s1,s1 _ _ gt,l,af,qA1,.nil,by simp⟩,?_⟩
 refineλm σ c y=>opq λai a7=>?_;obtain⟨tr,cur,rs,done,rfl,sm,n,k,em,a,ML,ed⟩:=y;refine a7 ?_;have ld:rs.length=done.length:=C1 ML;have ah:done.length+1<=ks.length:=by
  have:=congrArg T3 ed;rw[B0,A64] at this
  lia
 obtain⟨v,ev,vx⟩:=(ae.same sm).val k;rcases pv cur k with⟨a1,a2,a3⟩|⟨p,mv,a1,a2,a3,a4,a5⟩
 ·rw[a2] at vx;obtain⟨b,rfl,gv⟩:=vx;have dg:DGet c d (.ref tr) (some (.ref b)):=.inr ⟨Af,keyS cur,tr,.inr ⟨o,sm _ _ gd⟩,rfl,by rw[qC3];exact n,ev.symm⟩
  refine⟨_,rfl,_,rfl,d,.ref b,rfl,dg,b,_,_,_,rfl,rfl,SqT.of gv,rfl,_,rfl,?_⟩;refine iteF ?_;refine⟨_,rfl,.inl ⟨rfl,_,SqL.of a⟩,j,_,rfl,rfl,a,?_⟩;refine⟨_,rfl,q j _ (qAB sm e) e ?_⟩;have en:qF9 g m cur=[]:=by
   cases m with
   |zero=>rfl
   |succ m=>show(match g cur with|none=>[]|some (p,m')=>qF9 g m p++[m'])=[];rw[a2]
  rw[en,A37] at ed;rw[ep,ed];refine⟨rs.reverse,by rw[qA1,List.map_reverse],?_⟩
  exact(MovL.rev ML).putG a λx z=>by cases z
 ·rw[a1] at vx;obtain⟨b,rp,rm,rfl,gv,ab,ac⟩:=vx;have dg:DGet c d (.ref tr) (some (.ref b)):=.inr ⟨Af,keyS cur,tr,.inr ⟨o,sm _ _ gd⟩,rfl,by rw[qC3];exact n,ev.symm⟩
  have a0:=em;rw[a5] at a0;obtain⟨v',e1,e2⟩:=qM3 RC a2 a3 (by rw[<- a4];exact a0)
  subst e1;refine⟨_,rfl,_,rfl,d,.ref b,rfl,dg,b,_,_,_,rfl,rfl,SqT.of gv,rfl,_,rfl,?_⟩;refine iteT ?_;refine qV0 λN0 ad=>?_;refine⟨_,rfl,.inl ⟨rfl,_,SqL.of a⟩,_,rfl,_,rfl,d,.ref b,rfl,dg,b,_,_,_,rfl,rfl,SqT.of gv,rfl,j,_,_,rfl,rfl,a,qB2 (by rw[A0];lia),?_⟩
  have s2:Same H (Ag c j (.lst (rs.map V.ref++[V.ref rm]))):=qAB sm e;have nt:∀kk x,HO.lst kk≠.tup x:=λkk x q=>by cases q
  have kp:∀(r:Addr) (x:List V),c r=some (.tup x)->(Ag c j (.lst (rs.map V.ref++[V.ref rm]))) r=some (.tup x):=λr x gg=>by
   rw[qA9 (qCP gg a λz=>nt _ _ z.symm)];exact gg
  have a8:DGet (Ag c j (.lst (rs.map V.ref++[V.ref rm]))) d (.ref tr) (some (.ref b)):=.inr ⟨Af,keyS cur,tr,.inr ⟨o,s2 _ _ gd⟩,rfl,by rw[qC3];exact kp _ _ n,ev.symm⟩
  refine⟨_,rfl,_,rfl,d,.ref b,rfl,a8,b,_,_,_,rfl,rfl,SqT.of (kp _ _ gv),rfl,?_⟩;refine ad _ _ ⟨v',by lia,rp,p,rs++[rm],done++[mv],rfl,s2,kp _ _ ab,a2,e2,by rw[qA1,qB6],?_,?_⟩
  ·exact MovL.putG (T5 ML ac) a (nt _)
  ·rw[ed];have aa:qF9 g (v'+1) cur=qF9 g v' p++[mv]:=by show(match g cur with|none=>[]|some (p,m')=>qF9 g v' p++[m'])=_;rw[a1]
   rw[aa,W5,P3]
   rfl
theorem sc_Ldoes:FnScope ["_law_net_here","_law_rooms","_law_plan","_law_asked_here","_law_stands","_law_word_here"] ["_law_net_here","_law_rooms","_law_plan","_law_asked_here"] (qAA qMD):=qBK
theorem ok_Ldoes (F:Fun K "_law_does" "_law_does" qMD f fd)
  (ad:Clb P w K mg base 2 qKG qTD "_law_played" ["_law_net_here","_law_rooms","_law_plan"] qQW)
  (ag:Clb P w K mg base 1 qI1 qQG "_law_is_move" ["_law_net_here","_law_move"] qR0)
  (ab:mg "isinstance" = none) (qDI:mg "list" = none) (o:mg "all" = none):FnOk P w K mg base CX0 3 f fd ["_law_net_here","_law_rooms","_law_plan","_law_asked_here"] qTZ:=by
 refine F.okA sc_Ldoes λaw A ai s H vs Q E hr h=>?_;obtain⟨a,l,t,Ae,ms,Aa,Ad,b,rfl,PI,aa,hT,la,a8,q⟩:=h;obtain⟨hN,wf,an,hP,au,a7,r0,r1⟩:=id PI;have ax:Room 2 _:=hr;refine⟨_,(qA4 (qBF (PW.pt (qG6 (qCM (qCC (qA8 qBH rfl ab qAW (qA0 (pv 2) (qA0 (qD6 (v:=.ty "list") rfl qDI qFM rfl) qA3))))) (qEA (qCM (qCC (qA8 (qEY rfl) rfl o qKL (qA0 (qCJ rfl (lcs (own:=["_law_move"]) (fv:=[0]) (by kernel_rfl)) (qC2 (pv 2)) (λz1=>qBN 0) (λz1=>qB0) (λz1=>(qAT ag hr rfl (qA0 (pv 1) (qA0 (pv 0) qA3))))) qA3))))))) (qA5 (qAE qCF)) qAL) (qA4 (qRD (qAT ad hr rfl (qA0 (pv 0) (qA0 (pv 1) (qA0 (pv 2) qA3)))) (qL9 rfl (qBV (qAR (i:=4) sc_Ldoes.nd rfl (A05 rfl)) (qBV (qAR (i:=5) sc_Ldoes.nd rfl (E8 rfl)) qGC)))) (qA5 (qAE (qI9 (qcP (qO7 (pv 5))) (qJQ (qA8 (qEY rfl) rfl o qKL (qA0 (qCJ rfl (lcs (own:=["_law_work"]) (fv:=[4]) (by kernel_rfl)) (qC7 (pv 3)) (λz2=>qBN 0) (λz2=>qB0) (λz2=>(qE3 (qIA (K:=K) rfl) (pv 0) (qB9 (qYC (K:=K) rfl) (pv 1) (qSV qL1 qA7) (λ_ _=>rfl)) (by with_unfolding_all rfl)))) qA3)))))))),?_⟩
 try dsimp only[Cx.nox,Cx.wish,cxOf]
 obtain⟨rs,hl,M⟩:=id hP;have av:=C1 M;refine⟨_,rfl,_,"list",_,true,rfl,TyOf.lst hl,rfl,_,rfl,?_⟩;refine⟨_,rfl,l,rfl,⟨_,SqL.of hl⟩,λp hp=>?_⟩;refine qE4 (p:=p) (a:=l) (xs:=rs.map V.ref) (λk σ Hc=>∃(v0:Option V),σ=[v0,some (.ref a)]/\Same H Hc/\Hc p=some (.lst ((E7 k true).map V.bl))) ?_ ?_ ?_ ?_
 ·exact⟨none,rfl,qA2 hp _,qA1⟩
 ·rintro k σ Hc hk ⟨v0,rfl,sm,_⟩;exact SqL.of (sm _ _ hl)
 ·refineλk x σ Hc hx u=>opq λao a5=>?_;obtain⟨v0,rfl,sm,g⟩:=u;obtain⟨mv,ah,rfl⟩:=qC4 hx;obtain⟨⟨Ac,wk⟩,hm,hH⟩:=qAS M ah;refine a5 ?_;have hk:=(A3.mp hm).1;obtain⟨hw,aj,ak⟩:=a7 _ (A9 hm);refine⟨_,rfl,_,rfl,a,mv,Ae,Ac,wk,rfl,hN.same sm,sm _ _ hH,hw,aj,ak,λH2 a4=>?_⟩;refine⟨_,a4 _ _ g,qB2 (by rw[A0,Q5];lia),_,rfl,qAB (sm.trans a4) hp,?_⟩
  rw[qA1,qWV]
 refineλσ Hc a9=>opq λaq a2=>?_;obtain⟨v0,rfl,sm,g⟩:=a9;refine a2 ?_;refine⟨p,_,rfl,SqL.of g,_,rfl,?_⟩;rw[qX2];refine⟨_,rfl,_,rfl,_,rfl,a,l,Ae,ms,Aa,rfl,PI.same sm,λT ls c v H3 al pl gT ar SA lst=>?_⟩;obtain⟨am,ae,el,_,_⟩:=aa.play .nil;obtain⟨e1,e2⟩:=Play.one a7 pl ae;subst e1 e2;obtain⟨m,af,NK⟩:=SA;obtain⟨ss,r,ac,gr⟩:∃ss r,m=ss++[r]/\H3 r=some (.tup (b.map V.int)):=by
  have ne:m≠[]:=λz=>by rw[z] at NK;cases NK
  refine⟨m.dropLast,m.getLast ne,(List.dropLast_concat_getLast ne).symm,?_⟩;have lk:=C1 NK;have hk:m.length-1<m.length:=by rw[lk,D3];lia
  obtain⟨z,hz,gz⟩:=qAS NK (A4 hk);have ez:z=b:=by
   rw[<- el];have:([]::c)[m.length-1]?=some (qRR [] c):=by
    rw[lk,D3,u9];exact qLF c []
   rw[this] at hz;exact(D5 hz).symm
  rw[List.getLast_eq_getElem ne,<- ez];exact gz
 subst ac;have s3:=sm.trans al;refine⟨T,_,rfl,SqT.of gT,rfl,_,_,rfl,_,_,rfl,rfl,?_⟩;refine⟨_,rfl,_,rfl,?_⟩;rw[decide_eq_true (rfl:V.non=V.non)];have d:atI ((ss++[r]).map V.ref) (-1)=some (.ref r):=by rw[B1];exact qSB _ _
 refine⟨_,rfl,t,rfl,⟨_,SqT.of (s3 _ _ hT)⟩,λp2 a1=>?_⟩;refine qCN (p:=p2) (a:=t) (xs:=Ad.map V.int) (λk σ j=>∃(v0:Option V),σ=[v0,some (.ref ls)]/\Same H3 j/\j p2=some (.lst ((E7 k true).map V.bl))) ?_ ?_ ?_ ?_
 ·exact⟨none,rfl,qA2 a1 _,qA1⟩
 ·rintro k σ j hk ⟨v0,rfl,sd,_⟩;exact SqT.of (sd _ _ (s3 _ _ hT))
 ·refineλk x σ j hx n=>opq λas a3=>?_;obtain⟨v0,rfl,sd,e⟩:=n;obtain⟨y,ey,rfl⟩:=qB5 hx;refine a3 ?_;have hk:=(A3.mp ey).1;refine⟨_,rfl,_,rfl,_,rfl,ls,_,_,_,rfl,rfl,SqL.of (sd _ _ af),d,r,_,rfl,.inr (SqT.of (sd _ _ gr)),rfl,qBZ b,_,e,qB2 (by rw[A0,Q5];lia),_,rfl,qAB sd a1,?_⟩
  show(Ag j p2 (.lst ((E7 k true).map V.bl++[V.bl (inV (.int y) (b.map V.int))]))) p2=_;rw[qDN,decide_eq_true (a8 _ (A9 ey)),qA1,qWV]
 ·refineλσ j a0=>opq λap a6=>?_;obtain⟨v0,rfl,sd,e⟩:=a0;refine a6 ?_;refine⟨p2,_,rfl,SqL.of e,?_⟩;rw[qX2];exact q j (s3.trans sd)
theorem qJJ:FnScope ["works","asked"] ["works","asked"] (qAA qCU):=qBK
theorem ok_part_numbers (F:Fun K "part_numbers" "part_numbers" qCU f fd) (a1:mg "tuple" = none):FnOk P w K mg base CX0 1 f fd ["works","asked"] qM6:=by
 refine F.okA qJJ λa4 A r s H vs Q E hr h=>?_;obtain⟨t,u,o,z,rfl,hT,hU,nd,la,lw,a2,q⟩:=h;refine⟨_,(qA5 (qAE (qAD qAH rfl a1 qAP (qA0 (qCJ rfl (lcs (own:=["work"]) (fv:=[0]) (by kernel_rfl)) (qC7 (pv 1)) (λz1=>qBN 0) (λz1=>qB0) (λz1=>(qO5 (X:=lcCx _ _ _ _ z1) Q9 R0 R4 (qDL (K:=K) rfl) (pv 1) (qA0 (pv 0) qA3)))) qA3)))),?_⟩
 try dsimp only[Cx.nox,Cx.wish,cxOf]
 refine⟨_,rfl,u,rfl,⟨_,SqT.of hU⟩,λp hp=>?_⟩;refine qCN (p:=p) (a:=u) (xs:=z.map V.int) (λi σ n=>∃(v0:Option V),σ=[v0,some (.ref t)]/\Same H n/\n p=some (.lst ((qB1 o (z.take i)).map V.int))) ?_ ?_ ?_ ?_
 ·exact⟨none,rfl,qA2 hp _,qA1⟩
 ·rintro i σ n hi ⟨v0,rfl,sm,_⟩;exact SqT.of (sm _ _ hU)
 ·refineλi x σ n hx g=>opq λa3 c=>?_;obtain⟨v0,rfl,sm,b⟩:=g;obtain⟨y,ey,rfl⟩:=qB5 hx;refine c ?_;have lt:=(A3.mp ey).1;have d:=hT.same sm;have hy:=a2 y (A9 ey);obtain⟨j,v⟩:=E5 hy;have lk:(qB1 o (z.take i)).length<=i:=F5 (G7 _ _) (by rw[C5];lia)
  have first:∀k,k<j->o[k]?≠some y:=λk hk e=>by
   obtain⟨h1,e1⟩:=A3.mp e;obtain⟨h2,e2⟩:=A3.mp v;exact absurd (e1.trans e2.symm) (F8.mp nd k j h1 h2 hk)
  refine⟨_,rfl,⟨t,_,rfl,d⟩,_,rfl,t,o,y,j,rfl,rfl,d.sq,v,first,_,b,qAG (by rw[A0];lia),_,rfl,qAB sm hp,?_⟩
  rw[qA1];unfold qB1;rw[C8,ey,C9,U9,K0,qC1 nd v,B1]
  rfl
 ·refineλσ n m=>opq λa5 l=>?_;obtain⟨v0,rfl,sm,b⟩:=m;refine l ?_;rw[A0,L4] at b;refine⟨p,_,rfl,.inl ⟨SqL.of b,λr' a0=>?_⟩⟩;exact q r' _ (sm.trans (qA2 a0 _)) qA1
theorem sc_fewest:FnScope ["net","asked","works","part","wanted","rooms","end","reached"] ["net","asked"] (qAA qIW):=qBK
theorem ok_fewest (F:Fun K "fewest" "fewest" qIW f fd) (au:Clb P w K mg base 1 qDX qHA "all_needed" ["net","asked"] qU6) (b6:Clb P w K mg base 2 qEE qGH "part_net" ["net","works"] qM5) (ar:Clb P w K mg base 1 qCY qFG "part_numbers" ["works","asked"] qM6) (b4:Clb P w K mg base 4 qC9 qED "stands_reached" ["net","rooms"] qM4) (b5:Clb P w K mg base 2 qDG qKC "best_end" ["reached","asked"] (qU2 Pt)) (b0:Clb P w K mg base 1 qKE qTB "plan_to" ["reached","stand"] qTV) (b7:mg "tuple" = none):FnOk P w K mg base CX0 5 f fd ["net","asked"] (qZ5 Pt):=by
 refine F.okA sc_fewest λbh A aw s H vs Q E hr h=>?_;obtain⟨a,t,l,u,rfl,ae,hN,wf,bg,⟨hT,rA⟩,a1,q⟩:=h;have b9:Room 4 _:=hr;refine⟨_,(qA4 (qAJ (i:=2) sc_fewest.nd rfl (A05 rfl) (qAD qKI rfl b7 qAP (qA0 (qAT au hr rfl (qA0 (pv 0) (qA0 (pv 1) qA3))) qA3))) (qA4 (qAJ (i:=3) sc_fewest.nd rfl (E8 rfl) (qAT b6 hr rfl (qA0 (pv 0) (qA0 (pv 2) qA3)))) (qA4 (qAJ (i:=4) sc_fewest.nd rfl (E8 rfl) (qAT ar hr rfl (qA0 (pv 2) (qA0 (pv 1) qA3)))) (qA4 (qAJ (i:=5) sc_fewest.nd rfl (E8 rfl) qA7) (qA4 (qAJ (i:=6) sc_fewest.nd rfl (E8 rfl) qF8) (qA4 (qGU D7 (qC6 (qO7 (pv 6))) (qA4 (qcF (i:=5) sc_fewest.nd rfl (E8 rfl) qA7 qd3) (qA4 (qAJ (i:=7) sc_fewest.nd rfl (E8 rfl) (qAT b4 hr rfl (qA0 (pv 3) (qA0 (pv 5) qA3)))) (qA5 (qAJ (i:=6) sc_fewest.nd rfl (E8 rfl) (qAT b5 hr rfl (qA0 (pv 7) (qA0 (pv 4) qA3)))))))) (qA5 (qAE (qBY (qA0 (pv 5) (qA0 (qCJ rfl (lcs (own:=["word","number"]) (fv:=[2]) (by kernel_rfl)) (qC2 (qAT b0 hr rfl (qA0 (pv 7) (qA0 (pv 6) qA3)))) (λz2=>qUK (K:=K) (n:=2) rfl rfl (qBV (qBN 0) (qBV (qBN 1) qGC)) rfl rfl) (λz2=>qB0) (λz2=>(qBY (qA0 (pv 0) (qA0 (qB9 (qHV (K:=K) rfl) (pv 2) (pv 1) (λ_ _=>rfl)) qA3))))) qA3))))))))))),?_⟩
 try dsimp only[Cx.nox,Cx.wish,cxOf]
 refine⟨_,rfl,_,rfl,a,t,l,u,rfl,hN,wf,by lia,hT,rA.in_,λla k H1 s1 be aq N=>?_⟩
 refine⟨la,_,rfl,SqL.of aq,λtw ob b2 oc od=>?_⟩;have s2:=s1.trans (qA2 b2 (.frz ob (.tup (k.map V.int))));have a0:BareT (Ag H1 tw (.frz ob (.tup (k.map V.int)))) tw (k.map V.int):=⟨ob,qA1,oc,od⟩;generalize Ag H1 tw (.frz ob (.tup (k.map V.int)))=H2 at s2 a0;refine⟨_,rfl,_,rfl,a,tw,l,k,rfl,hN.same s2,wf,by lia,(let⟨o,e,_⟩:=a0;.inr ⟨o,e⟩),N.1,λb H3 s3 hB=>?_⟩
 have al:=s2.trans s3;have lw:=N.1.len;have ha:∀x∈u,x∈k:=λx hx=>(N.2 x).mpr (.ask hx);have am:=rA.len;refine⟨_,rfl,_,rfl,tw,t,k,u,rfl,a0.same s3,al _ _ hT,N.1.nodup,by lia,by lia,ha,λwt H4 s4 ax=>?_⟩
 have a5:=al.trans s4;have ad:=(a0.same s3).same s4;have b1:=hB.same s4;have wp:WFn (qBR l k):=qCD wf N.1;have lp:=qBL l k;have rW:=qFO N rA;have w1:1<=k.length:=by
  cases u with
  |nil=>simp at a1
  |cons x u=>exact W9 (ha x (by simp))
 have lW:=rW.len;refine⟨λm σ Hc=>∃(r:Nat) (e:V) (v7:Option V),σ=[some (.ref a),some (.ref t),some (.ref tw),some (.ref b),some (.ref wt),some (.int (r:Int)),some e,v7]/\Same H4 Hc/\
   ((e=.non/\m=k.length+1 - r/\r<=k.length/\∀ r':Int,1<=r'->r'<=(r:Int)->¬ DoneIn l k u r')\/
    (∃rr d o Af ks fu g st,e=.ref rr/\v7=some (.ref d)/\m=0/\Hc d=some (.frz o (.dT Af))/\EntX Hc Af ks fu g/\Rch (qBR l k) (r:Int) ks fu/\PrvH (qBR l k) (r:Int) ks fu g/\Hc rr=some (.tup (st.map V.int))/\(st∈ks/\∀x∈qB1 k u,x∈st)/\LeastR l k u (r:Int))),
  ⟨_,0,.non,none,rfl,Same.refl _,.inl ⟨rfl,rfl,F3 _,λr' h1 h2=>absurd h1 (by lia)⟩⟩,?_⟩
 refineλm σ Hc ag=>opq λbd a9=>?_;obtain⟨r,e,v7,rfl,sm,ay⟩:=ag;refine a9 ?_;rcases ay with⟨rfl,rfl,rn,nb⟩|⟨rr,d,o,Af,ks,fu,g,st,rfl,rfl,rfl,gd,ent,y,FR,a6,B,LR⟩
 ·refine⟨_,rfl,_,rfl,?_⟩;refine iteT ?_;refine qV0 λN0 aj=>?_;refine⟨_,rfl,_,_,rfl,rfl,?_⟩;refine⟨_,rfl,_,rfl,b,qBR l k,(r:Int)+1,rfl,b1.same sm,wp,by lia,λd o Af ks fu g H5 s5 bf gd ent y FR=>?_⟩
  have v:=sm.trans s5;have lk:=y.len;have pw:2^(qBR l k).length<=2^12:=L6 (by decide) (by lia)
  refine⟨_,rfl,_,rfl,d,wt,o,Af,ks,fu,qB1 k u,rfl,v _ _ (a5 _ _ ae),gd,ent.ent,F5 lk (by lia),v _ _ ax,by lia,λH6 s6=>⟨λhn=>?_,λrr st a6 a8 a2 a3=>?_⟩⟩
  ·have nd:=qZE N rA (qP8 wp rW y hn);have ab:∀r':Int,1<=r'->r'<=((r+1:Nat):Int)->¬DoneIn l k u r':=λr' h1 h2=>by
    by_cases c:r'<=(r:Int)
    ·exact nb r' h1 c
    ·rw[show r'=((r+1:Nat):Int) by lia]
     exact nd
   have ao:r+1<=k.length:=by
    apply G4;intro z;exact ab (k.length:Int) (by lia) (by lia) (qVX wf N)
   exact aj _ _ ⟨k.length+1-(r+1),by lia,r+1,.non,_,rfl,v.trans s6,.inl ⟨rfl,rfl,ao,ab⟩⟩
  ·have dn:=qQ6 N rA (qP7 wp rW y a8 a2 a3);refine aj _ _ ⟨0,by lia,r+1,.ref rr,_,rfl,v.trans s6,.inr ⟨rr,d,o,Af,ks,fu,g,st,rfl,rfl,rfl,s6 _ _ gd,ent.same s6,y,FR,a6,⟨a8,a2⟩,by lia,dn,λr' h1 h2=>nb r' h1 (by lia)⟩⟩
 ·refine⟨_,rfl,_,rfl,?_⟩;refine iteF ?_;have lk:=y.len;have pw:2^(qBR l k).length<=2^12:=L6 (by decide) (by lia)
  refine⟨_,rfl,_,rfl,_,rfl,d,rr,o,Af,qBR l k,(r:Int),ks,fu,g,st,rfl,gd,ent,wp,y,FR,F5 lk (by lia),a6,B.1,λl0 H6 s6 ba PL=>?_⟩
  obtain⟨rs,ah,ML⟩:=PL;obtain⟨_,_,mv,b8⟩:=qPP wp y FR.1 B.1;have b3:rs.length=(pth fu g st).length:=C1 ML;have ac:=(ad.same sm).same s6;refine⟨l0,rfl,⟨_,SqL.of ah⟩,λp hp=>?_⟩;have fp:H p=none:=((a5.trans sm).trans s6).free hp;refine qE4 (p:=p) (a:=l0) (xs:=rs.map V.ref) (λj σ Hd=>∃(v0 v1:Option V) (ts:List Addr),σ=[v0,v1,some (.ref tw)]/\Same H6 Hd/\Hd p=some (.lst (ts.map V.ref))/\MovL Hd ts (renM k ((pth fu g st).take j))) ?_ ?_ ?_ ?_
  ·exact⟨none,none,[],rfl,qA2 hp _,qA1,.nil⟩
  ·rintro j σ Hd hj ⟨v0,v1,ts,rfl,sd,_⟩;exact SqL.of (sd _ _ ah)
  ·refineλj x σ Hd hx aa=>opq λbb ai=>?_;obtain⟨v0,v1,ts,rfl,sd,gp,MT⟩:=aa;obtain⟨as,av,rfl⟩:=qC4 hx;obtain⟨⟨Ac,wk⟩,a4,hH⟩:=qAS ML av;refine ai ?_;have hj:=(A3.mp a4).1;have af:=sd _ _ hH;dsimp only at af;obtain⟨_,w0,wb⟩:=mv _ (A9 a4);dsimp only at w0 wb;rw[lp] at wb;have hi:wk.toNat<k.length:=by lia
   have an:atI (k.map V.int) wk=some (.int (renW k wk)):=by
    have e:=qIC (xs:=k.map V.int) (i:=wk) (x:=.int k[wk.toNat]) w0 (by rw[B9,A4 hi];rfl)
    rw[e];unfold renW;rw[A4 hi]
    rfl
   have lt:ts.length=(renM k ((pth fu g st).take j)).length:=C1 MT;unfold renM at lt;rw[A0,C5] at lt;refine⟨as,_,rfl,SqT.of af,rfl,_,_,rfl,_,_,rfl,rfl,?_⟩;refine⟨_,rfl,_,rfl,_,rfl,tw,_,_,_,rfl,rfl,(ac.same sd).sq,an,(by show 2<=B64;decide),λtp az=>?_⟩
   have s7:=qA2 az (.tup [.str Ac,.int (renW k wk)]);refine⟨_,s7 _ _ gp,qB2 (by rw[A0];lia),_,_,ts++[tp],rfl,qAB (sd.trans s7) hp,by rw[qA1,qB6],?_⟩
   have er:renM k ((pth fu g st).take (j+1))=renM k ((pth fu g st).take j)++[(Ac,renW k wk)]:=by
    unfold renM;rw[C8,a4,C9,B1]
    rfl
   rw[er];exact MovL.putG (T5 (MT.same s7) qA1) (s7 _ _ gp) λxs z=>by cases z
  ·refineλσ H7 ak=>opq λbc a7=>?_;obtain⟨v0,v1,ts,rfl,sd,gp,MT⟩:=ak;refine a7 ?_;rw[A0,b3,L4] at MT;refine⟨(by show 2<=B64;decide),λT ap=>?_⟩
   have s8:=qA2 ap (.tup [.int (r:Int),.ref p]);exact q T p (r:Int) _ _ ((((a5.trans sm).trans s6).trans sd).trans s8) ⟨k,ks,fu,g,st,N,LR,y,FR.1,B,rfl⟩ fp ⟨ts,s8 _ _ gp,MT.same s8⟩ qA1
theorem qO0:FnScope ["thing"] ["thing"] (qAA qEK):=qBK
theorem ok_is_number (F:Fun K "is_number" "is_number" qEK f fd) (a:mg "isinstance" = none) (c:mg "int" = none) (d:mg "bool" = none):FnOk P w K mg base CX0 1 f fd ["thing"] qQX:=by
 refine F.okA qO0 λe A b s H j Q E g h=>?_;obtain⟨i,rfl,q⟩:=h;refine⟨_,(qA5 (qAE (qI9 (qA8 qBH rfl a qAW (qA0 (pv 0) (qA0 (qD6 (v:=.ty "int") rfl c qS8 rfl) qA3))) (qJQ (qUO (qA8 qBH rfl a qAW (qA0 (pv 0) (qA0 (qD6 (v:=.ty "bool") rfl d qWU rfl) qA3)))))))),?_⟩
 try dsimp only[Cx.nox,Cx.wish,cxOf]
 refine⟨_,rfl,_,"int",_,true,rfl,TyOf.int i,qZF,_,rfl,?_⟩;refine⟨_,rfl,_,"bool",_,false,rfl,TyOf.int i,qZG,_,rfl,?_⟩;exact q
theorem qPK:FnScope ["thing","end"] ["thing","end"] (qAA qFT):=qBK
theorem ok_is_below (F:Fun K "is_below" "is_below" qFT f fd) (a:Clb P w K mg base 1 qGI qOR "is_number" ["thing"] qQX):FnOk P w K mg base CX0 2 f fd ["thing","end"] qU3:=by
 refine F.okA qPK λe A b s H j Q E c h=>?_;obtain⟨i,k,rfl,d,g,q⟩:=h;refine⟨_,(qA5 (qAE (qI9 (qAT a c rfl (qA0 (pv 0) qA3)) (qJQ (qMM qXY qMO qA7 (pv 0) (pv 1)))))),?_⟩
 try dsimp only[Cx.nox,Cx.wish,cxOf]
 refine⟨_,rfl,i,rfl,_,rfl,?_⟩;refine⟨_,rfl,_,_,rfl,rfl,_,rfl,?_⟩;rw[decide_eq_true d];refine⟨_,rfl,_,_,rfl,rfl,?_⟩;dsimp only;rw[decide_eq_true g];exact q
theorem sc_is_rising:FnScope ["thing","end","least","number"] ["thing","end"] (qAA qEJ):=qBK
theorem ok_is_rising (F:Fun K "is_rising" "is_rising" qEJ f fd) (t:Clb P w K mg base 2 qHZ qQE "is_below" ["thing","end"] qU3) (u:mg "isinstance" = none) (a1:mg "tuple" = none):FnOk P w K mg base CX0 3 f fd ["thing","end"] qJE:=by
 refine F.okA sc_is_rising λa5 A r s H vs Q E hr h=>?_;obtain⟨a,n,k,rfl,y,o,hl,q⟩:=h;refine⟨_,(qA4 (qBF (qCM (qCC (qA8 qDZ rfl u qAW (qA0 (pv 0) (qA0 (qD6 (v:=.ty "tuple") rfl a1 qAP rfl) qA3))))) (qA5 (qAE qCF)) qAL) (qA4 (qAJ (i:=2) sc_is_rising.nd rfl (E8 rfl) qA7) (qA4 (qBT D7 rfl (qC7 (pv 0)) (qAR (i:=3) sc_is_rising.nd rfl (E8 rfl)) (qA4 (qBF (PW.pt (qG6 (qCM (qCC (qAT t hr rfl (qA0 (pv 3) (qA0 (pv 1) qA3))))) (qEA (qAN qMO (pv 3) (pv 2) (qAY _))))) (qA5 (qAE qCF)) qAL) (qA5 (qAJ (i:=2) sc_is_rising.nd rfl (E8 rfl) (qAU qF2 (pv 3) qA7))))) (qA5 (qAE qCF))))),?_⟩
 try dsimp only[Cx.nox,Cx.wish,cxOf]
 refine⟨_,rfl,_,"tuple",_,true,rfl,.inr ⟨a,_,rfl,y,rfl⟩,qRS true,_,rfl,?_⟩;refine⟨_,rfl,a,rfl,⟨_,.inl y⟩,qHX (a:=a) (xs:=n.map V.int) (λi σ p=>∃(least:Int) (v3:Option V),σ=[some (.ref a),some (.int k),some (.int least),v3]/\p=H/\∀(x:Int),x∈n.drop i->least<=x)
  ⟨0,none,rfl,rfl,λx j=>(o.in_ x j).1⟩ ?_ ?_ ?_⟩
 ·refineλi σ p hi c=>opq λa7 l=>?_;obtain⟨least,v3,rfl,rfl,_⟩:=c;refine l ?_;exact .inl y
 ·refineλi x σ p j e=>opq λa3 b=>?_;obtain⟨least,v3,rfl,rfl,a0⟩:=e;obtain⟨z,hz,rfl⟩:=qB5 j;refine b ?_;have g:=A9 hz;obtain⟨a2,ez⟩:=A3.mp hz;have ed:n.drop i=z::n.drop (i+1):=by rw[G3 a2,ez]
  refine⟨_,rfl,_,rfl,z,k,rfl,(o.in_ z g).1,(o.in_ z g).2,?_⟩;refine⟨_,rfl,_,rfl,_,rfl,_,_,rfl,rfl,_,rfl,?_⟩;have a4:least<=z:=a0 z (by rw[ed];exact D8 ..)
  rw[decide_eq_false (by lia:¬z<least)]
  refine⟨_,rfl,_,_,rfl,rfl,?_⟩;refine⟨z+1,_,rfl,rfl,λx j=>?_⟩;have up:=o.up.sublist (V8 i n);rw[ed,P8] at up;have:=up.1 x j
  lia
 ·refineλσ p d=>opq λa6 m=>?_;obtain⟨least,v3,rfl,rfl,_⟩:=d;refine m ?_;exact q _ (.refl _)
theorem qSN:FnScope ["thing"] ["thing"] (qAA qGQ):=qBK
theorem ok_is_pair (F:Fun K "is_pair" "is_pair" qGQ f fd) (b:mg "isinstance" = none) (d:mg "tuple" = none) (qBE:mg "len" = none):FnOk P w K mg base CX0 1 f fd ["thing"] qNT:=by
 refine F.okA qSN λg A c s H j Q E i h=>?_;obtain⟨a,x,y,rfl,e,q⟩:=h;refine⟨_,(qA5 (qAE (qI9 (qA8 qBH rfl b qAW (qA0 (pv 0) (qA0 (qD6 (v:=.ty "tuple") rfl d qAP rfl) qA3))) (qJQ (qE3 qHQ (qA8 qAC rfl qBE qBJ (qA0 (pv 0) qA3)) qA7 (qAY _)))))),?_⟩
 try dsimp only[Cx.nox,Cx.wish,cxOf]
 refine⟨_,rfl,_,"tuple",_,true,rfl,TyOf.tup e,qRS true,_,rfl,?_⟩;refine⟨_,rfl,a,_,rfl,.inr (SqT.of e),rfl,?_⟩;exact q
theorem qPJ:FnScope ["net","rooms","thing"] ["net","rooms","thing"] (qAA qFS):=qBK
theorem ok_is_stand (F:Fun K "is_stand" "is_stand" qFS f fd) (d:Clb P w K mg base 3 qET qIE "is_rising" ["thing","end"] qJE) (qBE:mg "len" = none):FnOk P w K mg base CX0 4 f fd ["net","rooms","thing"] qNS:=by
 refine F.okA qPJ λk A b s H vs Q E l h=>?_;obtain⟨a,t,z,y,u,rfl,p,o,g,i,m,q⟩:=h;obtain⟨v,r,j⟩:=id p;have c:=C1 j;have n:=i.len;refine⟨_,(qA5 (qAE (qI9 (qAT d l rfl (qA0 (pv 2) (qA0 (qA8 qAC rfl qBE qBJ (qA0 (pv 0) qA3)) qA3))) (qJQ (qE3 qXY (qA8 qAC rfl qBE qBJ (qA0 (pv 2) qA3)) (pv 1) (qAY _)))))),?_⟩
 try dsimp only[Cx.nox,Cx.wish,cxOf]
 refine⟨_,rfl,_,rfl,a,_,rfl,.inr (SqT.of r),?_⟩;rw[A0,c];refine⟨t,u,_,rfl,.inl g,i,by lia,λx e=>⟨_,rfl,?_⟩⟩
 refine iteT ?_;refine⟨_,rfl,t,_,rfl,.inr (SqT.of (e _ _ g)),_,rfl,_,_,rfl,rfl,?_⟩;dsimp only;rw[A0,decide_eq_true m];exact q _ e
theorem keyT {Af:List (List Key×V)}{z s:List Int}:(valV (putK Af (keyS z) (.bl true)) (keyS s)).isSome=(decide (s=z)||(valV Af (keyS s)).isSome):=by
 rw[qIU];by_cases e:s=z
 ·rw[e,if_pos rfl,decide_eq_true rfl];rfl
 ·rw[if_neg λh=>e (qFY h),decide_eq_false e,B42]
theorem keyL {Af:List (List Key×V)}{z:List Int}:∀{ks:List (List Int)},Af.map (·.1)=ks.map keyS->(putK Af (keyS z) (.bl true)).map (·.1)=(if z∈ks then ks else ks++[z]).map keyS:=by
 intro ks h;have i:(Af.any λa=>decide (a.1=keyS z))=decide (z∈ks):=by
  rw[L7,decide_eq_true_eq,A26]
  constructor
  ·refineλb=>opq λk c=>?_;obtain⟨a,d,f⟩:=b;refine c ?_;have:a.1∈ks.map keyS:=by rw[<- h];exact Q3 d
   obtain⟨y,g,e⟩:=D2.mp this;rw[of_decide_eq_true f] at e;rw[<- qFY e];exact g
  ·intro j;have:keyS z∈Af.map (·.1):=by rw[h];exact Q3 j
   obtain⟨a,d,f⟩:=D2.mp this;exact⟨a,d,decide_eq_true f⟩
 unfold putK;rw[i];by_cases e:z∈ks
 ·rw[decide_eq_true e,if_pos rfl,if_pos e,<- h,Z8];refine T9 λa _=>?_;show(if a.1=keyS z then(a.1,V.bl true) else a).1=a.1
  split<;>rfl
 ·rw[decide_eq_false e,if_neg (by decide),if_neg e,B1,B1,h]
  rfl
theorem sc_are_closed:FnScope ["net","rooms","stands","known","stand","move"] ["net","rooms","stands"] (qAA qDS):=qBK
theorem ok_are_closed (F:Fun K "are_closed" "are_closed" qDS f fd) (am:Clb P w K mg base 3 qG3 qKB "moves_of" ["net","rooms","stand"] qJF) (ae:Clb P w K mg base 1 qCX qFF "stand_behind" ["stand","move"] qE7):FnOk P w K mg base CX0 4 f fd ["net","rooms","stands"] qR1:=by
 refine F.okA sc_are_closed λb2 A al s H vs Q E hr h=>?_;obtain⟨a,l,Ae,Aa,aq,rs,ss,rfl,hN,wf,b1,gl,SL,l5,NV,q⟩:=h;have hu:=qG7 hr;refine⟨_,(qA4 (qAJ (i:=3) sc_are_closed.nd rfl (E8 rfl) qXW) (qA4 (qBT D7 rfl (qC2 (pv 2)) (qAR (i:=4) sc_are_closed.nd rfl (E8 rfl)) (qA5 (qEN hu (pv 3) (pv 4) qCF rfl))) (qA4 (qBT D7 rfl (qMK (qPU (pv 3))) (qAR (i:=4) sc_are_closed.nd rfl (E8 rfl)) (qA5 (qBT D7 rfl (qC2 (qAT am hr rfl (qA0 (pv 0) (qA0 (pv 1) (qA0 (pv 4) qA3))))) (qAR (i:=5) sc_are_closed.nd rfl (E8 rfl)) (qA5 (qBF (qC6 (qD3 hu (qAT ae hr rfl (qA0 (pv 4) (qA0 (pv 5) qA3))) (pv 3))) (qA5 (qAE qCF)) qAL))))) (qA5 (qAE qCF))))),?_⟩
 try dsimp only[Cx.nox,Cx.wish,cxOf]
 refine cut λN0 ao=>?_;intro b d;have s1:=qA2 d (.dT []);have g1:(Ag H b (.dT [])) b=some (.dT []):=qA1;generalize Ag H b (.dT [])=H1 at s1 g1 ⊢;refine ao _ _ (cut λN1 ap=>?_);have an:rs.length=ss.length:=C1 SL;refine⟨_,rfl,l,rfl,⟨_,SqL.of (s1 _ _ gl)⟩,qH9 (a:=l) (xs:=rs.map V.ref) (λi σ c=>∃(Af:List (List Key×V)) (ks:List (List Int)) (v4:Option V),σ=[some (.ref a),some (.int Aa),some (.ref l),some (.ref b),v4,none]/\Same H c/\c b=some (.dT Af)/\Af.map (·.1)=ks.map keyS/\(∀z:List Int,(valV Af (keyS z)).isSome=true↔z∈ss.take i)/\ks.length<=i/\∀z∈ks,z∈ss)
  ⟨[],[],none,rfl,s1,g1,rfl,λz=>by simp[valV],A7 _,λz hz=>nomatch hz⟩ (λi σ c _ hP=>by obtain⟨_,_,_,_,j,_⟩:=hP;exact SqL.of (j _ _ gl)) ?_ ?_⟩
 ·refineλi x σ c hx a1=>opq λas aa=>?_;obtain⟨Af,ks,v4,rfl,j,gd,ek,vk,lk,ik⟩:=a1;obtain⟨r,er,rfl⟩:=qC4 hx;obtain⟨z,ez,gz⟩:=qAS SL er;refine aa ?_;have hi:=(A3.mp ez).1;have ar:Af.length=ks.length:=by have:=congrArg T3 ek;rw[A0,A0] at this;exact this
  have ah:c r=some (.tup ((keyS z).map kV)):=by rw[qC3];exact j _ _ gz
  refine⟨_,rfl,_,rfl,b,_,rfl,DPut.t (k:=keyS z) gd ah (qB2 (by lia)),?_⟩
  refine⟨_,_,_,rfl,qAB j d,qA1,keyL ek,λy=>?_,?_,λy hy=>?_⟩
  ·rw[keyT,T6,decide_eq_true_eq,vk,C8,ez,C9,A8,A6];exact or_comm
  ·split
   ·lia
   ·rw[B0];show _+1<=_
    lia
  ·by_cases e:z∈ks
   ·rw[if_pos e] at hy;exact ik y hy
   ·rw[if_neg e] at hy;rcases A8.mp hy with h|h
    ·exact ik y h
    ·rw[A6.mp h];exact A9 ez
 ·refineλσ c ac=>opq λav a7=>?_;obtain⟨Af,ks,v4,rfl,j,gd,ek,vk,lk,ik⟩:=ac;refine a7 ?_;rw[A0,an,L4] at vk;refine ap _ _ (cut λN2 aj=>?_);refine⟨_,rfl,b,_,rfl,gd,λo=>⟨b,o,_,rfl,qA1,?_⟩⟩;have sd:Same H (Ag c b (.frz o (.dT Af))):=qAB j d;have g:(Ag c b (.frz o (.dT Af))) b=some (.frz o (.dT Af)):=qA1;generalize Ag c b (.frz o (.dT Af))=Hd at sd g ⊢;refine qLM (a:=b) (o:=o) (Af:=Af) (λi σ He=>∃(v4 v5:Option V),σ=[some (.ref a),some (.int Aa),some (.ref l),some (.ref b),v4,v5]/\Same Hd He)
   ⟨v4,none,rfl,.refl _⟩ (λi σ He _ ⟨_,_,_,z⟩=>z _ _ g) ?_ ?_
  ·refineλi k v r σ He ag gr a6=>opq λay a0=>?_;obtain⟨v4,v5,rfl,se⟩:=a6;refine a0 ?_;have hk:k∈ks.map keyS:=by rw[<- ek];exact Q3 (f:=λx:List Key×V=>x.1) (A9 ag)
   obtain⟨z,hz,rfl⟩:=D2.mp hk;rw[qC3] at gr;have a5:=ik z hz;have rz:=NV.rise z a5;have lz:=rz.len;refine⟨_,rfl,_,rfl,_,rfl,a,r,Ae,z,Aa,rfl,hN.same (sd.trans se),wf,by lia,gr,by lia,λlm rm H3 s3 fl gm ML=>?_⟩
   have aw:rm.length=(qD4 Ae z Aa).length:=C1 ML;refine⟨lm,rfl,⟨_,SqL.of gm⟩,qH9 (a:=lm) (xs:=rm.map V.ref) (λk σ Hf=>∃(v5:Option V),σ=[some (.ref a),some (.int Aa),some (.ref l),some (.ref b),some (.ref r),v5]/\Same H3 Hf)
    ⟨v5,rfl,.refl _⟩ (λk σ Hf _ hP=>by obtain⟨_,_,zf⟩:=hP;exact SqL.of (zf _ _ gm)) ?_ ?_⟩
   ·refineλk x σ Hf hx u=>opq λaz a9=>?_;obtain⟨v5,rfl,n⟩:=u;obtain⟨mv,ak,rfl⟩:=qC4 hx;obtain⟨⟨Ac,wk⟩,a4,a3⟩:=qAS ML ak;refine a9 ?_;dsimp only at a3;have hw:=(due_iff.mp (A9 a4)).1.1;refine⟨_,rfl,_,rfl,r,mv,z,Ac,wk,rfl,n _ _ (s3 _ _ gr),by lia,n _ _ a3,hw,λr2 b0 H4 s4 a8 ai=>?_⟩
    have e2:=qWY (m:=(Ac,wk)) rz hw ai;rw[e2] at a8;have af:=(vk _).mpr (NV.shut z a5 _ (A9 a4));refine⟨_,rfl,b,_,rfl,.inr ⟨Af,keyS (behL z (Ac,wk)),r2,.inr ⟨o,s4 _ _ (n _ _ (s3 _ _ (se _ _ g)))⟩,rfl,by rw[qC3];exact a8,rfl⟩,_,rfl,?_⟩
    rw[af];exact⟨_,rfl,n.trans s4⟩
   ·refineλσ Hf a2=>opq λau ab=>?_;obtain⟨v5,rfl,n⟩:=a2;refine ab ?_;exact⟨_,_,rfl,se.trans (s3.trans n)⟩
  ·refineλσ He ad=>opq λax p=>?_;obtain⟨v4,v5,rfl,se⟩:=ad;refine p ?_;exact aj _ _ (q _ (sd.trans se))
theorem qIO:FnScope ["net","wanted","rooms","stands"] ["net","wanted","rooms","stands"] (qAA qCI):=qBK
theorem ok_never_come_to (F:Fun K "never_come_to" "never_come_to" qCI f fd) (ab:Clb P w K mg base 4 qHY qQD "is_stand" ["net","rooms","thing"] qNS) (af:Clb P w K mg base 4 qFI qMW "are_closed" ["net","rooms","stands"] qR1) (qEI:Clb P w K mg base 1 qHC qLO "has_all" ["results","works"] qTY) (ae:mg "isinstance" = none) (qDI:mg "list" = none) (aa:mg "all" = none) (ad:mg "any" = none):FnOk P w K mg base CX0 5 f fd ["net","wanted","rooms","stands"] qNR:=by
 refine F.okA qIO λao A a8 s H vs Q E hr h=>?_;obtain⟨a,lw,l,Ae,Aa,d,m,ss,rfl,hN,wf,a4,gw,a9,o,SL,l5,NV,q⟩:=h;have a6:=hr.units;refine⟨_,(qA4 (qBF (PW.pt (qG6 (qCM (qCC (qA8 qBH rfl ae qAW (qA0 (pv 3) (qA0 (qD6 (v:=.ty "list") rfl qDI qFM rfl) qA3))))) (qEA (qCM (qCC (qA8 (qEY rfl) rfl aa qKL (qA0 (qCJ rfl (lcs (own:=["stand"]) (fv:=[0,2]) (by kernel_rfl)) (qC2 (pv 3)) (λz1=>qBN 0) (λz1=>qB0) (λz1=>(qAT ab hr rfl (qA0 (pv 1) (qA0 (pv 2) (qA0 (pv 0) qA3)))))) qA3))))))) (qA5 (qAE qCF)) qAL) (qA4 (qBF (PW.pt (qG6 (qAN (qMN a6) (qBY qA3) (pv 3) (by with_unfolding_all rfl)) (qEA (qCM (qCC (qAT af hr rfl (qA0 (pv 0) (qA0 (pv 2) (qA0 (pv 3) qA3))))))))) (qA5 (qAE qCF)) qAL) (qA5 (qAE (qUO (qA8 (qYY rfl) rfl ad qdH (qA0 (qCJ rfl (lcs (own:=["stand"]) (fv:=[1]) (by kernel_rfl)) (qC2 (pv 3)) (λz2=>qBN 0) (λz2=>qB0) (λz2=>(qAT qEI hr rfl (qA0 (pv 0) (qA0 (pv 1) qA3))))) qA3))))))),?_⟩
 try dsimp only[Cx.nox,Cx.wish,cxOf]
 have am:m.length=ss.length:=C1 SL;refine cut λN0 ac=>?_;refine⟨_,rfl,_,"list",_,true,rfl,TyOf.lst o,rfl,_,rfl,?_⟩;refine⟨_,rfl,l,rfl,⟨_,SqL.of o⟩,λp hp=>?_⟩;refine qE4 (p:=p) (a:=l) (xs:=m.map V.ref) (λi σ c=>∃(v:Option V),σ=[v,some (.ref a),some (.int Aa)]/\Same H c/\c p=some (.lst ((E7 i true).map V.bl))) ?_ ?_ ?_ ?_
 ·exact⟨none,rfl,qA2 hp _,qA1⟩
 ·rintro i σ c hi ⟨v,rfl,sm,_⟩;exact SqL.of (sm _ _ o)
 ·refineλi x σ c n a1=>opq λaj t=>?_;obtain⟨v,rfl,sm,k⟩:=a1;obtain⟨r,er,rfl⟩:=qC4 n;obtain⟨z,ez,gz⟩:=qAS SL er;refine t ?_;have hi:=(A3.mp ez).1;have hz:=A9 ez;refine⟨_,rfl,_,rfl,_,rfl,a,r,Ae,Aa,z,rfl,hN.same sm,a4,sm _ _ gz,NV.rise z hz,NV.few z hz,λH2 s2=>?_⟩;refine⟨_,s2 _ _ k,qB2 (by rw[A0,Q5];lia),_,rfl,qAB (sm.trans s2) hp,?_⟩
  rw[qA1,Y2,B1]
  rfl
 refineλσ c a7=>opq λap a5=>?_;obtain⟨v,rfl,sm,k⟩:=a7;refine a5 ?_;refine⟨p,_,rfl,SqL.of k,?_⟩;have al:((E7 (m.map V.ref).length true).all id)=true:=J3.mpr λx n=>by rw[(A85.mp n).2];rfl
 rw[al];refine⟨_,rfl,?_⟩;refine ac _ _ (cut λN1 ag=>?_);refine⟨(by show 0<=B64;decide),λe he=>?_⟩
 have g:=sm.trans (qA2 he (.tup []));have ge:(Ag c e (.tup [])) e=some (.tup (([]:List Int).map V.int)):=qA1;generalize Ag c e (.tup [])=H1 at g ge ⊢;refine⟨_,rfl,e,l,[],m,ss,rfl,rfl,ge,SqL.of (g _ _ o),SL.same g,_,rfl,?_⟩;rw[decide_eq_false (λh=>h NV.nil)];refine⟨_,rfl,_,rfl,_,rfl,a,l,Ae,Aa,d,m,ss,rfl,hN.same g,wf,a4,g _ _ o,SL.same g,l5,NV,λH2 s2=>⟨_,rfl,?_⟩⟩;have b:=g.trans s2;have ah:=SL.same b;refine ag _ _ ?_;refine⟨_,rfl,l,rfl,⟨_,SqL.of (b _ _ o)⟩,λp2 u=>?_⟩;refine qE4 (p:=p2) (a:=l) (xs:=m.map V.ref) (λi σ c=>∃(v:Option V),σ=[v,some (.ref lw)]/\Same H2 c/\c p2=some (.lst ((E7 i false).map V.bl))) ?_ ?_ ?_ ?_
 ·exact⟨none,rfl,qA2 u _,qA1⟩
 ·rintro i σ Hd hi ⟨v,rfl,sd,_⟩;exact SqL.of (sd _ _ (b _ _ o))
 ·refineλi x σ Hd n a0=>opq λai a3=>?_;obtain⟨v,rfl,sd,j⟩:=a0;obtain⟨r,er,rfl⟩:=qC4 n;obtain⟨z,ez,gz⟩:=qAS ah er;refine a3 ?_;have hi:=(A3.mp ez).1;refine⟨_,rfl,_,rfl,false,r,lw,z,d,rfl,sd _ _ gz,.inl (sd _ _ (b _ _ gw)),a9,λH3 s3=>?_⟩;rw[decide_eq_false (NV.no z (A9 ez))];refine⟨_,s3 _ _ j,qB2 (by rw[A0,Q5];lia),_,rfl,qAB (sd.trans s3) u,?_⟩
  rw[qA1,Y2,B1]
  rfl
 refineλσ Hd a2=>opq λak y=>?_;obtain⟨v,rfl,sd,j⟩:=a2;refine y ?_;refine⟨p2,_,rfl,SqL.of j,?_⟩;have an:((E7 (m.map V.ref).length false).any id)=false:=A87.mpr λx n=>by rw[(A85.mp n).2];decide
 rw[an];exact⟨_,rfl,q _ (b.trans sd)⟩
theorem qXQ {a:List Int}{x:Int}(h:x∉a):qCE a x=none:=by
 cases e:qCE a x with
 |none=>rfl
 |some p=>exact absurd (A9 (qGV e).2) h
theorem sc_shows_never:FnScope ["net","asked","rooms","thing","works","wanted"] ["net","asked","rooms","thing"] (qAA qD9):=qBK
theorem ok_shows_never (F:Fun K "shows_never" "shows_never" qD9 f fd) (ab:Clb P w K mg base 1 qKF qTC "is_pair" ["thing"] qNT) (aa:Clb P w K mg base 3 qET qIE "is_rising" ["thing","end"] qJE) (ad:Clb P w K mg base 2 qEE qGH "part_net" ["net","works"] qM5) (a4:Clb P w K mg base 5 qDQ qIT "never_come_to" ["net","wanted","rooms","stands"] qNR) (qBE:mg "len" = none):FnOk P w K mg base CX0 6 f fd ["net","asked","rooms","thing"] qQV:=by
 refine F.okA sc_shows_never λah A a5 s H vs Q E hr h=>?_;obtain⟨a,t,T,u,l,Ae,m,d,Aa,rs,ss,rfl,hN,wf,ak,⟨hT,rA⟩,PN,v,a6,l5,NV,q⟩:=h;refine⟨_,(qA4 (qBF (PW.pt (qG6 (qCM (qCC (qAT ab hr rfl (qA0 (pv 3) qA3)))) (qEA (qCM (qCC (qAT aa hr rfl (qA0 (qB9 qBI (pv 3) qA7 (λ_ _=>rfl)) (qA0 (qA8 qAC rfl qBE qBJ (qA0 (pv 0) qA3)) qA3)))))))) (qA5 (qAE qCF)) qAL) (qA4 (qAJ (i:=4) sc_shows_never.nd rfl (A05 rfl) (qB9 qBI (pv 3) qA7 (λ_ _=>rfl))) (qA4 (qMH (i:=5) sc_shows_never.nd rfl rfl rfl (lcs (own:=["work"]) (fv:=[4]) (by kernel_rfl)) (qC7 (pv 1)) (λz1=>qBN 0) (λz1=>(qDJ (qAN (qIA (K:=K) rfl) (pv 0) (pv 1) (by with_unfolding_all rfl)))) (λz1=>(qO5 (X:=lcCx _ _ _ _ z1) Q9 R0 R4 (qDL (K:=K) rfl) (pv 1) (qA0 (pv 0) qA3))) (by kernel_rfl)) (qA5 (qAE (qI9 (qE3 qXZ (qA8 qAC rfl qBE qBJ (qA0 (pv 5) qA3)) qA7 (qAY _)) (qJQ (qAT a4 hr rfl (qA0 (qAT ad hr rfl (qA0 (pv 0) (qA0 (pv 4) qA3))) (qA0 (pv 5) (qA0 (pv 2) (qA0 (qB9 qBI (pv 3) qA7 (λ_ _=>rfl)) qA3)))))))))))),?_⟩
 try dsimp only[Cx.nox,Cx.wish,cxOf]
 obtain⟨ra,hA,NL⟩:=id hN;have a8:=C1 NL;have ai:=v.len;have lA:=rA.len;have gT:=PN.tup;have a0:Rd H u (.tup (d.map V.int)):=(let⟨o,e,_⟩:=PN.works;.inr ⟨o,e⟩)
 refine cut λN0 a7=>?_;refine⟨_,rfl,T,_,_,rfl,gT,_,rfl,?_⟩;refine⟨_,rfl,T,_,_,_,rfl,rfl,SqT.of gT,rfl,_,rfl,a,_,rfl,.inr (SqT.of hA),?_⟩;rw[A0,a8];refine⟨u,d,_,rfl,a0,v,by lia,λH1 s1=>⟨_,rfl,?_⟩⟩
 refine a7 _ _ (cut λN1 ae=>?_);refine⟨_,rfl,T,_,_,_,rfl,rfl,SqT.of (s1 _ _ gT),rfl,?_⟩;refine ae _ _ (cut λN2 ac=>?_);refine⟨_,rfl,t,rfl,⟨_,SqT.of (s1 _ _ hT)⟩,λp hp=>?_⟩;refine qCN (p:=p) (a:=t) (xs:=m.map V.int) (λi σ Hc=>∃(v0:Option V),σ=[v0,some (.ref u)]/\Same H1 Hc/\Hc p=some (.lst ((qB1 d (m.take i)).map V.int))) ?_ ?_ ?_ ?_
 ·exact⟨none,rfl,qA2 hp _,qA1⟩
 ·rintro i σ Hc hi ⟨v0,rfl,sm,_⟩;exact SqT.of (sm _ _ (s1 _ _ hT))
 ·refineλi x σ Hc hx a1=>opq λag z=>?_;obtain⟨v0,rfl,sm,g⟩:=a1;obtain⟨y,ey,rfl⟩:=qB5 hx;refine z ?_;have lt:=(A3.mp ey).1;have r:=(PN.works.same s1).same sm;have lk:(qB1 d (m.take i)).length<=i:=F5 (G7 _ _) (by rw[C5];lia)
  have tk:qB1 d (m.take (i+1))=qB1 d (m.take i)++(qCE d y).toList:=by
   unfold qB1;rw[C8,ey,C9,U9];cases e:qCE d y<;>simp[e]
  refine⟨_,rfl,_,rfl,u,_,rfl,.inr r.sq,rfl,qBZ d,_,rfl,?_⟩;rw[qDN];by_cases cy:y∈d
  ·rw[decide_eq_true cy];obtain⟨j,hj⟩:=E5 cy;have first:∀k,k<j->d[k]?≠some y:=λk hk e=>by
    obtain⟨h1,e1⟩:=A3.mp e;obtain⟨h2,e2⟩:=A3.mp hj;exact absurd (e1.trans e2.symm) (F8.mp v.nodup k j h1 h2 hk)
   refine iteT ?_;refine⟨_,rfl,⟨u,_,rfl,r⟩,_,rfl,u,d,y,j,rfl,rfl,r.sq,hj,first,_,g,qAG (by rw[A0];lia),_,rfl,qAB sm hp,?_⟩
   rw[qA1,tk,qC1 v.nodup hj,B1]
   rfl
  ·rw[decide_eq_false cy];refine iteF ?_;refine⟨_,rfl,sm,?_⟩;rw[tk,qXQ cy,g];simp
 refineλσ Hc a3=>opq λaj a2=>?_;obtain⟨v0,rfl,sm,g⟩:=a3;refine a2 ?_;rw[A0,L4] at g;have s2:=s1.trans sm;have af:(qB1 d m).length<=m.length:=G7 _ _;have w0:0<(qB1 d m).length:=r8.mpr a6;refine ac _ _ ?_;refine⟨_,rfl,p,_,rfl,.inl (SqL.of g),_,_,rfl,rfl,_,rfl,?_⟩;rw[A0];refine ite2 (λ_=>?_) (λc=>?_)
 ·refine⟨_,rfl,_,rfl,a,u,Ae,d,rfl,hN.same s2,wf,by lia,a0.same s2,v,λb H3 s3 hB=>?_⟩
  have n:=s2.trans s3;have a9:=n _ _ gT;refine⟨_,rfl,_,rfl,_,rfl,T,_,_,_,rfl,rfl,SqT.of a9,rfl,?_⟩;refine⟨b,p,l,qBR Ae d,Aa,qB1 d m,rs,ss,rfl,hB,qCD wf v,by rw[qBL];lia,s3 _ _ g,by lia,n _ _ PN.lst,PN.at_.same n,l5,NV,λH4 s4=>?_⟩
  exact q _ (n.trans s4)
 ·exact absurd (decide_eq_true (show(0:Int)<((qB1 d m).length:Int) by lia)) c
theorem sc_never_paper:FnScope ["net","asked","rooms","works","reached"] ["net","asked","rooms"] (qAA qDA):=qBK
theorem ok_never_paper (F:Fun K "never_paper" "never_paper" qDA f fd) (ah:Clb P w K mg base 1 qDX qHA "all_needed" ["net","asked"] qU6) (ap:Clb P w K mg base 2 qEE qGH "part_net" ["net","works"] qM5) (af:Clb P w K mg base 1 qCY qFG "part_numbers" ["works","asked"] qM6) (an:Clb P w K mg base 4 qC9 qED "stands_reached" ["net","rooms"] qM4) (ao:Clb P w K mg base 2 qDG qKC "best_end" ["reached","asked"] (qU2 Pt)) (ar:mg "tuple" = none) (ad:mg "sorted" = none):FnOk P w K mg base CX0 5 f fd ["net","asked","rooms"] (qM7 Pt):=by
 refine F.okA sc_never_paper λay A ai s H vs Q E q h=>?_;obtain⟨a,t,r,Ad,ws,Aa,rfl,a4,hN,wf,aw,⟨hT,rA⟩,a1,N,q1,q2⟩:=h;have a9:=q.units;refine⟨_,(qA4 (qAJ (i:=3) sc_never_paper.nd rfl (E8 rfl) (qAD qKI rfl ar qAP (qA0 (qAT ah q rfl (qA0 (pv 0) (qA0 (pv 1) qA3))) qA3))) (qA4 (qAJ (i:=4) sc_never_paper.nd rfl (E8 rfl) (qAT an q rfl (qA0 (qAT ap q rfl (qA0 (pv 0) (qA0 (pv 3) qA3))) (qA0 (pv 2) qA3)))) (qA4 (qBF (qC6 (qHO (qAT ao q rfl (qA0 (pv 4) (qA0 (qAT af q rfl (qA0 (pv 3) (qA0 (pv 1) qA3))) qA3))))) (qA5 (qAE qF8)) qAL) (qA5 (qAE (qBY (qA0 (pv 3) (qA0 (qA8 (L2.G.call_sortedTD rfl a9) rfl ad qCL (qA0 (pv 4) qA3)) qA3)))))))),?_⟩
 try dsimp only[Cx.nox,Cx.wish,cxOf]
 refine cut λN0 al=>?_;refine⟨_,rfl,_,rfl,a,t,r,Ad,rfl,hN,wf,by lia,hT,rA.in_,λla c H1 s1 av ac N'=>?_⟩
 have ew:=qLB N' N;subst ew;refine⟨la,_,rfl,SqL.of ac,λn ob ak oc od=>?_⟩;have s2:=s1.trans (qA2 ak (.frz ob (.tup (c.map V.int))));have m:BareT (Ag H1 n (.frz ob (.tup (c.map V.int)))) n (c.map V.int):=⟨ob,qA1,oc,od⟩;generalize Ag H1 n (.frz ob (.tup (c.map V.int)))=H2 at s2 m ⊢;refine al _ _ (cut λN1 aq=>?_);refine⟨_,rfl,_,rfl,a,n,r,c,rfl,hN.same s2,wf,by lia,(let⟨o,e,_⟩:=m;.inr ⟨o,e⟩),N.1,λb H3 s3 hB=>?_⟩
 have as:=s2.trans s3;have lw:=N.1.len;have wp:WFn (qBR r c):=qCD wf N.1;have lp:=qBL r c;have ha:∀x∈Ad,x∈c:=λx hx=>(N.2 x).mpr (.ask hx);have aa:=rA.len;have rW:=qFO N rA;have lW:=rW.len;refine⟨_,rfl,b,qBR r c,Aa,rfl,hB,wp,by lia,λd o Af ks fu gX H4 s4 au gd a2 RC FR=>?_⟩
 have ent:=a2.ent;have a5:=as.trans s4;have g:=(m.same s3).same s4;have lk:=RC.len;have pw:2^(qBR r c).length<=2^12:=L6 (by decide) (by lia)
 refine aq _ _ (cut λN2 ag=>?_);refine⟨_,rfl,_,rfl,_,rfl,n,t,c,Ad,rfl,g,a5 _ _ hT,N.1.nodup,by lia,by lia,ha,λwt H5 v aj=>?_⟩
 have j:=a5.trans v;refine⟨d,wt,o,Af,ks,fu,qB1 c Ad,rfl,j _ _ a4,v _ _ gd,ent.same v,F5 lk (by lia),aj,by lia,λH6 s6=>⟨λhn=>?_,λrr st ax ab a8 k=>?_⟩⟩
 ·have nd:=qZE N rA (qP8 wp rW RC hn);have a3:=j.trans s6;refine⟨_,rfl,iteF (ag _ _ ?_)⟩;refine⟨_,rfl,_,rfl,d,o,Af,ks,rfl,s6 _ _ (v _ _ gd),ent.keys1,FR.2,λl p L a6 TA pm ae=>?_⟩;have s7:=qA2 a6 (.lst (p.map V.ref));have u:(Ag H6 l (.lst (p.map V.ref))) l=some (.lst (p.map V.ref)):=qA1;have am:H l=none:=a3.free a6;have a0:StL (Ag H6 l (.lst (p.map V.ref))) p L:=Paired.mapP TA λ_ _ z=>s7 _ _ z;generalize Ag H6 l (.lst (p.map V.ref))=H7 at s7 u a0 ⊢;refine⟨(by show 2<=B64;decide),λT y=>?_⟩
  have s8:=qA2 y (.tup [.ref n,.ref l]);have a7:=a3.trans s7;exact q2 nd T n l p L _ (a7.trans s8) (a7.free y) am ⟨qA1,(((g.same v).same s6).same s7).same s8,s8 _ _ u,a0.same s8⟩ (RC.nevP pm ae) (λz hz=>hn z (pm.mem_iff.mp hz)) (by rw[pm.length_eq];exact F5 lk (by lia))
 ·have dn:=qQ6 N rA (qP7 wp rW RC ab a8 k);refine⟨_,rfl,iteT ?_⟩;exact q1 dn _ (j.trans s6)
theorem qXH:FnScope ["_law_net_here","_law_works_here"] ["_law_net_here","_law_works_here"] (qAA qMC):=qBK
theorem ok_Lpart (F:Fun K "_law_part" "_law_part" qMC f fd) (ab:mg "tuple" = none):FnOk P w K mg base CX0 1 f fd ["_law_net_here","_law_works_here"] qTW:=by
 refine F.okA qXH λaj A ac s H vs Q E hr h=>?_;obtain⟨a,l,Ae,c,rfl,hN,wf,ag,hL,rW,q⟩:=h;have hu:=qG7 hr;refine⟨_,(qA5 (qAE (qAD qAH rfl ab qAP (qA0 (qCJ rfl (lcs (own:=["_law_work"]) (fv:=[0,1]) (by kernel_rfl)) (qC7 (pv 1)) (λz1=>qBN 0) (λz1=>qB0) (λz1=>(qAD (qGL (K:=K) rfl) rfl ab qAP (qA0 (qCJ (X:=lcCx _ _ _ _ z1) rfl (lcs (own:=["_law_need"]) (fv:=[2]) (by kernel_rfl)) (qPT (K:=K) rfl (qB9 (qHV (K:=K) rfl) (pv 1) (pv 0) (λ_ _=>rfl))) (λz2=>qBN 0) (λz2=>(qDJ (qAN (qIA (K:=K) rfl) (pv 0) (pv 1) (by with_unfolding_all rfl)))) (λz2=>(qO5 (X:=lcCx _ _ _ _ z2) Q9 R0 R4 (qDL (K:=K) rfl) (pv 1) (qA0 (pv 0) qA3)))) qA3)))) qA3)))),?_⟩
 try dsimp only[Cx.nox,Cx.wish,cxOf]
 obtain⟨rs,hA,NL⟩:=id hN;have lw:=rW.len;refine⟨_,rfl,l,rfl,⟨_,hL.sq⟩,λp1 a9=>?_⟩;refine qCN (p:=p1) (a:=l) (xs:=c.map V.int) (λi σ o=>∃(v0:Option V) (qs:List Addr),σ=[v0,some (.ref a),some (.ref l)]/\Same H o/\o p1=some (.lst (qs.map V.ref))/\NetL o qs ((c.take i).map λw=>((Ae[w.toNat]?).getD []).filterMap (qCE c))) ?_ ?_ ?_ ?_
 ·exact⟨none,[],rfl,qA2 a9 _,qA1,.nil⟩
 ·refineλi σ o hi a0=>opq λal a8=>?_;obtain⟨v0,qs,rfl,g,_⟩:=a0;refine a8 ?_;exact(hL.same g).sq
 ·refineλi x σ o hx a5=>opq λah t=>?_;obtain⟨v0,qs,rfl,g,m,NQ⟩:=a5;obtain⟨y,ey,rfl⟩:=qB5 hx;refine t ?_;have hi:=(A3.mp ey).1;have lQ:qs.length<=i:=by have:=C1 NQ;rw[this,A0,C5];lia
  have yb:=rW.in_ y (A9 ey);have hy:y.toNat<Ae.length:=by lia
  have hz:=A4 hy;obtain⟨r,h3,h4⟩:=NL.get hz;have rz:=wf y.toNat _ hz;generalize Ae[y.toNat]=zs at h4 hz rz;have lz:=rz.len;have ae:=g _ _ hA;have a3:=g _ _ h4;refine⟨_,rfl,_,rfl,a,_,_,_,rfl,rfl,SqT.of ae,qIC yb.1 (by rw[B9,h3];rfl),r,rfl,⟨_,SqT.of a3⟩,λp2 u=>?_⟩
  refine qCN (p:=p2) (a:=r) (xs:=zs.map V.int) (λj σ Hd=>∃(v:Option V),σ=[v,some (.ref l)]/\Same o Hd/\Hd p2=some (.lst (((zs.take j).filterMap (qCE c)).map V.int))) ?_ ?_ ?_ ?_
  ·exact⟨none,rfl,qA2 u _,qA1⟩
  ·rintro j σ Hd hj ⟨v,rfl,se,_⟩;exact SqT.of (se _ _ a3)
  ·refineλj x σ Hd hx aa=>opq λak a4=>?_;obtain⟨v,rfl,se,d⟩:=aa;obtain⟨z,ez,rfl⟩:=qB5 hx;refine a4 ?_;have hj:=(A3.mp ez).1;have n:=(hL.same g).same se;have lf:((zs.take j).filterMap (qCE c)).length<=j:=F5 (G7 _ _) (by rw[C5];lia)
   refine⟨_,rfl,_,rfl,l,_,rfl,.inr n.sq,rfl,qBZ c,_,rfl,?_⟩;rw[qDN,qQC ez];by_cases cy:z∈c
   ·rw[decide_eq_true cy];obtain⟨k,hk⟩:=E5 cy;refine iteT ?_;refine⟨_,rfl,⟨l,_,rfl,n⟩,_,rfl,l,c,z,k,rfl,rfl,n.sq,hk,qMU rW.nodup hk,_,d,qAG (by rw[A0];lia),_,rfl,qAB se u,?_⟩
    rw[qA1,qC1 rW.nodup hk,B1]
    rfl
   ·rw[decide_eq_false cy];refine iteF ?_;refine⟨_,rfl,se,?_⟩;rw[qMJ cy,d];simp
  ·refineλσ Hd a2=>opq λaf a7=>?_;obtain⟨v,rfl,se,d⟩:=a2;refine a7 ?_;rw[A0,qC0 rfl] at d;refine⟨p2,_,rfl,.inl ⟨SqL.of d,λtq ad=>?_⟩⟩;have sq:=se.trans (qA2 ad (.tup ((zs.filterMap (qCE c)).map V.int)));have g1:=sq _ _ m;refine⟨_,g1,qAG (by rw[A0];lia),?_⟩
   rw[qB6];refine⟨_,qs++[tq],rfl,qAB (g.trans sq) a9,qA1,?_⟩;have e7:((c.take (i+1)).map λw=>((Ae[w.toNat]?).getD []).filterMap (qCE c))=((c.take i).map λw=>((Ae[w.toNat]?).getD []).filterMap (qCE c))++[zs.filterMap (qCE c)]:=by
    rw[C8,ey,C9,B1,A84,hz,Z1]
   rw[e7];exact qDU (qCW (NQ.same λr' ys e=>sq _ _ e) qA1) g1
 ·refineλσ o a6=>opq λai a1=>?_;obtain⟨v0,qs,rfl,g,m,NQ⟩:=a6;refine a1 ?_;rw[A0,qC0 rfl] at NQ;refine⟨p1,_,rfl,.inl ⟨SqL.of m,λb hb=>?_⟩⟩;have sb:=qA2 hb (.tup (qs.map V.ref));exact q b _ (g.trans sb) ⟨qs,qA1,NQ.same λr ys e=>sb _ _ e⟩
theorem qUB:FnScope ["_law_bits_here"] ["_law_bits_here"] (qAA qIX):=qBK
theorem ok_Lworks (F:Fun K "_law_works" "_law_works" qIX f fd) (a0:mg "tuple" = none) (qAZ:mg "range" = none):FnOk P w K mg base CX0 1 f fd ["_law_bits_here"] qNQ:=by
 refine F.okA qUB λa1 A t s H vs Q E u h=>?_;obtain⟨st,n,rfl,rS,x,q⟩:=h;have hu:=qG7 u;refine⟨_,(qA5 (qAE (qAD qAH rfl a0 qAP (qA0 (qCJ rfl (lcs (own:=["_law_work"]) (fv:=[0]) (by kernel_rfl)) (qB7 rfl qAZ (qA0 qA7 qA3)) (λz3=>qBN 0) (λz3=>(qDJ (qAN qHQ (qAU qOE (qAU qUU (pv 1) (pv 0)) qA7) qA7 (qAY _)))) (λz3=>(pv 0))) qA3)))),?_⟩
 try dsimp only[Cx.nox,Cx.wish,cxOf]
 generalize hb:mskN st=b;refine⟨_,rfl,by decide,by decide,λp hp=>?_⟩
 refine qDV (p:=p) (lo:=0) (n:=(Int.toNat 10)) (λi σ o=>∃(v:Option V),σ=[v,some (.int (b:Int))]/\Same H o/\o p=some (.lst ((((qBX 0 10).take i).filter λk=>decide ((b/2^k.toNat%2:Nat)=1)).map V.int))) ?_ ?_ ?_
 ·exact⟨none,rfl,qA2 hp _,qA1⟩
 ·refineλi σ o hi g=>opq λa3 d=>?_;obtain⟨v,rfl,m,a⟩:=g;refine d ?_;have e0:(0+(i:Int)).toNat=i:=by lia
  have lk:=qDP (p:=λk:Int=>decide ((b/2^k.toNat%2:Nat)=1)) (l:=qBX 0 10) (i:=i);refine⟨_,rfl,_,rfl,_,_,rfl,rfl,(by show(0:Int)<=0+(i:Int);lia),_,_,rfl,rfl,rfl,_,rfl,?_⟩
  dsimp only;rw[e0,qER (qPO (by lia)),E4]
  by_cases c:b/2^i%2=1
  ·have y:decide (V.int (O8 ((b:Int)/2^i) 1)=V.int 1)=true:=by rw[qKM,c];rfl
   rw[y];refine⟨_,rfl,_,a,qAG (by rw[A0];lia),_,rfl,qAB m hp,?_⟩
   rw[qA1,if_pos (decide_eq_true c),B1,B02]
   rfl
  ·have y:decide (V.int (O8 ((b:Int)/2^i) 1)=V.int 1)=false:=decide_eq_false λz=>c (by rw[qKM] at z;injection z with z;lia)
   rw[y];refine⟨_,rfl,m,?_⟩;rw[if_neg (by rw[decide_eq_false c];decide),P7]
   exact a
 ·refineλσ o e=>opq λa2 j=>?_;obtain⟨v,rfl,m,a⟩:=e;refine j ?_;rw[qC0 (by rw[qL8];rfl),<- hb,qbL rS x] at a
  refine⟨p,_,rfl,.inl ⟨SqL.of a,λr u=>?_⟩⟩;exact q r _ (m.trans (qA2 u _)) qA1
theorem sc_Lholds:FnScope ["_law_net_here","_law_asked_here","_law_rooms","_law_works_here","_law_stands","_law_part_here","_law_goal","_law_known","_law_stand","_law_work","_law_move"] ["_law_net_here","_law_asked_here","_law_rooms","_law_works_here","_law_stands"] (qAA qIZ):=qBK
theorem ok_Lholds (F:Fun K "_law_holds" "_law_holds" qIZ f fd) (cb:Clb P w K mg base 1 qQH qYR "_law_part" ["_law_net_here","_law_works_here"] qTW) (cq:Clb P w K mg base 1 qMZ qRZ "_law_word" ["_law_net_here","_law_rooms","_law_stand","_law_move"] qJG) (c3:Clb P w K mg base 1 qHD qLP "_law_behind" ["_law_stand","_law_move"] qE7) (qBE:mg "len" = none) (qDI:mg "list" = none) (c6:mg "sorted" = none) (cf:mg "set" = none) (bw:mg "all" = none) (qAZ:mg "range" = none) (ck:mg "dict" = none):FnOk P w K mg base CX0 2 f fd ["_law_net_here","_law_asked_here","_law_rooms","_law_works_here","_law_stands"] qTX:=by
 refine F.okA sc_Lholds λd7 A ce s H vs Q E hr h=>?_;obtain⟨a,t,tw,l,Ae,Ad,u,Aa,rs,ss,rfl,hN,wf,cl,⟨hT,rA⟩,hW,gl,SL,rW,bn,l5,NV,q⟩:=h;have hu:=qG7 hr;have bs:=hr.units;have b7:=hr.units0;refine⟨_,(qA4 (qAJ (i:=5) sc_Lholds.nd rfl (E8 rfl) (qAT cb hr rfl (qA0 (pv 0) (qA0 (pv 3) qA3)))) (qA4 (qMH (i:=6) sc_Lholds.nd rfl rfl rfl (lcs (own:=["_law_work"]) (fv:=[3]) (by kernel_rfl)) (qC7 (pv 1)) (λz1=>qBN 0) (λz1=>(qDJ (qAN (qIA (K:=K) rfl) (pv 0) (pv 1) (by with_unfolding_all rfl)))) (λz1=>(qO5 (X:=lcCx _ _ _ _ z1) Q9 R0 R4 (qDL (K:=K) rfl) (pv 1) (qA0 (pv 0) qA3))) (by kernel_rfl)) (qA4 (qAJ (i:=7) sc_Lholds.nd rfl (E8 rfl) (qAD (qLU rfl bs) rfl ck qWT (qA0 (qCJ rfl (lcs (own:=["_law_stand"]) (fv:=[]) (by kernel_rfl)) (qC2 (pv 4)) (λz2=>qBN 0) (λz2=>qB0) (λz2=>(qBY (qA0 (pv 0) (qA0 qCF qA3))))) qA3))) (qA4 (qBF (PW.pt (qG6 (qAN (qOC b7) (pv 6) (qBW qA3) (qAY _)) (qEA (qC6 (qD3 hu (qBY qA3) (pv 7)))))) (qA5 (qAE qCF)) qAL) (qA4 (qBT D7 rfl (qMK (qPU (pv 7))) (qAR (i:=8) sc_Lholds.nd rfl (A05 rfl)) (qA4 (qBF (PW.pt (qG6 (qAN qXZ (qA8 qAC rfl qBE qBJ (qA0 (pv 8) qA3)) (pv 2) (qAY _)) (qG6 (qAN (qJT b7) (qAD qDY rfl qDI qFM (qA0 (pv 8) qA3)) (qA8 (qD5 rfl) rfl c6 qCL (qA0 (qAD (qLT rfl) rfl cf qP1 (qA0 (pv 8) qA3)) qA3)) (qAY _)) (qEA (qCC (qA8 (qEY rfl) rfl bw qKL (qA0 (qCJ rfl (lcs (own:=["_law_work"]) (fv:=[8]) (by kernel_rfl)) (qC2 (pv 6)) (λz3=>qBN 0) (λz3=>qB0) (λz3=>(qE3 (qIA (K:=K) rfl) (pv 0) (pv 1) (by with_unfolding_all rfl)))) qA3))))))) (qA5 (qAE qCF)) qAL) (qA5 (qBT D7 rfl (qB7 rfl qAZ (qA0 (qA8 qAC rfl qBE qBJ (qA0 (pv 5) qA3)) qA3)) (qAR (i:=9) sc_Lholds.nd rfl (E8 rfl)) (qA5 (qBT D7 rfl (qC7 (qBY (qA0 (qBY (qA0 qBO (qA0 (pv 9) qA3))) (qA0 (qBY (qA0 qBO (qA0 (pv 9) qA3))) qA3)))) (qAR (i:=10) sc_Lholds.nd rfl (E8 rfl)) (qA5 (qBF (PW.pt (qZ7 (qC6 (qO7 (qAT cq hr rfl (qA0 (pv 5) (qA0 (pv 2) (qA0 (pv 8) (qA0 (pv 10) qA3))))))) (qUE (qC6 (qD3 hu (qAT c3 hr rfl (qA0 (pv 8) (qA0 (pv 10) qA3))) (pv 7)))))) (qA5 (qAE qCF)) qAL)))))))) (qA5 (qAE qCF))))))),?_⟩
 try dsimp only[Cx.nox,Cx.wish,cxOf]
 have d8:=rW.len;have lA:=rA.len;have co:rs.length=ss.length:=C1 SL;refine cut λN0 cp=>?_;refine⟨_,rfl,_,rfl,a,tw,Ae,u,rfl,hN,wf,cl,hW,rW,λb H1 s1 hB=>?_⟩;refine cp _ _ (cut λN1 cs=>?_);refine⟨_,rfl,t,rfl,⟨_,SqT.of (s1 _ _ hT)⟩,λp hp=>?_⟩;refine qCN (p:=p) (a:=t) (xs:=Ad.map V.int) (λi σ Hc=>∃(v0:Option V),σ=[v0,some (.ref tw)]/\Same H1 Hc/\Hc p=some (.lst ((qB1 u (Ad.take i)).map V.int))) ?_ ?_ ?_ ?_
 ·exact⟨none,rfl,qA2 hp _,qA1⟩
 ·rintro i σ Hc hi ⟨v0,rfl,sm,_⟩;exact SqT.of (sm _ _ (s1 _ _ hT))
 ·refineλi x σ Hc hx b2=>opq λd0 bm=>?_;obtain⟨v0,rfl,sm,bh⟩:=b2;obtain⟨y,ey,rfl⟩:=qB5 hx;refine bm ?_;have lt:=(A3.mp ey).1;have au:=(hW.same s1).same sm;have lk:(qB1 u (Ad.take i)).length<=i:=F5 (G7 _ _) (by rw[C5];lia)
  refine⟨_,rfl,_,rfl,tw,_,rfl,.inr au.sq,rfl,qBZ u,_,rfl,?_⟩;rw[qDN,show qB1 u (Ad.take (i+1))=qB1 u (Ad.take i)++(qCE u y).toList from qQC ey];by_cases cy:y∈u
  ·rw[decide_eq_true cy];obtain⟨j,hj⟩:=E5 cy;refine iteT ?_;refine⟨_,rfl,⟨tw,_,rfl,au⟩,_,rfl,tw,u,y,j,rfl,rfl,au.sq,hj,qMU rW.nodup hj,_,bh,qAG (by rw[A0];lia),_,rfl,qAB sm hp,?_⟩
   rw[qA1,qC1 rW.nodup hj,B1]
   rfl
  ·rw[decide_eq_false cy];refine iteF ?_;refine⟨_,rfl,sm,?_⟩;rw[qMJ cy,bh];simp
 refineλσ H2 bt=>opq λd2 be=>?_;obtain⟨v0,rfl,s2,gp⟩:=bt;refine be ?_;rw[A0,L4] at gp;have bv:(qB1 u Ad).length<=Ad.length:=G7 _ _;have bx:=hB.same s2;generalize qB1 u Ad=W at gp bn NV bv;have S2:=s1.trans s2;refine cs _ _ (cut λN2 c9=>?_);refine⟨_,rfl,l,rfl,⟨_,SqL.of (S2 _ _ gl)⟩,λpq bd=>?_⟩;refine qE4 (p:=pq) (a:=l) (xs:=rs.map V.ref) (λi σ Hc=>∃(v:Option V) (qs:List Addr) (ps:List (List Key×Addr×V)),σ=[v]/\Same H2 Hc/\Hc pq=some (.lst (qs.map V.ref))/\qO9 Hc K qs ps/\ps.map (·.1)=(ss.take i).map keyS) ?_ ?_ ?_ ?_
 ·exact⟨none,[],[],rfl,qA2 bd _,qA1,.nil,rfl⟩
 ·rintro i σ Hc hi ⟨v,qs,ps,rfl,sm,_⟩;exact SqL.of (sm _ _ (S2 _ _ gl))
 ·refineλi x σ Hc hx b1=>opq λd5 bi=>?_;obtain⟨v,qs,ps,rfl,sm,gq,PT,kp⟩:=b1;obtain⟨r,er,rfl⟩:=qC4 hx;obtain⟨z,ez,gz⟩:=qAS SL er;refine bi ?_;have hi:=(A3.mp ez).1;have lq:qs.length<=i:=by
   have h1:=C1 PT;have h2:=congrArg T3 kp;rw[A0,A0,C5] at h2
   lia
  refine⟨_,rfl,(by show 2<=B64;decide),λtp an=>?_⟩
  have sT:=qA2 an (.tup [.ref r,.bl true]);have ag:=sT _ _ gq;refine⟨_,ag,qB2 (by rw[A0];lia),?_⟩
  rw[qB6];have a0:∀{b:Addr} {xs:List V},(Ag Hc tp (.tup [.ref r,.bl true])) b=some (.tup xs)->(Ag (Ag Hc tp (.tup [.ref r,.bl true])) pq (.lst ((qs++[tp]).map V.ref))) b=some (.tup xs):=λ{b xs} e=>by rw[qA9 (qCP e ag (λz=>nomatch z))];exact e
  have Sz:=(S2.trans sm) _ _ gz;refine⟨_,qs++[tp],ps++[(keyS z,r,.bl true)],rfl,qAB (sm.trans sT) bd,qA1,T5 (Paired.mapP PT λr' q' e=>⟨?_,a0 (sT _ _ e.2)⟩) ⟨SqT.of (a0 qA1),by rw[qC3];exact a0 (sT _ _ Sz)⟩,?_⟩
  ·rcases e.1 with h|h
   ·refine .inl ?_;rcases h with h|⟨oo,h⟩
    ·exact .inl (a0 (sT _ _ h))
    ·exact .inr ⟨oo,by rw[qA9 (qCP (sT _ _ h) ag (λz=>nomatch z))];exact sT _ _ h⟩
   ·exact .inr h
  ·rw[B1,kp,C8,ez,C9,B1]
   rfl
 refineλσ H6 b5=>opq λd1 bo=>?_;obtain⟨v,qs,ps,rfl,s6,gq,PT,kp⟩:=b5;refine bo ?_;rw[A0,co,L4] at kp;have S6:=S2.trans s6;refine⟨pq,qs,ps,rfl,SqL.of gq,PT,λd b3=>?_⟩;have s7:=qA2 b3 (.dT (qBB [] ps));have g7:(Ag H6 d (.dT (qBB [] ps))) d=some (.dT (qBB [] ps)):=qA1;have S7:=S6.trans s7;have c1:H d=none:=S6.free b3;have a2:=s7 _ _ (s6 _ _ gp);have a9:=(bx.same s6).same s7;have vk:∀z:List Int,(valV (qBB [] ps) (keyS z)).isSome=true↔z∈ss:=λz=>by
  rw[qJM,kp]
  constructor
  ·rintro(h|h)
   ·simp[valV] at h
   ·obtain⟨y,hy,e⟩:=D2.mp h;rw[<- qFY e];exact hy
  ·exactλh=>.inr (Q3 h)
 have kk:∀kv∈qBB [] ps,∃z∈ss,kv.1=keyS z:=λkv af=>by
  rcases qRB ps [] kv af with h|h
  ·cases h
  ·rw[kp] at h;obtain⟨z,hz,e⟩:=D2.mp h;exact⟨z,hz,e.symm⟩
 generalize qBB [] ps=Af at s7 g7 S7 a2 vk kk a9;generalize Ag H6 d (.dT Af)=H7 at s7 g7 S7 a2 a9 ⊢;have c0:p≠d:=qCP a2 g7 (by intro z;cases z)
 refine c9 _ _ (cut λN3 cm=>?_);refine⟨_,rfl,(by show 0<=B64;decide),λe3 cd=>?_⟩
 have s8:=qA2 cd (.lst []);have bf:(Ag H7 e3 (.lst [])) e3=some (.lst []):=qA1;refine⟨p,e3,_,rfl,rfl,SqL.of (s8 _ _ a2),SqL.of bf,_,rfl,?_⟩;have ef:(W.map V.int).isEmpty=false:=by cases W with|nil=>exact absurd rfl bn|cons _ _=>rfl
 rw[ef];have S8:=S7.trans s8;have g8:=s8 _ _ g7;have bj:=s8 _ _ a2;have bk:=a9.same s8;clear s8 bf g7 a2 a9;generalize Ag H7 e3 (.lst [])=H8 at S8 g8 bj bk ⊢;refine⟨(by show 0<=B64;decide),λe5 c5=>?_⟩
 have s9:=qA2 c5 (.tup []);have bu:(Ag H8 e5 (.tup [])) e5=some (.tup ((keyS []).map kV)):=qA1;have S9:=S8.trans s9;have g9:=s9 _ _ g8;have b4:=s9 _ _ bj;have bg:=bk.same s9;generalize Ag H8 e5 (.tup [])=H9 at S9 g9 b4 bg bu ⊢;refine⟨_,rfl,d,_,rfl,.inr ⟨Af,keyS [],e5,.inl g9,rfl,bu,rfl⟩,_,rfl,?_⟩;rw[(vk []).mpr NV.nil];refine cm _ _ (cut λN4 c8=>?_);refine⟨_,rfl,d,_,rfl,g9,λo=>⟨d,o,_,rfl,qA1,?_⟩⟩;have bq:Same H (Ag H9 d (.frz o (.dT Af))):=qAB S9 c1;have ap:(Ag H9 d (.frz o (.dT Af))) d=some (.frz o (.dT Af)):=qA1;have a4:(Ag H9 d (.frz o (.dT Af))) p=some (.lst (W.map V.int)):=by rw[qA9 c0];exact b4
 have a1:NetAt (Ag H9 d (.frz o (.dT Af))) b (qBR Ae u):=bg.put' g9 λxs z=>by cases z
 generalize Ag H9 d (.frz o (.dT Af))=HA at bq ap a4 a1 ⊢;have cr:=qBL Ae u;have b8:WFn (qBR Ae u):=qCD wf rW;generalize qBR Ae u=g at a1 cr b8 NV;obtain⟨ra,hA,NL⟩:=id a1;have cg:=C1 NL;refine qLM (a:=d) (o:=o) (Af:=Af) (λi σ He=>∃(v8 v9 v10:Option V),σ=[some (.ref a),some (.ref t),some (.int Aa),some (.ref tw),some (.ref l),some (.ref b),some (.ref p),some (.ref d),v8,v9,v10]/\Same HA He)
  ⟨_,_,_,rfl,.refl _⟩ (λi σ He _ ⟨_,_,_,_,z⟩=>z _ _ ap) ?_ ?_
 ·refineλi k v r σ He af gr br=>opq λd4 b0=>?_;obtain⟨v8,v9,v10,rfl,se⟩:=br;obtain⟨z,hz,e⟩:=kk _ (A9 af);refine b0 ?_;have e:k=keyS z:=e;subst e;rw[qC3] at gr;have rz:=NV.rise z hz;have lz:=rz.len;refine cut λM0 ch=>?_;refine⟨_,rfl,r,_,rfl,.inr (SqT.of gr),_,rfl,_,_,rfl,rfl,_,rfl,?_⟩;rw[A0,decide_eq_false (by have:=NV.few z hz;lia)]
  refine⟨_,rfl,r,_,rfl,.inr (SqT.of gr),λla ci=>?_⟩;have f1:=qA2 ci (.lst (z.map V.int));have ga:(Ag He la (.lst (z.map V.int))) la=some (.lst (z.map V.int)):=qA1;have aa:=f1 _ _ gr;have az:=se.trans f1;generalize Ag He la (.lst (z.map V.int))=Ha at f1 ga aa az ⊢;refine⟨_,rfl,r,z,rfl,SqT.of aa,by lia,λsa bz=>?_⟩
  have f2:=qA2 bz (SetM w sa (dedI z));have gs:(Ag Ha sa (SetM w sa (dedI z))) sa=some (SetM w sa (dedI z)):=qA1;have aq:=f2 _ _ ga;have a3:=f2 _ _ aa;have ad:=az.trans f2;generalize Ag Ha sa (SetM w sa (dedI z))=Hb at gs aq a3 ad ⊢;refine⟨sa,_,rfl,gs,λlb zs cj pm so=>?_⟩;have ez:=qR4 rz pm so;subst ez;have f3:=qA2 cj (.lst (zs.map V.int));refine⟨la,lb,zs,zs,rfl,rfl,SqL.of (f3 _ _ aq),SqL.of qA1,_,rfl,?_⟩;rw[decide_eq_false (λh=>h rfl)];have ak:=f3 _ _ a3;have a7:=ad.trans f3;generalize Ag Hb lb (.lst (zs.map V.int))=Hc at ak a7 ⊢;clear f3 f2 f1 ga aq gs aa a3 az ad;refine⟨_,rfl,p,rfl,⟨_,SqL.of (a7 _ _ a4)⟩,λpa b9=>?_⟩;refine qE4 (p:=pa) (a:=p) (xs:=W.map V.int) (λj σ Hf=>∃(v:Option V),σ=[v,some (.ref r)]/\Same Hc Hf/\Hf pa=some (.lst (((W.take j).map λx=>decide (x∈zs)).map V.bl))) ?_ ?_ ?_ ?_
  ·exact⟨none,rfl,qA2 b9 _,qA1⟩
  ·rintro j σ Hf hj ⟨v,rfl,sf,_⟩;exact SqL.of (sf _ _ (a7 _ _ a4))
  ·refineλj x σ Hf hx bb=>opq λd3 bp=>?_;obtain⟨v,rfl,sf,a6⟩:=bb;obtain⟨y,ey,rfl⟩:=qB5 hx;refine bp ?_;have hj:=(A3.mp ey).1;refine⟨_,rfl,_,rfl,r,_,rfl,.inr (SqT.of (sf _ _ ak)),rfl,qBZ zs,_,a6,qB2 (by rw[A0,A0,C5];lia),_,rfl,qAB sf b9,?_⟩
   rw[qA1,C8,ey,C9,B1,B1,qDN]
   rfl
  refineλσ Hf aj=>opq λcu ae=>?_;obtain⟨v,rfl,sf,a6⟩:=aj;refine ae ?_;rw[A0,L4] at a6;refine⟨pa,_,rfl,SqL.of a6,?_⟩;have al:((W.map λx=>decide (x∈zs)).all id)=false:=by
   rw[F7];intro h;refine NV.no zs hz λx hx=>?_;have:=J3.mp h (decide (x∈zs)) (D2.mpr ⟨x,hx,rfl⟩);exact of_decide_eq_true this
  rw[al];have aw:=a7.trans sf;have ca:=sf _ _ ak;refine⟨_,rfl,?_⟩;refine ch _ _ ?_;refine⟨_,rfl,b,_,rfl,.inr (SqT.of (aw _ _ hA)),?_⟩;rw[A0,cg];refine⟨(g.length:Int),rfl,by lia,by lia,qEC (lo:=0) (n:=g.length) (λi σ Hg=>∃(v9 v10:Option V),σ=[some (.ref a),some (.ref t),some (.int Aa),some (.ref tw),some (.ref l),some (.ref b),some (.ref p),some (.ref d),some (.ref r),v9,v10]/\Same Hf Hg)
   ⟨_,_,rfl,.refl _⟩ ?_ ?_⟩
  ·refineλi σ Hg hi am=>opq λcx ai=>?_;obtain⟨v9,v10,rfl,sg⟩:=am;refine ai ?_;have cn:(0+(i:Int)).toNat<g.length:=by lia
   have a8:=A4 cn;have ln:=(b8 _ _ a8).len;generalize g[(0+(i:Int)).toNat]=ns at a8 ln;refine⟨_,rfl,(by show 2<=B64;decide),λm1 cc=>?_⟩
   have k1:=qA2 cc (.tup [.str "do",.int (0+(i:Int))])
   have q1:(Ag Hg m1 (.tup [.str "do",.int (0+(i:Int))])) m1=some (.tup [.str "do",.int (0+(i:Int))]):=qA1
   generalize Ag Hg m1 (.tup [.str "do",.int (0+(i:Int))])=Hh at k1 q1 ⊢
   refine⟨_,rfl,(by show 2<=B64;decide),λm2 c4=>?_⟩
   have k2:=qA2 c4 (.tup [.str "clear",.int (0+(i:Int))]);have q2:(Ag Hh m2 (.tup [.str "clear",.int (0+(i:Int))])) m2=some (.tup [.str "clear",.int (0+(i:Int))]):=qA1;have ah:=k2 _ _ q1;generalize Ag Hh m2 (.tup [.str "clear",.int (0+(i:Int))])=Hi at k2 q2 ah ⊢;refine⟨(by show 2<=B64;decide),λtp an=>?_⟩
   have k3:=qA2 an (.tup [.ref m1,.ref m2]);have q3:(Ag Hi tp (.tup [.ref m1,.ref m2])) tp=some (.tup [.ref m1,.ref m2]):=qA1;have bc:=k3 _ _ ah;have ba:=k3 _ _ q2;have a5:=sg.trans (k1.trans (k2.trans k3));generalize Ag Hi tp (.tup [.ref m1,.ref m2])=Hj at k3 q3 bc ba a5 ⊢;clear k1 k2 k3 q1 q2 ah;refine⟨tp,rfl,⟨_,SqT.of q3⟩,qHX (a:=tp) (xs:=[.ref m1,.ref m2]) (λj σ Hk=>∃(v10:Option V),σ=[some (.ref a),some (.ref t),some (.int Aa),some (.ref tw),some (.ref l),some (.ref b),some (.ref p),some (.ref d),some (.ref r),some (.int (0+(i:Int))),v10]/\Same Hj Hk)
    ⟨_,rfl,.refl _⟩ (by rintro j σ Hk _ ⟨_,_,z⟩;exact SqT.of (z _ _ q3)) ?_ ?_⟩
   ·refineλj x σ Hk hx av=>opq λct ao=>?_;obtain⟨v10,rfl,sk⟩:=av;obtain⟨mv,wd,rfl,gm,hw⟩:∃(mv:Addr) (wd:Str),x=.ref mv/\Hk mv=some (.tup [.str wd,.int (0+(i:Int))])/\(wd = "do"\/wd = "clear"):=(twoR hx).elim (λe=>⟨m1,_,e,sk _ _ bc,.inl rfl⟩) λe=>⟨m2,_,e,sk _ _ ba,.inr rfl⟩
    refine ao ?_;have sA:=aw.trans (a5.trans sk);have b6:=(a5.trans sk) _ _ ca;refine⟨_,rfl,_,rfl,_,rfl,_,rfl,b,r,mv,g,zs,ns,Aa,_,wd,rfl,a1.same sA,b6,by lia,gm,hw,by lia,a8,by lia,λH3 s3=>⟨_,rfl,?_⟩⟩
    by_cases c:qCH ns zs Aa wd (0+(i:Int))=.non
    ·rw[c];refine iteT ?_;refine⟨_,rfl,_,rfl,r,mv,zs,wd,_,rfl,s3 _ _ b6,by lia,s3 _ _ gm,hw,λr2 d6 H5 s5 a3 c7=>?_⟩
     have e2:=qWY (m:=(wd,0+(i:Int))) rz hw c7;rw[e2] at a3;have c2:=(vk _).mpr (NV.shut zs hz _ (qXC a8 hw (by lia) (by lia) c))
     refine⟨_,rfl,d,_,rfl,.inr ⟨Af,keyS (behL zs (wd,0+(i:Int))),r2,.inr ⟨o,s5 _ _ (s3 _ _ (sA _ _ ap))⟩,rfl,by rw[qC3];exact a3,rfl⟩,_,rfl,?_⟩
     rw[c2];exact⟨_,rfl,sk.trans (s3.trans s5)⟩
    ·rw[decide_eq_false c];refine iteF ?_;exact⟨_,rfl,sk.trans s3⟩
   ·refineλσ Hk ax=>opq λcw as=>?_;obtain⟨v10,rfl,sk⟩:=ax;refine as ?_;exact⟨_,_,rfl,a5.trans sk⟩
  ·refineλσ Hg ac=>opq λcv ar=>?_;obtain⟨v9,v10,rfl,sg⟩:=ac;refine ar ?_;exact⟨_,_,_,rfl,aw.trans sg⟩
 ·refineλσ He ab=>opq λcz ay=>?_;obtain⟨v8,v9,v10,rfl,se⟩:=ab;refine ay ?_;exact c8 _ _ (q _ (bq.trans se))
theorem sc_Lnever_right:FnScope ["_law_net_here","_law_asked_here","_law_rooms","_law_paper","_law_works_here","_law_stands","_law_known","_law_bits_here"] ["_law_net_here","_law_asked_here","_law_rooms"] (qAA qCV):=qBK
theorem ok_Lnever_right (F:Fun K "_law_never_right" "_law_never_right" qCV f fd) (qBS:Clb P w K mg base 5 qDE qG9 "never_paper" ["net","asked","rooms"] (qM7 Pt)) (bw:Clb P w K mg base 2 qN1 qW3 "_law_holds" ["_law_net_here","_law_asked_here","_law_rooms","_law_works_here","_law_stands"] qTX) (qGN:Clb P w K mg base 1 qN2 qS0 "_law_come" ["_law_net_here","_law_rooms"] qU0) (br:Clb P w K mg base 1 qMY qW1 "_law_works" ["_law_bits_here"] qNQ) (bg:Clb P w K mg base 6 qES qKU "shows_never" ["net","asked","rooms","thing"] qQV) (a9:mg "isinstance" = none) (af:mg "tuple" = none) (qDI:mg "list" = none) (qBE:mg "len" = none) (be:mg "sorted" = none) (bo:mg "set" = none) (b9:mg "all" = none) (bu:mg "dict" = none):FnOk P w K mg base CX0 7 f fd ["_law_net_here","_law_asked_here","_law_rooms"] (qL5 Pt):=by
 refine F.okA sc_Lnever_right λcd A bm s H vs Q E hr h=>?_;obtain⟨a,t,Ae,Ad,n,Aa,rfl,au,hN,wf,cb,⟨hT,rA⟩,a1,N,r1,nd,q⟩:=h;have hu:=qG7 hr;have b6:=hr.units;have bd:=hr.units0;refine⟨_,(qA4 (qAJ (i:=3) sc_Lnever_right.nd rfl (E8 rfl) (qAT qBS hr rfl (qA0 (pv 0) (qA0 (pv 1) (qA0 (pv 2) qA3))))) (qA4 (qBF (PW.pt (qG6 (qCM (qCC (qA8 qDZ rfl a9 qAW (qA0 (pv 3) (qA0 (qD6 (v:=.ty "tuple") rfl af qAP rfl) qA3))))) (qG6 (qAN qXX (qA8 qAC rfl qBE qBJ (qA0 (pv 3) qA3)) qA7 (qAY _)) (qEA (qCM (qCC (qA8 qDZ rfl a9 qAW (qA0 (qB9 qBI (pv 3) qA7 (λ_ _=>rfl)) (qA0 (qD6 (v:=.ty "list") rfl qDI qFM rfl) qA3))))))))) (qA5 (qAE qCF)) qAL) (qA4 (qRD (pv 3) (qL9 rfl (qBV (qAR (i:=4) sc_Lnever_right.nd rfl (A05 rfl)) (qBV (qAR (i:=5) sc_Lnever_right.nd rfl (E8 rfl)) qGC)))) (qA4 (qBF (PW.pt (qG6 (qCM (qCC (qA8 qDZ rfl a9 qAW (qA0 (pv 4) (qA0 (qD6 (v:=.ty "tuple") rfl af qAP rfl) qA3))))) (qEA (qAN (qJT bd) (qAD qDY rfl qDI qFM (qA0 (pv 4) qA3)) (qA8 (qD5 rfl) rfl be qCL (qA0 (qAD (qLT rfl) rfl bo qP1 (qA0 (pv 4) qA3)) qA3)) (qAY _))))) (qA5 (qAE qCF)) qAL) (qA4 (qBF (qCM (qCC (qA8 (qEY rfl) rfl b9 qKL (qA0 (qCJ rfl (lcs (own:=["_law_work"]) (fv:=[0]) (by kernel_rfl)) (qC7 (pv 4)) (λz1=>qBN 0) (λz1=>qB0) (λz1=>(qMM qXY qMO qA7 (pv 0) (qA8 (qWQ (K:=K) rfl) rfl qBE qBJ (qA0 (pv 1) qA3))))) qA3)))) (qA5 (qAE qCF)) qAL) (qA4 (qBF (qCM (qCC (qAT bw hr rfl (qA0 (pv 0) (qA0 (pv 1) (qA0 (pv 2) (qA0 (pv 4) (qA0 (pv 5) qA3)))))))) (qA5 (qAE qCF)) qAL) (qA4 (qAJ (i:=6) sc_Lnever_right.nd rfl (E8 rfl) (qAD (qLU rfl b6) rfl bu qWT (qA0 (qCJ rfl (lcs (own:=["_law_stand"]) (fv:=[]) (by kernel_rfl)) (qC2 (pv 5)) (λz2=>qBN 0) (λz2=>qB0) (λz2=>(qBY (qA0 (pv 0) (qA0 qCF qA3))))) qA3))) (qA4 (qBT D7 rfl (qRH (qAT qGN hr rfl (qA0 (pv 0) (qA0 (pv 2) qA3)))) (qAR (i:=7) sc_Lnever_right.nd rfl (E8 rfl)) (qA5 (qBF (qC6 (qD3 hu (qAD qAH rfl af qAP (qA0 (qCJ rfl (lcs (own:=["_law_work"]) (fv:=[4]) (by kernel_rfl)) (qC7 (qAT br hr rfl (qA0 (pv 7) qA3))) (λz3=>qBN 0) (λz3=>(qDJ (qAN (qIA (K:=K) rfl) (pv 0) (pv 1) (by with_unfolding_all rfl)))) (λz3=>(qO5 (X:=lcCx _ _ _ _ z3) Q9 R0 R4 (qDL (K:=K) rfl) (pv 1) (qA0 (pv 0) qA3)))) qA3)) (pv 6))) (qA5 (qAE qCF)) qAL))) (qA5 (qAE (qE3 qcS (qAT bg hr rfl (qA0 (pv 0) (qA0 (pv 1) (qA0 (pv 2) (qA0 (pv 3) qA3))))) qCF (qAY _)))))))))))),?_⟩
 try dsimp only[Cx.nox,Cx.wish,cxOf]
 have lw:=N.1.len;have lA:=rA.len;have ha:∀x∈Ad,x∈n:=λx hx=>(N.2 x).mpr (.ask hx);have b2:qB1 n Ad≠[]:=λe=>by
  cases Ad with
  |nil=>simp at a1
  |cons x r=>
   obtain⟨j,hj⟩:=E5 (ha x D8);unfold qB1 at e;rw[K0,qC1 N.1.nodup hj] at e;cases e
 refine cut λN0 bz=>?_;refine⟨_,rfl,_,rfl,_,rfl,a,t,Ae,Ad,n,Aa,rfl,au,hN,wf,by lia,⟨hT,rA⟩,a1,N,λdn=>absurd dn nd,λ_ T g l rs ss H1 s1 fT fl PN NP no c8=>?_⟩
 have NV:=NP.nev (by lia) no
 have gT:=PN.tup;have gl:=PN.lst;have hW:=PN.works;have SL:=PN.at_;have bx:rs.length=ss.length:=C1 SL;have a2:Rd H1 g (.tup (n.map V.int)):=(let⟨o,e,_⟩:=PN.works;.inr ⟨o,e⟩)
 refine bz _ _ (cut λN1 c1=>?_);refine⟨_,rfl,_,"tuple",_,true,rfl,.inl (TyOf.tup gT),qRS true,_,rfl,?_⟩;refine⟨_,rfl,T,_,rfl,.inr (SqT.of gT),rfl,_,rfl,?_⟩;rw[decide_eq_true (show V.int ((([V.ref g,V.ref l].length:Nat)):Int)=V.int 2 from rfl)];refine⟨_,rfl,T,_,_,_,rfl,rfl,SqT.of gT,rfl,_,"list",_,true,rfl,.inl (TyOf.lst gl),rfl,_,rfl,?_⟩;refine c1 _ _ (cut λN2 bj=>?_);refine⟨_,rfl,T,_,rfl,SqT.of gT,rfl,_,_,rfl,_,_,rfl,rfl,?_⟩;refine bj _ _ (cut λN3 bv=>?_);refine⟨_,rfl,_,"tuple",_,true,rfl,.inr ⟨g,_,rfl,a2,rfl⟩,qRS true,_,rfl,?_⟩;refine⟨_,rfl,g,_,rfl,.inr (.inl a2),λla bs=>?_⟩;have f1:=qA2 bs (.lst (n.map V.int));have ga:(Ag H1 la (.lst (n.map V.int))) la=some (.lst (n.map V.int)):=qA1;generalize Ag H1 la (.lst (n.map V.int))=Ha at f1 ga ⊢;refine⟨_,rfl,g,n,rfl,.inl (a2.same f1),by lia,λsa ba=>?_⟩
 have f2:=qA2 ba (SetM w sa (dedI n));have gs:(Ag Ha sa (SetM w sa (dedI n))) sa=some (SetM w sa (dedI n)):=qA1;have ad:=f2 _ _ ga;have a6:=f1.trans f2;generalize Ag Ha sa (SetM w sa (dedI n))=Hb at gs ad a6 ⊢;refine⟨sa,_,rfl,gs,λlb c bt pm so=>?_⟩;have ez:=qR4 N.1 pm so;subst ez;have f3:=qA2 bt (.lst (c.map V.int));refine⟨la,lb,c,c,rfl,rfl,SqL.of (f3 _ _ ad),SqL.of qA1,_,rfl,?_⟩;rw[decide_eq_false (λh=>h rfl)];have s2:=a6.trans f3;generalize Ag Hb lb (.lst (c.map V.int))=H2 at s2 ⊢;clear f3 f1 ga ad gs a6;refine bv _ _ (cut λN4 bh=>?_);refine⟨_,rfl,g,rfl,⟨_,.inl (a2.same s2)⟩,λpa ao=>?_⟩;obtain⟨ra,hA,NL⟩:=id hN;have bq:=C1 NL;refine qCN (p:=pa) (a:=g) (xs:=c.map V.int) (λj σ Hf=>∃(v:Option V),σ=[v,some (.ref a)]/\Same H2 Hf/\Hf pa=some (.lst ((E7 j true).map V.bl))) ?_ ?_ ?_ ?_
 ·exact⟨none,rfl,qA2 ao _,qA1⟩
 ·refineλj σ Hf hj ai=>opq λc7 b0=>?_;obtain⟨v,rfl,sf,_⟩:=ai;refine b0 ?_;exact .inl ((a2.same s2).same sf)
 ·refineλj x σ Hf hx al=>opq λc4 b1=>?_;obtain⟨v,rfl,sf,a4⟩:=al;obtain⟨y,ey,rfl⟩:=qB5 hx;refine b1 ?_;have hj:=(A3.mp ey).1;have yb:=N.1.in_ y (A9 ey);refine⟨_,rfl,_,_,rfl,rfl,true,congrArg V.bl (decide_eq_true yb.1),?_⟩;rw[if_pos rfl];refine⟨_,rfl,a,_,rfl,.inr (SqT.of ((s1.trans (s2.trans sf)) _ _ hA)),_,_,rfl,rfl,_,a4,qB2 (by rw[A0,Q5];lia),_,rfl,qAB sf ao,?_⟩
  rw[qA1,A0,bq,Y2,B1];dsimp only;rw[decide_eq_true yb.2]
  rfl
 refineλσ H3 b7=>opq λc6 av=>?_;obtain⟨v,rfl,s3,a4⟩:=b7;refine av ?_;rw[A0] at a4;have a3:=s2.trans s3;refine⟨pa,_,rfl,SqL.of a4,?_⟩;rw[show(E7 c.length true).all id=true by simp]
 refine⟨_,rfl,?_⟩;refine bh _ _ (cut λN5 bf=>?_);have S3:=s1.trans a3;refine⟨_,rfl,_,rfl,_,rfl,_,rfl,_,rfl,a,t,g,l,Ae,Ad,c,Aa,rs,ss,rfl,hN.same S3,wf,by lia,⟨S3 _ _ hT,rA⟩,hW.same a3,a3 _ _ gl,SL.same a3,N.1,b2,by lia,NV,λH4 s4=>⟨_,rfl,?_⟩⟩
 have a5:=a3.trans s4;refine bf _ _ (cut λN6 bn=>?_);clear NL;refine⟨_,rfl,l,rfl,⟨_,SqL.of (a5 _ _ gl)⟩,λpq as=>?_⟩;refine qE4 (p:=pq) (a:=l) (xs:=rs.map V.ref) (λi σ Hc=>∃(v:Option V) (qs:List Addr) (ps:List (List Key×Addr×V)),σ=[v]/\Same H4 Hc/\Hc pq=some (.lst (qs.map V.ref))/\qO9 Hc K qs ps/\ps.map (·.1)=(ss.take i).map keyS) ?_ ?_ ?_ ?_
 ·exact⟨none,[],[],rfl,qA2 as _,qA1,.nil,rfl⟩
 ·rintro i σ Hc hi ⟨v,qs,ps,rfl,sm,_⟩;exact SqL.of (sm _ _ (a5 _ _ gl))
 ·refineλi x σ Hc hx aj=>opq λcc az=>?_;obtain⟨v,qs,ps,rfl,sm,gq,PT,kp⟩:=aj;obtain⟨r,er,rfl⟩:=qC4 hx;obtain⟨z,ez,gz⟩:=qAS SL er;refine az ?_;have hi:=(A3.mp ez).1;have lq:qs.length<=i:=by
   have h1:=C1 PT;have h2:=congrArg T3 kp;rw[A0,A0,C5] at h2
   lia
  refine⟨_,rfl,(by show 2<=B64;decide),λtp bp=>?_⟩
  have sT:=qA2 bp (.tup [.ref r,.bl true]);have a8:=sT _ _ gq;refine⟨_,a8,qB2 (by rw[A0];lia),?_⟩
  rw[qB6];have m:∀{b:Addr} {xs:List V},(Ag Hc tp (.tup [.ref r,.bl true])) b=some (.tup xs)->(Ag (Ag Hc tp (.tup [.ref r,.bl true])) pq (.lst ((qs++[tp]).map V.ref))) b=some (.tup xs):=λ{b xs} e=>by rw[qA9 (qCP e a8 (λz=>nomatch z))];exact e
  have Sz:=(a5.trans sm) _ _ gz;refine⟨_,qs++[tp],ps++[(keyS z,r,.bl true)],rfl,qAB (sm.trans sT) as,qA1,T5 (Paired.mapP PT λr' q' e=>⟨?_,m (sT _ _ e.2)⟩) ⟨SqT.of (m qA1),by rw[qC3];exact m (sT _ _ Sz)⟩,?_⟩
  ·rcases e.1 with h|h
   ·refine .inl ?_;rcases h with h|⟨oo,h⟩
    ·exact .inl (m (sT _ _ h))
    ·exact .inr ⟨oo,by rw[qA9 (qCP (sT _ _ h) a8 (λz=>nomatch z))];exact sT _ _ h⟩
   ·exact .inr h
  ·rw[B1,kp,C8,ez,C9,B1]
   rfl
 refineλσ H6 am=>opq λc5 b3=>?_;obtain⟨v,qs,ps,rfl,s6,gq,PT,kp⟩:=am;refine b3 ?_;rw[A0,bx,L4] at kp;refine⟨pq,qs,ps,rfl,SqL.of gq,PT,λdk bb=>?_⟩;have s7:=qA2 bb (.dT (qBB [] ps));have g7:(Ag H6 dk (.dT (qBB [] ps))) dk=some (.dT (qBB [] ps)):=qA1;have a0:=a5.trans (s6.trans s7);have vk:∀z:List Int,z∈ss->(valV (qBB [] ps) (keyS z)).isSome=true:=λz h=>by
  rw[qJM,kp];exact .inr (Q3 h)
 generalize qBB [] ps=Af at s7 g7 a0 vk;generalize Ag H6 dk (.dT Af)=H7 at s7 g7 a0 ⊢;have S7:=s1.trans a0;refine bn _ _ (cut λN7 c0=>?_);refine⟨_,rfl,_,rfl,a,Ae,Aa,rfl,hN.same S7,wf,by lia,λd o ks fv H8 s8 ce aw C=>?_⟩
 refine⟨d,o,_,rfl,aw,?_⟩;refine qVZ (a:=d) (o:=o) (Af:=kvN ks fv) (λi σ He=>∃(v7:Option V),σ=[some (.ref a),some (.ref t),some (.int Aa),some (.ref T),some (.ref g),some (.ref l),some (.ref dk),v7]/\Same H8 He)
  ⟨none,rfl,.refl _⟩ (λi σ He _ ⟨_,_,z⟩=>z _ _ aw) ?_ ?_
 ·refineλi k v σ He hk b5=>opq λca ah=>?_;obtain⟨v7,rfl,se⟩:=b5;refine ah ?_;unfold kvN at hk;rw[B9] at hk;cases e:ks[i]? with
  |none=>rw[e] at hk;cases hk
  |some x=>
   rw[e] at hk;cases hk;obtain⟨st,tt,rfl,P,_⟩:=(C.snd x (A9 e)).1.path wf;obtain⟨u,PP⟩:=prj N P;have bc:=vk _ ((NP.mem _).mpr ⟨u,PP⟩);have lst:=P.rise.len;have ap:=s8.trans se;have b8:=(hW.same a0).same ap;refine⟨_,rfl,st,_,rfl,P.rise,by lia,λtt H9 s9 an=>?_⟩
   refine⟨tt,rfl,⟨_,SqT.of an⟩,λpb ax=>?_⟩;have ar:=b8.same s9;refine qCN (p:=pb) (a:=tt) (xs:=st.map V.int) (λi σ Hc=>∃(v0:Option V),σ=[v0,some (.ref g)]/\Same H9 Hc/\Hc pb=some (.lst ((qB1 c (st.take i)).map V.int))) ?_ ?_ ?_ ?_
   ·exact⟨none,rfl,qA2 ax _,qA1⟩
   ·rintro i σ Hc hi ⟨v0,rfl,sm,_⟩;exact SqT.of (sm _ _ an)
   ·refineλi x σ Hc hx aq=>opq λc9 b4=>?_;obtain⟨v0,rfl,sm,ay⟩:=aq;obtain⟨y,ey,rfl⟩:=qB5 hx;refine b4 ?_;have lt:=(A3.mp ey).1;have ae:=ar.same sm;have lk:(qB1 c (st.take i)).length<=i:=F5 (G7 _ _) (by rw[C5];lia)
    refine⟨_,rfl,_,rfl,g,_,rfl,.inr ae.sq,rfl,qBZ c,_,rfl,?_⟩;rw[qDN,show qB1 c (st.take (i+1))=qB1 c (st.take i)++(qCE c y).toList from qQC ey];by_cases cy:y∈c
    ·rw[decide_eq_true cy];obtain⟨j,hj⟩:=E5 cy;refine iteT ?_;refine⟨_,rfl,⟨g,_,rfl,ae⟩,_,rfl,g,c,y,j,rfl,rfl,ae.sq,hj,qMU N.1.nodup hj,_,ay,qAG (by rw[A0];lia),_,rfl,qAB sm ax,?_⟩
     rw[qA1,qC1 N.1.nodup hj,B1]
     rfl
    ·rw[decide_eq_false cy];refine iteF ?_;refine⟨_,rfl,sm,?_⟩;rw[qMJ cy,ay];simp
   refineλσ HA aa=>opq λc2 a7=>?_;obtain⟨v0,rfl,sA,ak⟩:=aa;refine a7 ?_;rw[A0,L4] at ak;refine⟨pb,_,rfl,.inl ⟨SqL.of ak,λtk bi=>?_⟩⟩;have sK:=qA2 bi (.tup ((qB1 c st).map V.int));have sE:=s9.trans (sA.trans sK);refine⟨_,rfl,dk,_,rfl,.inr ⟨Af,keyS (qB1 c st),tk,.inl (sE _ _ (ap _ _ g7)),rfl,by rw[qC3];exact qA1,rfl⟩,_,rfl,?_⟩
   rw[bc];exact⟨_,rfl,se.trans sE⟩
 ·refineλσ He ac=>opq λc3 ab=>?_;obtain⟨v7,rfl,se⟩:=ac;refine ab ?_;have S9:=a0.trans (s8.trans se);have ag:=s1.trans S9;refine c0 _ _ ?_;refine⟨_,rfl,_,rfl,_,rfl,_,rfl,a,t,T,g,l,Ae,Ad,c,Aa,rs,ss,rfl,hN.same ag,wf,by lia,⟨ag _ _ hT,rA⟩,⟨S9 _ _ gT,hW.same S9,S9 _ _ gl,SL.same S9⟩,N.1,b2,by lia,NV,λcf bk=>?_⟩
  exact⟨true,true,rfl,rfl,q _ (ag.trans bk)⟩
theorem sc_law:FnScope ["_law_script","_law_state","_law_turn","_law_many","_law_net_here","_law_asked_here","_law_rooms","_law_plan","_law_fewer","_law_less"] ["_law_script"] (qAA qE8):=qBK
theorem ok_law (F:Fun K "law" "law" qE8 f fd) (qJ6:Clb P w K mg base 1 qN3 qW4 "_law_begin" ["_law_script"] (qU4 K)) (qBU:Clb P w K mg base 1 qGK qHB "_law_take" ["_law_state","_law_many"] qL4) (qSE:Clb P w K mg base 3 qW6 qb7 "_law_net" ["_law_state","_law_many"] qc5) (qJ7:Clb P w K mg base 2 qN4 qW5 "_law_asked" ["_law_state","_law_net_here"] qU5) (qJ5:Clb P w K mg base 5 qMX qW0 "fewest" ["net","asked"] (qZ5 Pt)) (qNI:Clb P w K mg base 3 qQI qYS "_law_does" ["_law_net_here","_law_rooms","_law_plan","_law_asked_here"] qTZ) (qHI:Clb P w K mg base 2 qN0 qW2 "_law_least" ["_law_come_here","_law_asked_here"] qQY) (qGN:Clb P w K mg base 1 qN2 qS0 "_law_come" ["_law_net_here","_law_rooms"] qU0) (qBS:Clb P w K mg base 5 qDE qG9 "never_paper" ["net","asked","rooms"] (qM7 Pt)) (qD1:Clb P w K mg base 7 qE6 qKD "_law_never_right" ["_law_net_here","_law_asked_here","_law_rooms"] (qL5 Pt)) (qBE:mg "len" = none) (qAZ:mg "range" = none) (qDI:mg "list" = none):FnOk P w K mg base CX0 8 f fd ["_law_script"] (qQZ K Pt):=by
 refine F.okA sc_law λcl A br s H vs Q E g h=>?_;obtain⟨au,sc,ns,rfl,hS,c4,q⟩:=h;have bj:qAV qE8=[((qAV qE8).getD 0 (.Pass ⟨0,0,0,0⟩)),(.For (.Name "_law_turn" ⟨280,8,280,17⟩) (.Call (.Name "range" ⟨280,21,280,26⟩) [(.Constant (.int 3) 0 ⟨280,27,280,28⟩)] [] ⟨280,21,280,29⟩) [(.Assign [(.Name "_law_many" ⟨281,8,281,17⟩)] (.Subscript (.List [(cst 2 ⟨281,21,281,22⟩),(cst 3 ⟨281,24,281,25⟩),(cst 4 ⟨281,27,281,28⟩),(cst 5 ⟨281,30,281,31⟩),(cst 6 ⟨281,33,281,34⟩),(cst 7 ⟨281,36,281,37⟩),(.Subscript (.List [(.BinOp (.Constant (.int 8) 0 ⟨281,40,281,41⟩) .Add (.Call (.Name "_law_take" ⟨281,44,281,53⟩) [(.Name "_law_state" ⟨281,54,281,64⟩),(.Constant (.int 3) 0 ⟨281,66,281,67⟩)] [] ⟨281,44,281,68⟩) ⟨281,40,281,68⟩),(.Constant (.int 5) 0 ⟨281,70,281,71⟩),(.Constant (.int 6) 0 ⟨281,73,281,74⟩)] ⟨281,39,281,75⟩) (.Name "_law_turn" ⟨281,76,281,85⟩) ⟨281,39,281,86⟩),(cst 1 ⟨281,88,281,89⟩)] ⟨281,20,281,90⟩) (.Call (.Name "_law_take" ⟨281,91,281,100⟩) [(.Name "_law_state" ⟨281,101,281,111⟩),(.Constant (.int 8) 0 ⟨281,113,281,114⟩)] [] ⟨281,91,281,115⟩) ⟨281,20,281,116⟩) ⟨281,8,281,116⟩),(forB ((qAV qE8).getD 1 (.Pass ⟨0,0,0,0⟩))).getD 1 (.Pass ⟨0,0,0,0⟩),(forB ((qAV qE8).getD 1 (.Pass ⟨0,0,0,0⟩))).getD 2 (.Pass ⟨0,0,0,0⟩),(forB ((qAV qE8).getD 1 (.Pass ⟨0,0,0,0⟩))).getD 3 (.Pass ⟨0,0,0,0⟩),(forB ((qAV qE8).getD 1 (.Pass ⟨0,0,0,0⟩))).getD 4 (.Pass ⟨0,0,0,0⟩),(forB ((qAV qE8).getD 1 (.Pass ⟨0,0,0,0⟩))).getD 5 (.Pass ⟨0,0,0,0⟩),(forB ((qAV qE8).getD 1 (.Pass ⟨0,0,0,0⟩))).getD 6 (.Pass ⟨0,0,0,0⟩),(forB ((qAV qE8).getD 1 (.Pass ⟨0,0,0,0⟩))).getD 7 (.Pass ⟨0,0,0,0⟩)] [] ⟨280,4,292,28⟩),((qAV qE8).getD 2 (.Pass ⟨0,0,0,0⟩))]:=by unfold cst;kernel_rfl
 rw[bj];refine⟨_,(qA4 (qAJ (i:=1) sc_law.nd rfl (E8 rfl) (qAT qJ6 g rfl (qA0 (pv 0) qA3))) (qA4 (qBT D7 rfl (qB7 rfl qAZ (qA0 qA7 qA3)) (qAR (i:=2) sc_law.nd rfl (E8 rfl)) (qA4 (qAJ (i:=3) sc_law.nd rfl (E8 rfl) (qB9 qCS (qBW (qA0 qJR (qA0 qJR (qA0 qJR (qA0 qJR (qA0 qJR (qA0 qJR (qA0 (qB9 qCS (qBW (qA0 (qAU qF2 qA7 (qAT qBU g rfl (qA0 (pv 1) (qA0 qA7 qA3)))) (qA0 qA7 (qA0 qA7 qA3)))) (pv 2) (λ_ _=>rfl)) (qA0 qJR qA3 (hs:=qK4)) (hs:=qd7)) (hs:=qK4)) (hs:=qK4)) (hs:=qK4)) (hs:=qK4)) (hs:=qK4)) (hs:=qK4))) (qAT qBU g rfl (qA0 (pv 1) (qA0 qA7 qA3))) (λ_ _=>rfl))) (qA4 (qAJ (i:=4) sc_law.nd rfl (E8 rfl) (qAT qSE g rfl (qA0 (pv 1) (qA0 (pv 3) qA3)))) (qA4 (qAJ (i:=5) sc_law.nd rfl (E8 rfl) (qAT qJ7 g rfl (qA0 (pv 1) (qA0 (pv 4) qA3)))) (qA4 (qRD (qAT qJ5 g rfl (qA0 (pv 4) (qA0 (pv 5) qA3))) (qL9 rfl (qBV (qAR (i:=6) sc_law.nd rfl (E8 rfl)) (qBV (qAR (i:=7) sc_law.nd rfl (E8 rfl)) qGC)))) (qA4 (qBF (PW.pt (qG6 (qCM (qCC (qAT qNI g rfl (qA0 (pv 4) (qA0 (pv 6) (qA0 (pv 7) (qA0 (pv 5) qA3))))))) (qEA (qC6 (qO7 (qAT qHI g rfl (qA0 (qAT qGN g rfl (qA0 (pv 4) (qA0 (pv 6) qA3))) (qA0 (pv 5) qA3)))))))) (qA5 (qAE qCF)) qAL) (qA4 (qBF (PW.pt (qG6 (qC6 (qHO (qAT qBS g rfl (qA0 (pv 4) (qA0 (pv 5) (qA0 (pv 6) qA3)))))) (qEA (qC6 (qHO (qAT qBS g rfl (qA0 (pv 4) (qA0 (pv 5) (qA0 (qAU qF2 (pv 6) qA7) qA3))))))))) (qA5 (qAE qCF)) qAL) (qA4 (qAJ (i:=8) sc_law.nd rfl (E8 rfl) (qAD (qND rfl) rfl qDI qFM (qA0 (qAD qOZ rfl qAZ qS7 (qA0 qA7 (qA0 (pv 6) qA3))) qA3))) (qA5 (qBT D7 rfl (qC2 (qEO (qAN qMO (qA8 qAC rfl qBE qBJ (qA0 (pv 4) qA3)) qA7 (qAY _)) (pv 8) (qAU qOD (qFW qHL (pv 8) qHN (qHM qA7)) (qFW qHL (qFW qHL (pv 8) (qHM qA7) qHN) (qHM (qSV qL1 qA7)) qHN)))) (qAR (i:=9) sc_law.nd rfl (E8 rfl)) (qA5 (qBF (PW.pt (qG6 (qC6 (qHO (qAT qHI g rfl (qA0 (qAT qGN g rfl (qA0 (pv 4) (qA0 (pv 9) qA3))) (qA0 (pv 5) qA3))))) (qEA (qCM (qCC (qAT qD1 g rfl (qA0 (pv 4) (qA0 (pv 5) (qA0 (pv 9) qA3))))))))) (qA5 (qAE qCF)) qAL)))))))))))) (qA5 (qAE qCF)))),?_⟩
 try dsimp only[Cx.nox,Cx.wish,cxOf]
 refine cut λN0 c2=>?_;refine⟨_,rfl,sc,ns,rfl,hS,c4,λd c ms H1 S1 bx cf cj=>?_⟩;have ak:TabB H1 Pt:=bx _ _ au;have az:Pt≠d:=qCP ak S1.dict (by intro z;cases z)
 have bb:Pt≠c:=qCP ak S1.list (by intro z;cases z)
 refine c2 _ _ (cut λN1 c9=>?_);refine⟨3,rfl,by decide,by decide,qEC (lo:=0) (n:=3) (λi σ Hd=>∃(t:Int) (ms:List Int) (v2 v3 v4 v5 v6 v7 v8 v9:Option V),σ=[some (.ref sc),some (.ref d),v2,v3,v4,v5,v6,v7,v8,v9]/\StAt Hd d c t ms/\t<=20000*i/\Keep d c H1 Hd)
   ⟨0,ms,none,none,none,none,none,none,none,none,rfl,S1,by lia,λ_ _ e _ _=>e⟩ ?_ ?_⟩
 ·refineλi σ Hd hi al=>opq λcd b5=>?_;obtain⟨t,ms,v2,v3,v4,v5,v6,v7,v8,v9,rfl,S2,tb,K2⟩:=al;refine b5 ?_;have bi:TabB Hd Pt:=K2 _ _ ak az bb;refine nmD λD1 d1 dr=>?_;refine cut λM0 bw=>?_;refine⟨_,rfl,d,c,t,ms,3,rfl,S2,(by show t<=1000000000;lia),by decide,by decide,λk0 bd H2 a0 a1 S3 K3=>?_⟩
  obtain⟨m6,e6,l6,u6⟩:=qcI a0 a1 hi;refine⟨_,_,rfl,rfl,(by show 3<=B64;decide),λli bq=>?_⟩
  have f1:=qA2 bq (.lst [V.int (8+k0),V.int 5,V.int 6]);refine⟨_,rfl,li,_,_,_,rfl,rfl,SqL.of qA1,e6,?_⟩;have a2:=S3.same f1;have aa:Keep d c Hd (Ag H2 li (.lst [V.int (8+k0),V.int 5,V.int 6])):=K3.trans (.of_same f1);generalize Ag H2 li (.lst [V.int (8+k0),V.int 5,V.int 6])=as at a2 aa ⊢;refine⟨(by show 8<=B64;decide),λlj ac=>?_⟩
  have f2:=qA2 ac (.lst [V.int 2,V.int 3,V.int 4,V.int 5,V.int 6,V.int 7,V.int m6,V.int 1]);have ax:lj≠d/\lj≠c:=⟨(qA6 a2.dict ac).symm,(qA6 a2.list ac).symm⟩;have ai:(Ag as lj (.lst [V.int 2,V.int 3,V.int 4,V.int 5,V.int 6,V.int 7,V.int m6,V.int 1])) lj=some (.lst [V.int 2,V.int 3,V.int 4,V.int 5,V.int 6,V.int 7,V.int m6,V.int 1]):=qA1;have ah:=a2.same f2;have ad:=aa.trans (.of_same f2);generalize Ag as lj (.lst [V.int 2,V.int 3,V.int 4,V.int 5,V.int 6,V.int 7,V.int m6,V.int 1])=cm at ah ad ai ⊢;refine⟨_,rfl,d,c,t+1,bd,8,rfl,ah,(by show t+1<=1000000000;lia),by decide,by decide,λk1 c8 H3 b0 b1 S4 K4=>?_⟩
  obtain⟨m,em,m1,ck⟩:=qcH b0 b1 l6 u6;refine⟨lj,_,_,_,rfl,rfl,SqL.of (K4 _ _ ai ax.1 ax.2),em,?_⟩;have bn:=ad.trans K4;clear K3 aa ad K4 S3 a2 ah ai;refine bw _ _ (cut λM1 bc=>?_);refine⟨_,rfl,_,rfl,d,c,t+1+1,c8,m,rfl,S4,(by show t+1+1<=1000000000-10000;lia),m1,by lia,λa p t2 bh H4 S5 g1 g2 K5 hN o nk=>?_⟩
  have l1:1<=p.length:=by lia
  have c0:p.length<=10:=by lia
  refine bc _ _ (cut λM2 be=>?_);refine⟨_,rfl,_,rfl,d,c,t2,bh,a,p,rfl,S5,(by show t2<=1000000000-100;lia),hN,o,l1,by lia,λta Ad t3 bv H5 S6 g3 g4 K6 hW u a5=>?_⟩
  have b:=hN.keep S5 K6;have ar:=bn.trans (K5.trans K6);have a7:TabB H5 Pt:=ar _ _ bi az bb;obtain⟨ws,N⟩:=qOF o u;have lA:=u.len;have la:Ad.length<=1000:=by lia
  refine be _ _ (cut λM3 c3=>?_);refine⟨_,rfl,_,rfl,a,ta,p,Ad,rfl,a7,b,o,by lia,⟨hW,u⟩,a5,λT l r mv H6 s6 FO fl PL gT=>?_⟩
  have LR:=FO.lr N;have r1:=LR.1;have lw:=N.1.len;have ci:=LR.le o N u a5;obtain⟨b9,run,a8,b4,ca⟩:=FO.run o u (by lia)
  obtain⟨kk,c1⟩:=qcA o u run b4 a8;refine⟨T,_,rfl,SqT.of gT,rfl,_,_,rfl,_,_,rfl,rfl,?_⟩;refine c3 _ _ (cut λM4 c5=>?_);have PI:PlayIn2 H6 a l p mv r:=⟨b.same s6,o,by lia,PL,by lia,b4,by lia,by lia⟩
  refine⟨_,rfl,_,rfl,_,rfl,_,rfl,a,l,ta,p,mv,r,Ad,b9,rfl,PI,run,s6 _ _ hW,la,a8,λH7 s7=>⟨_,rfl,?_⟩⟩;have ag:=s6.trans s7;refine⟨_,rfl,_,rfl,a,p,r,rfl,b.same ag,o,by lia,λdd oo ks fv H8 s8 c7 b2 C=>?_⟩
  have ab:=ag.trans s8;refine⟨_,rfl,dd,ta,oo,p,r,Ad,ks,fv,rfl,b2,C,by lia,⟨ab _ _ hW,u⟩,λH9 s9=>⟨λk hk=>?_,λhn=>absurd (LB.one hn c1) (λz=>nomatch z)⟩⟩
  have a4:=ab.trans s9;clear s6 s7 s8 s9 ag ab b2 c7 PI PL gT C;refine⟨_,rfl,?_⟩;refine c5 _ _ (cut λM5 bf=>?_);refine⟨_,rfl,_,rfl,_,rfl,a,ta,p,Ad,ws,r,rfl,a4 _ _ a7,b.same a4,o,by lia,⟨a4 _ _ hW,u⟩,a5,N,λ_ HA sA=>⟨_,rfl,?_⟩,λnd=>absurd LR.2.1 nd⟩
  have v:=a4.trans sA;refine⟨_,rfl,_,rfl,_,rfl,_,_,rfl,rfl,a,ta,p,Ad,ws,r+1,rfl,v _ _ a7,b.same v,o,by lia,⟨v _ _ hW,u⟩,a5,N,λ_ HB sB=>⟨_,rfl,?_⟩,λnd=>absurd (LR.2.1.mono (by lia)) nd⟩
  have bs:=v.trans sB;clear a4 sA v sB;refine bf _ _ (cut λM6 bz=>?_);refine⟨_,rfl,1,r,rfl,λpr bu=>?_⟩;have f3:=qA2 bu (.rng 1 r);refine⟨pr,1,r,rfl,qA1,by lia,by lia,by lia,by lia,λlf bg=>?_⟩
  have f4:=qA2 bg (.lst (qE9 1 r));have a3:(Ag (Ag HB pr (.rng 1 r)) lf (.lst (qE9 1 r))) lf=some (.lst ((qBX 1 r).map V.int)):=by rw[qA1,qJL]
  have af:=bs.trans (f3.trans f4);generalize Ag (Ag HB pr (.rng 1 r)) lf (.lst (qE9 1 r))=HC at a3 af ⊢;have a6:∀x∈qBX 1 r,1<=x/\x<r:=λx hx=>mem_rangeI.mp hx;have lR:(qBX 1 r).length<=20:=by rw[qL8];lia
  generalize qBX 1 r=R at a3 a6 lR;refine bz _ _ ?_;refine qdR (λx Hx=>∃(lx:Addr) (xs:List Int),x=.ref lx/\Same HC Hx/\Hx lx=some (.lst (xs.map V.int))/\(∀x∈xs,1<=x/\x<r)) ?_ ?_
  ·refineλx Hx ao=>opq λcb b6=>?_;obtain⟨lx,xs,rfl,sx,gx,bt⟩:=ao;refine b6 ?_;have aj:=af.trans sx;refine⟨lx,rfl,⟨_,SqL.of gx⟩,qH9 (a:=lx) (xs:=xs.map V.int) (λj σ He=>∃(v9:Option V),σ=[some (.ref sc),some (.ref d),some (.int (0+(i:Int))),some (.int m),some (.ref a),some (.ref ta),some (.int r),some (.ref l),some (.ref lf),v9]/\Same Hx He)
    ⟨_,rfl,.refl _⟩ (by rintro j σ He _ ⟨_,_,z⟩;exact SqL.of (z _ _ gx)) ?_ ?_⟩
   ·refineλj x σ He hx b8=>opq λcc aw=>?_;obtain⟨v9,rfl,se⟩:=b8;obtain⟨y,ey,rfl⟩:=qB5 hx;refine aw ?_;have yb:=bt y (A9 ey);have nd:=LR.2.2 y yb.1 yb.2;have aq:=aj.trans se;refine⟨_,rfl,_,rfl,a,p,y,rfl,b.same aq,o,by lia,λd3 o3 bp f3 Hf sf ch bk C3=>?_⟩
    have b7:=aq.trans sf;refine⟨_,rfl,d3,ta,o3,p,y,Ad,bp,f3,rfl,bk,C3,by lia,⟨b7 _ _ hW,u⟩,λHg sg=>⟨λk hk=>absurd (LB.one hk (qb4 o N u nd)) (λz=>nomatch z),λhn=>⟨_,rfl,?_⟩⟩⟩
    have ae:=b7.trans sg;refine⟨_,rfl,_,rfl,_,rfl,a,ta,p,Ad,ws,y,rfl,ae _ _ a7,b.same ae,o,c0,⟨ae _ _ hW,u⟩,a5,N,yb.1,nd,λHh sh=>⟨_,rfl,?_⟩⟩;exact⟨_,rfl,se.trans (sf.trans (sg.trans sh))⟩
   ·refineλσ He av=>opq λce an=>?_;obtain⟨v9,rfl,se⟩:=av;refine an ?_;have kE:=ar.trans (.of_same (aj.trans se));exact d1 _ _ ⟨t3,bv,_,_,_,_,_,_,_,_,rfl,S6.same (aj.trans se),by lia,K2.trans kE⟩
  ·intro F' ap;obtain⟨ra,hA,NL⟩:=b.same af;refine⟨_,rfl,a,_,rfl,.inr (SqT.of hA),_,_,rfl,rfl,_,rfl,?_⟩;refine ite2 (λ_=>?_) (λ_=>?_)
   ·exact⟨_,rfl,ap _ _ ⟨lf,R,rfl,.refl _,a3,a6⟩⟩
   ·obtain⟨R1,e1,i1,q1⟩:=qQN R none (some 1);refine⟨_,rfl,_,rfl,lf,_,rfl,SqL.of a3,λp1 bo=>?_⟩;rw[e1];have k1:=qA2 bo (.lst (R1.map V.int));have ay:(Ag HC p1 (.lst (R1.map V.int))) p1=some (.lst (R1.map V.int)):=qA1;generalize Ag HC p1 (.lst (R1.map V.int))=b3 at k1 ay ⊢;obtain⟨R2,e2,i2,q2⟩:=qQN R (some 1) none;refine⟨_,rfl,_,rfl,lf,_,rfl,SqL.of (k1 _ _ a3),λp2 bl=>?_⟩;rw[e2];have k2:=qA2 bl (.lst (R2.map V.int));have am:(Ag b3 p2 (.lst (R2.map V.int))) p2=some (.lst (R2.map V.int)):=qA1;have a9:=k2 _ _ ay;have ba:=k1.trans k2;generalize Ag b3 p2 (.lst (R2.map V.int))=cg at ba am a9 ⊢;obtain⟨R3,e3,i3,q3⟩:=qQN R2 (some (-1)) none;refine⟨_,rfl,_,rfl,p2,_,rfl,SqL.of am,λp3 c6=>?_⟩;rw[e3];have k3:=qA2 c6 (.lst (R3.map V.int));refine⟨p1,p3,_,_,rfl,rfl,k3 _ _ a9,qA1,?_,λp4 bm=>?_⟩
    ·rw[A0,A0];exact F5 (show R1.length+R3.length<=40 by lia) (by decide)
    ·refine ap _ _ ⟨p4,R1++R3,rfl,(ba.trans k3).trans (qA2 bm _),by rw[qA1,B1],λx hx=>?_⟩
     rcases A8.mp hx with h|h
     ·exact a6 x (i1 x h)
     ·exact a6 x (i2 x (i3 x h))
 ·rintro σ Hd _;exact c9 _ _ (q Hd)
end
theorem all_mk {l:PySem.W.OpenLaw} {w:World} {K:PySem.W.Frag} {h:Heap} {mg:Str->Option Value} {fa y ao a1 a9 ab ar b6 a4 o bh q b2 n al f a7 a8 ag a3 r aa as a2 b3 ba an az am z b8 bd ak af p ai aj av be aw b0 d:Addr} (X:K.In h) (G:h.Ns B75 mg) (u:mg "law" = some (.ref fa))
  {ae bi b5 i:Option Addr} {ap bc:Array (Option Value)} {x ax ad bk t a6 j k g b m:Value}
  {qEX qGM:Addr}
  (T_is_number:Tf K "is_number" qEK y)
  (T_is_below:Tf K "is_below" qFT ao)
  (T_is_rising:Tf K "is_rising" qEJ a1)
  (T_is_pair:Tf K "is_pair" qGQ a9)
  (T_is_stand:Tf K "is_stand" qFS ab)
  (T_all_needed:Tf K "all_needed" qDT ar)
  (T_renumbered:Tf K "renumbered" qDR b6)
  (T_part_net:Tf K "part_net" qFQ a4)
  (T_fault_of_do:Tf K "fault_of_do" qDB o)
  (T_fault_of:Tf K "fault_of" qFU bh)
  (T_stand_behind:Tf K "stand_behind" qCT q)
  (T_has_all:Tf K "has_all" qGR b2)
  (T_moves_of:Tf K "moves_of" qFR n)
  (T_stands_reached:Tf K "stands_reached" qAI al)
  (au:w5 K B75 "best_end" = some (some (.ref f))) (b9:K.lookup f=some ⟨x,ae,.func (T1 "best_end" "best_end" (qEW qCO) (qAV qCO) (qAA qCO) .none ax ad bk bi (.ref qEX) t),ap⟩) (a5:k6 K (.ref qEX) "best_end" = true) (bj:T0 K (.ref f)=true)
  (T_plan_to:Tf K "plan_to" qGP a7)
  (T_part_numbers:Tf K "part_numbers" qCU a8)
  (T_fewest:Tf K "fewest" qIW ag)
  (T_never_paper:Tf K "never_paper" qDA a3)
  (T_are_closed:Tf K "are_closed" qDS r)
  (T_never_come_to:Tf K "never_come_to" qCI aa)
  (T_shows_never:Tf K "shows_never" qD9 as)
  (T_Lbegin:Tf K "_law_begin" qJ0 a2)
  (T_Ltake:Tf K "_law_take" qMB b3)
  (T_Lsome_needs:Tf K "_law_some_needs" qDC ba)
  (T_Ltree_net:Tf K "_law_tree_net" qEL an)
  (T_Lnet:Tf K "_law_net" qR5 az)
  (T_Lasked:Tf K "_law_asked" qJ1 am)
  (T_Lword:Tf K "_law_word" qMA z)
  (T_Lbehind:Tf K "_law_behind" qGT b8)
  (T_Lplayed:Tf K "_law_played" qGS bd)
  (T_Ldoes:Tf K "_law_does" qMD ak)
  (T_Lis_move:Tf K "_law_is_move" qFV af)
  (T_Lcome:Tf K "_law_come" qME p)
  (T_Lbits:Tf K "_law_bits" qMF ai)
  (T_Lleast:Tf K "_law_least" qIY aj)
  (T_Lworks:Tf K "_law_works" qIX av)
  (T_Lpart:Tf K "_law_part" qMC be)
  (T_Lholds:Tf K "_law_holds" qIZ aw)
  (T_Lnever_right:Tf K "_law_never_right" qCV b0)
  (ac:w5 K B75 "law" = some (some (.ref d))) (ay:K.lookup d=some ⟨a6,b5,.func (T1 "law" "law" (qEW qE8) (qAV qE8) (qAA qE8) .none j k g i b m),bc⟩) (aq:k6 K b "law" = true) (b7:T0 K (.ref d)=true)
  (qEP:hdIn K qEX qGM=true)
  (Z:Zs K ["all","any","bool","dict","divmod","enumerate","int","isinstance","len","list","max","min","range","set","sorted","sum","tuple"])
  : ∃fd:B85,(∀(s:Shared) (v:Value),BindsTo s fd ⟨[v],[]⟩ [("_law_script",v)])/\∀base:Heap,K.In base->base.Ns B75 mg->BM mg base->FnOk l.prog w K mg base CX0 8 fa fd ["_law_script"] (qQZ K qGM):=by
 have e:=u.symm.trans (A83 X G ac);cases e;have a:=fun_mk (st:=qCO) b9 a5 bj;have bg:=a.binds (ps:=["reached","asked"]) λ_ _ _ _ _ _ us hl=>us2 us hl (λ_ _=>rfl);have b4:=A83 X G au;have ah:=fun_mk (st:=qE8) ay aq b7;obtain⟨ci,ca,cf,c6,bn,bs,bt,bp,b1,bf,co,bb,a0,bv,cl,ce,bm,_⟩:=Z.mg X G;refine⟨T1 "law" "law" (qEW qE8) (qAV qE8) (qAA qE8) .none j k g i b m,λs v=>.of_eq rfl,λbase _ _ hBM=>?_⟩;have B:Bs l.prog w base:=⟨rfl,rfl,rfl⟩;obtain⟨_,c5⟩:=T_is_number.c X G B λ_ F=>by apply ok_is_number<;>assumption
 obtain⟨_,cm⟩:=T_is_below.c X G B λ_ F=>by apply ok_is_below<;>assumption
 obtain⟨_,cc⟩:=T_is_rising.c X G B λ_ F=>by apply ok_is_rising<;>assumption
 obtain⟨_,cd⟩:=T_is_pair.c X G B λ_ F=>by apply ok_is_pair<;>assumption
 obtain⟨_,bw⟩:=T_is_stand.c X G B λ_ F=>by apply ok_is_stand<;>assumption
 obtain⟨_,c3⟩:=T_all_needed.c X G B λ_ F=>by apply ok_all_needed<;>assumption
 obtain⟨_,bx⟩:=T_renumbered.c X G B λ_ F=>by apply ok_renumbered<;>assumption
 obtain⟨_,cq⟩:=T_part_net.c X G B λ_ F=>by apply ok_part_net<;>assumption
 obtain⟨_,bu⟩:=T_fault_of_do.c X G B λ_ F=>by apply ok_fault_of_do<;>assumption
 obtain⟨_,cb⟩:=T_fault_of.c X G B λ_ F=>by apply ok_fault_of<;>assumption
 obtain⟨_,bl⟩:=T_stand_behind.c X G B λ_ F=>by apply ok_stand_behind<;>assumption
 obtain⟨_,qEI⟩:=T_has_all.c X G B λ_ F=>by apply ok_has_all<;>assumption
 obtain⟨_,c9⟩:=T_moves_of.c X G B λ_ F=>by apply ok_moves_of<;>assumption
 obtain⟨_,cn⟩:=T_stands_reached.c X G B λ_ F=>by apply ok_stands_reached<;>assumption
 have cp:=Clb.mk (ok_best_end (P:=l.prog) (w:=w) (mg:=mg) (base:=base) (F:=a) (qEI:=qEI) (qKR:=bb) (hcd:=rfl) (hBM:=hBM) (qEP:=qEP)) bg a.kp b4;obtain⟨_,c8⟩:=T_plan_to.c X G B λ_ F=>by apply ok_plan_to<;>assumption
 obtain⟨_,bz⟩:=T_part_numbers.c X G B λ_ F=>by apply ok_part_numbers<;>assumption
 obtain⟨_,qJ5⟩:=T_fewest.c X G B λ_ F=>by apply ok_fewest<;>assumption
 obtain⟨_,qBS⟩:=T_never_paper.c X G B λ_ F=>by apply ok_never_paper<;>assumption
 obtain⟨_,cr⟩:=T_are_closed.c X G B λ_ F=>by apply ok_are_closed<;>assumption
 obtain⟨_,ch⟩:=T_never_come_to.c X G B λ_ F=>by apply ok_never_come_to<;>assumption
 obtain⟨_,c0⟩:=T_shows_never.c X G B λ_ F=>by apply ok_shows_never<;>assumption
 obtain⟨_,qJ6⟩:=T_Lbegin.c X G B λ_ F=>by apply ok_Lbegin<;>assumption
 obtain⟨_,qBU⟩:=T_Ltake.c X G B λ_ F=>by apply ok_Ltake<;>assumption
 obtain⟨_,c2⟩:=T_Lsome_needs.c X G B λ_ F=>by apply ok_Lsome_needs<;>assumption
 obtain⟨_,cj⟩:=T_Ltree_net.c X G B λ_ F=>by apply ok_Ltree_net<;>assumption
 obtain⟨_,qSE⟩:=T_Lnet.c X G B λ_ F=>by apply ok_Lnet<;>assumption
 obtain⟨_,qJ7⟩:=T_Lasked.c X G B λ_ F=>by apply ok_Lasked<;>assumption
 obtain⟨_,ck⟩:=T_Lword.c X G B λ_ F=>by apply ok_Lword<;>assumption
 obtain⟨_,bq⟩:=T_Lbehind.c X G B λ_ F=>by apply ok_Lbehind<;>assumption
 obtain⟨_,br⟩:=T_Lplayed.c X G B λ_ F=>by apply ok_Lplayed<;>assumption
 obtain⟨_,c1⟩:=T_Lis_move.c X G B λ_ F=>by apply ok_Lis_move<;>assumption
 obtain⟨_,qNI⟩:=T_Ldoes.c X G B λ_ F=>by apply ok_Ldoes<;>assumption
 obtain⟨_,qGN⟩:=T_Lcome.c X G B λ_ F=>by apply ok_Lcome<;>assumption
 obtain⟨_,bo⟩:=T_Lbits.c X G B λ_ F=>by apply ok_Lbits<;>assumption
 obtain⟨_,qHI⟩:=T_Lleast.c X G B λ_ F=>by apply ok_Lleast<;>assumption
 obtain⟨_,c7⟩:=T_Lworks.c X G B λ_ F=>by apply ok_Lworks<;>assumption
 obtain⟨_,c4⟩:=T_Lpart.c X G B λ_ F=>by apply ok_Lpart<;>assumption
 obtain⟨_,cg⟩:=T_Lholds.c X G B λ_ F=>by apply ok_Lholds<;>assumption
 obtain⟨_,qD1⟩:=T_Lnever_right.c X G B λ_ F=>by apply ok_Lnever_right<;>assumption
 exact ok_law (P:=l.prog) (w:=w) (mg:=mg) (base:=base) (F:=ah) (qJ6:=qJ6) (qBU:=qBU) (qSE:=qSE) (qJ7:=qJ7) (qJ5:=qJ5) (qHI:=qHI) (qGN:=qGN) (qNI:=qNI) (qBS:=qBS) (qD1:=qD1) (qBE:=b1) (qDI:=bf) (qAZ:=a0)
noncomputable def qZX:List LTab:=[⟨"best_end",106,104,"best_end.<locals>.<lambda>"⟩]
theorem walk {l:PySem.W.OpenLaw}{q:B66}{b:List Str}{XP:(Str->Option Value)->Heap->Prop}{YP:World->Heap->Prop}{d:DefRec}{K:Params->PySem.W.Frag}(v:l.most=some 63)(j:d.params.defaults=[])
  (r:∀(w:World) (h:Heap),YP w h->(K w.params).In h)
  (i:∀t∈qZX,((PyProof.Rows.recsOf q).find? λe=>e.name==t.x).isSome=true) (g:∀(w:World),∀t∈qZX,B48 (K w.params) t.x=some (t.c,t.P)) (y:∀w:World,A62 (K w.params)=true)
  (F:∀ (w:World) (mg:Str->Option Value) (fa:Addr) (h:Heap),(K w.params).In h->h.Ns B75 mg->mg d.name=some (.ref fa)->
   ∃fd:B85,(∀(s:Shared) (u:Value),BindsTo s fd ⟨[u],[]⟩ [("_law_script",u)])/\∀base:Heap,(K w.params).In base->base.Ns B75 mg->BM mg base->FnOk l.prog w (K w.params) mg base CX0 8 fa fd ["_law_script"] (qQZ (K w.params) 104)):
  PySem.W.WalkO q b XP YP l.row.toRowW d [] (λf vs=>B37 f vs):=
 L2.walk_ofT (n:=63) (k:=8) (x:="_law_script") (sp:=λw=>qQZ (K w.params) 104) qZX v (by decide) j ⟨rfl,by decide,by decide,rfl⟩ r i g y (λt h t' m _=>by rw[A6.mp h,A6.mp m]) F λ_ _ a p o hO z=>⟨hO _ D8,a,p,rfl,z,o,λ_=>rfl⟩
end Fw
open PySem PySem.W PyProof.Rows
set_option maxRecDepth 100000 in
set_option maxHeartbeats 0 in
theorem PySem.Challenge.cw_fewrooms_k92_whole_never_by_all_stands_holds : PySem.Challenge.rw_fewrooms_k92_whole_never_by_all_stands.Holds := by
 w_on;refine holds_law Fw.hpSaid λsaid=>?_
 refine holds_open (q:=Fw.hpQ) (Xt:=Fw.hpX) (XP:=XL Fw.hpQ []) (YP:=(kHook Fw.hpK Fw.hpA Fw.hpE).says)
  Fw.hpLeft (kHook Fw.hpK Fw.hpA Fw.hpE).of (kHook Fw.hpK Fw.hpA Fw.hpE).keeps (λs e=>xl_of s (A58.mp e).1) XL.keeps
  (by rfl) (by rfl) (by rfl) (λs e=>recFacts_of (A58.mp e).2) (by rfl)
  (by first|assumption|decide +kernel) (by decide +kernel) ⟨rfl,rfl,rfl,rfl,rfl,by decide +kernel⟩ ?hw ?hc
 case hw=>w_witness2
 k_fill
 refine Fw.walk (l:=PySem.Challenge.rw_fewrooms_k92_whole_never_by_all_stands) rfl rfl (λw h Y=>PySem.W.kIn_of Y) ?hrec ?htab ?hK ?F
 case hrec=>intro t ht;rw[A6.mp ht];kernel_rfl
 case htab=>intro w t ht;rw[A6.mp ht];kernel_rfl
 case hK=>intro w;kernel_rfl
 case F=>
  intro w mg fa h KX G hmg;refine' Fw.all_mk (qEX:=106) (qGM:=104) KX G hmg ?_ ?_ ?_ ?_ ?_ ?_ ?_ ?_ ?_ ?_ ?_ ?_ ?_ ?_ ?_ ?_ ?_ ?_ ?_ ?_ ?_ ?_ ?_ ?_ ?_ ?_ ?_ ?_ ?_ ?_ ?_ ?_ ?_ ?_ ?_ ?_ ?_ ?_ ?_ ?_ ?_ ?_ ?_ ?_ ?_ ?_ ?_ ?_ ?_
  any_goals first|exact⟨by k_is,_,L2.fun_mk (by k_is) (by k_is) (by k_is)⟩|k_is|kernel_rfl
  any_goals (repeat (refine⟨by k_is,?_⟩))
  any_goals exact trivial

