import PyProof.Rows.All
import Wide.All
import OpenK.AllK
import Wide.FinOn
import Lean
import PyProof.EqAt
import PyProof.EqKinds
import PyProof.TupleCall
import PySem.Challenge.RW_fewrooms_k34_fewest_by_turns
noncomputable section
open PySem.W renaming Frag→Ab1
abbrev Aa0:=List (List Int)
abbrev Aa1:=PySem.Value->PySem.Shared->Prop
abbrev Ab0:=PySem.Str->Option PySem.Value
open PyProof.Rows renaming wpS_bind→B78,wpS_pure→B80,pendingOf→B81,IntsAre→B85,wpS_forRange→B93,wpS_modify→B97,pairsOf→B99,wpS_mono→C07,SortKind→C13,wpS_get→C24,listUpdate_at→C33,seqEpoch_at→C49,reverseSlice'_eq→C56
open PySem renaming wpAny_bind→B75,wpAny_pure→B76,sizeLine→B77,Program→B79,bootBuiltins→B82,wpAny_holding→B83,starEach→B84,wpAny_newObj_type→B86,wpAny_call_entry→B87,sizeLine_eq→B88,mainGlobals→B89,wpAny_mono→B90,codeAny_builtin→B91,wpAny_truthy_bool→B92,wpAny_field→B94,compareOp→B95,wpAny_seqItems→B96,FuncData→B98,plainId_quiet→C00,wpAny_pyIter_list→C01,sysModules→C02,wpAny_rule→C03,binaryOp→C04,wpAny_setState_of→C05,SetTable→C06,wpAny_setField_rec→C08,wpAny_tryCatch→C09,codeAny_mono→C10,Arguments→C11,wpAny_typeNameOfWhole_keyiter→C12,wpAny_typeOf→C14,wpAny_passesOwn→C15,codeAny→C16,wpAny_ite_false→C17,behindInMarks→C18,wpAny_attempt→C19,wpAny_pyIter_enum→C20,holding→C21,wpAny_setField→C22,wpAny_typeNameOf_keyiter→C23,tupleKind_room_in1→C25,wpAny_of_eq→C26,intKind→C27,firstArgMember→C28,assignEach→C29,NameKind→C30,wpAny_askSetting→C31,wpAny_isInstance→C32,sliceBounds→C34,wpAny_letGo→C35,tupleKind→C36,GenState→C37,wpAny_pyIter_tuple→C38,bindArgs→C39,wpAny_Call_Name_kw→C40,Keyword→C41,getItem→C42,call_meets→C43,storedH→C44,wpAny_newTuple→C45,foldedSetIterable→C46,wpAny_pyNext_list_item→C47,keywordEach→C48,wpAny_standAt→C50,attributeBase→C51,wpAny_onRaise→C52,wpAny_newList→C53,noFill_tuple_add→C54,ZipApart→C55,wpAny_pyNext_list_end→C57,builtinLookup_eq_fast→C58,wpAny_notOrdered_dict→C59,builtinsNs→C60,wpAny_execs_nil→C61,letOwnedTupleGo→C62,wpAny_loadPart'→C63,codeAny_of_tree→C64,wpAny_updateSeq_pair→C65,codeAny_call_builtin→C66,wpAny_pyIter_keyiter→C67
open Array renaming length_toList→C0,getElem?_eq_getElem→C3,toList_append→E3,getD_eq_getD_getElem?→E9,getElem?_toList→F1,toList_reverse→U7,toList_push→V3,perm_iff_toList_perm→Y6,getElem?_setIfInBounds_ne→j8,toList_setIfInBounds→y4,size_map→A10,getElem?_eq_none→A44,getElem_toList→A64,toList→B15,toList_zip→B31,toList_map→B32,replicate→B41
open Bool renaming false_ne_true→B4,eq_false_iff→F7,false_eq_true→G7,and_eq_true→J9,eq_iff_iff→O1,or_eq_true→c5,and_false→k7,true_and→o8,false_and→A08,and_eq_true_iff→A71,not_true→A97,not_false→B46
open Classical renaming byContradiction→G4,choose→B33
open Eq renaming symm→B73
open False renaming elim→W5
open ForInStep renaming yield→O3,done→k6
open Int renaming toNat_natCast→D9,le_refl→O6,emod_lt_of_pos→U0,natCast_nonneg→X2,emod_nonneg→X9,fdiv_eq_ediv_of_nonneg→Y3,fmod_eq_emod_of_nonneg→w5,le_of_lt→A01,negSucc→A32,eq_ofNat_of_zero_le→A33,zero_add→B19,natCast_pow→B42
open List renaming length_map→A0,getElem?_eq_getElem→A4,getElem?_eq_some_iff→A5,mem_singleton→A7,length_append→A8,mem_append→B0,map_append→B3,mem_of_getElem?→B5,getElem?_map→B6,mem_cons→B7,size_toArray→B8,mem_cons_of_mem→B9,length_singleton→C1,length_take→C5,take_of_length_le→C6,map_cons→C7,take_add_one→C9,length_cons→D3,mem_map→D4,mem_range→D6,replicate→D8,mem_filter→E4,range→E6,mem_cons_self→F0,length_drop→G0,getElem?_append_right→G1,mem_append_right→G2,pairwise_iff_getElem→G3,getElem?_append_left→J2,pairwise_map→J4,all_eq_true→K0,getElem_of_mem→L6,not_mem_nil→L8,append_assoc→M7,length_eq_zero_iff→M8,getElem?_of_mem→M9,length_nil→O2,filterMap_cons→O5,getElem?_eq_none→O9,length_filter_le→P0,mem_filterMap→P2,append_nil→P3,nodup_cons→P4,filter_cons→P5,take_length→P6,replicate_succ→P8,drop_eq_getElem_cons→Q1,lookup_cons_self→Q2,forIn_cons→Q3,pairwise_cons→Q4,pairwise_append→Q6,mem_of_mem_take→Q7,pairwise_lt_range→T1,getElem_mem→T4,mem_of_mem_drop→U6,foldl_cons→V1,find?_cons→V2,drop_sublist→V4,length→V6,any_cons→V8,reverse_append→V9,map_congr_left→W4,drop_zero→W6,getElem?_set_self→W7,drop_of_length_le→W9,length_pos_of_mem→X1,length_replicate→X5,pairwise_reverse→X8,filterMap_append→Y0,take_sublist→Y1,flatten_cons→Y2,getD_eq_getElem?_getD→Y5,mem_iff_getElem→Y7,mem_of_find?_eq_some→Z1,lookup_cons→Z4,getElem?_take_of_lt→Z9,length_filterMap_le→b8,pairwise_filterMap→c8,filter_append→c9,drop_eq_nil_of_le→d8,reverse_cons→i8,map_map→k9,take_append_drop→l8,mem_reverse→m6,nodup_range→m8,mem_append_left→n6,getElem?_set_ne→n9,sum_cons→p9,mem_map_of_mem→t9,filter_eq_self→u8,nodup_iff_pairwise_ne→y7,zip_cons_cons→z8,map_nil→z9,getElem?_drop→A02,map_singleton→A07,drop_drop→A09,getElem?_zip_eq_some→A12,getElem_drop→A19,getElem_take→A20,reverse_perm→A21,getElem?_cons_succ→A31,perm_middle→A37,any_eq_true→A38,range_succ_eq_map→A43,of_mem_zip→A46,length_set→A47,nil_append→A48,perm_append_comm→A49,find?_some→A53,length_zip→A54,range_succ→A57,reverse_reverse→A65,replicate_succ'→A68,getElem_toArray→A69,forIn_nil→A74,length_reverse→A78,toList_toArray→A83,map_eq_nil_iff→A84,length_pos_iff→A85,filterMap_map→A91,find?_eq_none→A94,map_drop→A99,foldl_append→B08,ext_getElem?→B10,mapM_toArray→B11,length_range→B12,nodup_append→B13,filter_congr→B14,map_set→B20,cons_append→B23,filter_nil→B43,drop_take→B45,foldl_nil→B47,mapM_cons→B49,foldl→B51,all_cons→B57,findIdx?→B59,take_nil→B60,take_add→B61,map→B64,map_take→B65
open List.Nodup renaming length_le_of_subset→N9
open List.Perm renaming append_left→k8
open Nat renaming le_refl→A6,ne_of_lt→C4,lt_of_lt_of_le→E1,zero_le→E7,le_trans→F4,not_lt_zero→J5,pow_le_pow_right→L0,lt_succ_of_lt→O8,eq_of_testBit_eq→Q8,lt_irrefl→Q9,ne_of_gt→R1,le_succ→S0,le_of_lt→T5,lt_trans→T6,pow_succ→T9,mul_comm→V5,mul_assoc→W3,lt_of_le_of_lt→X3,le_of_not_lt→Z3,succ_ne_self→Z6,testBit_two_pow→Z7,mod_lt→a9,mul_add→j7,lt_trichotomy→j9,sub_zero→l9,add_zero→m4,min_eq_left→u7,testBit_and→u9,add_comm→A00,sub_self→A03,add_sub_cancel→A04,lt_pow_two_of_testBit→A11,mul_left_comm→A24,add_assoc→A28,add_sub_cancel_left→A29,min_eq_right→A40,two_pow_pos→A50,zero_div→A51,pow_lt_pow_right→A70,testBit_or→A77,add_mod→A81,mul_mod→A82,zero_add→B17,le_total→B18,le_add_right→B25,mod_eq_of_lt→B26,lt_succ_self→B29,add_mul→B39,one_mul→B40
open Ne renaming symm→F5
open Option renaming toList_some→D2,map_some→R8,getD_some→Z5,isSome_iff_exists→Z8,isSome_map→i9,map_eq_some_iff→A42,getD_none→B22,none→B72
open Option.some renaming inj→D7
open Or renaming inl→E2,inr→q9
open PyProof renaming noPylong_small→d0
open PyProof.Rows renaming slot_tuple_getitem→G5,callWith_type1→J3
open PyProof.Rows.IntsAre renaming int_at→t6
open PySem renaming mem_of_lookup→J7,call→B52
open PySem.Around renaming under_plainId→F8,frames_deeper→A60,under_plain→A96
open PySem.AutoSeq1 renaming sub_tuple_tuple→A16
open PySem.Builtin renaming bitAnd→U1,bitNot→U5,bitOr→A88
open PySem.Builtin.Builtins renaming bindParams→t7
open PySem.Builtin.Dict renaming updateFrom→W2,pairItems→X0,addKeywords→A22,selfAndRest→A23
open PySem.Builtin.Dict_items renaming ownsTuple→p8
open PySem.Builtin.Frozenset renaming updateFrom→o9,newClass→B44,sizeOf→B54,slot0→B62
open PySem.Builtin.List renaming listTooLong→a8,listLengthHint→r8
open PySem.Builtin.Range renaming rangeSize→R0,small→A79
open PySem.Builtin.Slice renaming slicePlaces→U2,sliceAdjust→Y8,sliceApplied→w6
open PySem.Builtin.SmallTypes renaming ownedTupleIsFree→T0,nextOf→U3,newRecord→X4,calledThroughType→Y9,ownedTupleFields→A80
open PySem.Builtin.Tuple renaming tupleExact→O7,tupleItemsOf→Y4,tupleCompareSizes→i0
open PySem.Calls renaming call_function_entry→Z0,callWith_builtin→d7,evalArgs_plain→A62
open PySem.Code renaming quiet_builtin→A95
open PySem.Data renaming cell→A14,fields→A26
open PySem.F renaming plainAttrs_list→F2,slot_list_append→G8,type_list_append→G9,called_set→L7,plain_min_loop→O0,slot_dict_keyiterator_next→P1,slot_tuple_iterator_next→T3,args_tuple_add_2→V0,entry_tuple_add→V7,slot_tuple_add→W8,slot_tuple_lt→X6,slot_zip_next→X7,slot_list_getattribute→b7,args_tuple_lt_2→b9,entry_tuple_lt→d6,entry_min_loop→d9,args_dict_keyiterator_next_1→m5,entry_dict_keyiterator_next→n0,args_tuple_iterator_next_1→o5,entry_tuple_iterator_next→t0,args_zip_next_1→A18,plain_list_iadd→A27,slot_list_clear→A34,type_list_clear→A35,entry_zip_next→A36,args_object_init_2→A63,kt_typeCall_dict_1→A66,called_tuple→A73,args_dict_init_2→A93,plain_tuple_new→B05,entry_dict_init→B06,entry_type_call→B09,kt_called_dict→B24,typeCall_set_1→B27,entry_set_init→B28,slot_dict_iter→B30
open PySem.Heap renaming get?_push_of_some→A3,get?_push_size→A9,lt_size→B1,get?_update_other→F3,size_push→J6,get?_update_self→L5,get?_push_ne→j6,size_update→m7
open PySem.Heap.DictOf renaming new→B37
open PySem.Heap.IsSliceOf renaming new→B74
open PySem.Heap.SameBut renaming update→P9
open PySem.IsRange renaming new→B71
open PySem.NameKind renaming free→J8,cell→B58
open PySem.Obj renaming mapSeq→P7,data_mapFields→T8,isFreed_of_fields→l6,mapFields→p7,cls_mapFields→A17
open PySem.Paired renaming length→C2,snoc→R9
open PySem.PassesOwn renaming never→D5
open PySem.SeqAt renaming notIn_listAt→A92
open PySem.SeqAt.EqAt renaming int_int→y8,int_str→A86,str_int→A87,same→B36
open PySem.SeqAt.RcNeAt renaming lists_lengths→B00,lists→B53
open PySem.SetTable renaming below→E5,insertAt→F6,bits→J1,runEnd→O4,turns→U4,sizeAbove→c6,fits→o6,fill→A30,grown→A75,layClean→B07,has→B68
open PySem.SetTable.below renaming go→j4
open PySem.SetTable.layClean renaming free→F9
open PySem.SetTable.probe renaming go→G6
open PySem.SetTable.sizeAbove renaming go→A52
open PySem.Str renaming ofString→D0,empty→Q5
open PySem.Value renaming ref→C8,none→M6,bool→R6,type→R7,int→U8,isInt→A25,notImplemented→A61,isInt_shape→B01,str→B34,isStrOf→B56
open PySem.W renaming kia_one→L4,findIn→Q0,keepIn→R3,kitOne→R4,fnOf→R5,kla_fn→Z2,codeIn→k5,kdu_collect→t5,nsIn→A05,methodObj→A13,specialIn→A15,cellsFrom_some→A41,instObj→A45,kat_nil→A55,kas_first_eq→A67,lookIn→A72,noTabs→A76,mroIn→A89,kitx_tuple→A90,mg_of→A98,hasDictIn→B02,kitx_list→B03,kitx_dict→B04,plainGet→B21,takesIn→B35,tabObj→B48,kHook→B55,tabIn→B63,isFn→B67
open PySem.W.Looks renaming here→A06,ld→A39
open PySem.W.OpenLaw renaming wellSaid→B50,row→B69
open PySem.W.OpenRow renaming toRowW→B66
open PySem.Walks renaming list→A58
open PySem.pickOrder renaming go→B16
open StateT renaming run_pure→B38
open Std.Legacy.Range renaming size→A56,forIn_eq_forIn_range'→A59
open Sum renaming inl→E8,inr→L9
open Sum.inl renaming inj→f9
open Sum.inr renaming inj→B70
open True renaming intro→U9
set_option Elab.async false
set_option linter.all false
set_option maxRecDepth 100000
set_option maxHeartbeats 0
namespace Fw
open PySem
noncomputable def top (i:Nat):Stmt:=PySem.Challenge.pw_fewrooms_k34_fewest_by_turns.main.body.getD i (.Pass ⟨0,0,0,0⟩)
noncomputable abbrev qDK:Stmt:=top 1
noncomputable abbrev qDJ:Stmt:=top 2
noncomputable abbrev qF8:Stmt:=top 3
noncomputable abbrev qD2:Stmt:=top 5
noncomputable abbrev qFA:Stmt:=top 6
noncomputable abbrev qCK:Stmt:=top 7
noncomputable abbrev qG8:Stmt:=top 8
noncomputable abbrev qF9:Stmt:=top 9
noncomputable abbrev qAI:Stmt:=top 11
noncomputable abbrev qCG:Stmt:=top 12
noncomputable abbrev qG7:Stmt:=top 13
noncomputable abbrev qCL:Stmt:=top 15
noncomputable abbrev qI1:Stmt:=top 16
noncomputable abbrev qD1:Stmt:=top 17
noncomputable abbrev qI5:Stmt:=top 19
noncomputable abbrev qLI:Stmt:=top 20
abbrev qLJ:Stmt:=top 21
noncomputable abbrev qD3:Stmt:=top 22
noncomputable abbrev qE4:Stmt:=top 23
noncomputable abbrev qQE:Stmt:=top 24
noncomputable abbrev qI6:Stmt:=top 25
abbrev qGB:Stmt:=top 26
noncomputable abbrev qLH:Stmt:=top 27
noncomputable abbrev qGC:Stmt:=top 28
noncomputable abbrev qGA:Stmt:=top 29
noncomputable abbrev qLM:Stmt:=top 30
noncomputable abbrev qFB:Stmt:=top 31
noncomputable abbrev qLN:Stmt:=top 32
noncomputable abbrev qLK:Stmt:=top 33
noncomputable abbrev qLO:Stmt:=top 34
abbrev qFC:Stmt:=top 35
noncomputable abbrev qI4:Stmt:=top 36
abbrev qG9:Stmt:=top 37
abbrev qI2:Stmt:=top 38
abbrev qE5:Stmt:=top 39
abbrev qLL:Stmt:=top 40
abbrev qI3:Stmt:=top 41
noncomputable abbrev qK3:Stmt:=top 42
noncomputable def dA (s:Stmt):C11:=match s with
 |.FunctionDef _ a _ _ _ _ _ _ _ _=>a
 |_=>{posonlyargs:=[],args:=[],vararg:=none,kwonlyargs:=[],kw_defaults:=[],kwarg:=none,defaults:=[]}
noncomputable def dB (s:Stmt):List Stmt:=match s with
 |.FunctionDef _ _ b _ _ _ _ _ _ _=>b
 |_=>[]
noncomputable def dS (s:Stmt):Scope:=match s with
 |.FunctionDef _ _ _ _ _ _ sc _ _ _=>sc
 |_=>{kind:=.function,names:=[],isGenerator:=false,isCoroutine:=false}
noncomputable abbrev so (s:String):Str:=PySem.Str.ofString s
noncomputable abbrev kh (P:Params)(s:Str):Int:=PySem.PyData.keyHash P s
noncomputable abbrev hde (P:Params)(s:String)(n:Nat)(v:Value):DictEntry:=⟨kh P (so s),.str (so s) n,v⟩
noncomputable abbrev hvs (s:String)(n:Nat):Value:=.str (so s) n
noncomputable abbrev hcut (n:Nat):Value:=hvs "/claim/cut.py" n
noncomputable abbrev hfd (x q:String)(s:Stmt)(a b c d:Value)(e:Option Addr)(f g:Value)(i:Addr):B98:=⟨so x,so q,dA s,.stmts (dB s),dS s,3,[],a,b,c,d,e,f,g,i⟩
noncomputable abbrev htp (d:Data) (s:Array (Option Value)):Obj:=⟨.type "tuple",none,d,s⟩
noncomputable abbrev hcd (d:Data) (s:Array (Option Value)):Obj:=⟨.type "code",none,d,s⟩
noncomputable abbrev hfn (d:Data) (s:Array (Option Value)):Obj:=⟨.type "function",none,d,s⟩
noncomputable abbrev ht0:Obj:=htp (.seq #[]) #[]
noncomputable def hvl:List String->Nat->List Value
 |[],_=>[]
 |x::r,n=>hvs x n::hvl r (n+1)
noncomputable abbrev hts (l:List String)(n:Nat):Obj:=htp (.seq (hvl l n).toArray) #[]
noncomputable abbrev hco (x:String)(t:Nat)(ln ac fl:Int)(b:Nat)(md e:Int)(n:Nat):Obj:=hcd (.fields #[hvs x t,hvs x (t+1),hcut (t+2),.int ln 0,.int ac 0,.int 0 0,.int 0 0,.int fl 0,.ref b,.bool .true,.int md 0,.ref (b+1),.none,.ref (b+2),.ref (b+3),.ref (b+4),.int e 0,.int ln 0,hcut n]) #[]
noncomputable abbrev hcp (x:String)(t:Nat)(ln ac:Int)(b:Nat)(md e:Int):Obj:=hcd (.fields #[hvs x t,hvs x (t+1),hcut (t+2),.int ln 0,.int ac 0,.int 0 0,.int 0 0,.int 3 0,.ref b,.bool .true,.int md 0,.ref (b+1),.none,.none,.none,.ref (b+2),.int e 0,.int ln 0,hcut (t+4)]) #[]
noncomputable abbrev hfo (x:String)(s:Stmt)(m:String)(t c:Nat):Obj:=hfn (.func (hfd x x s .none .none .none (hvs m t) .none (.ref c) .none 0)) #[]
noncomputable def hpK:Params->Ab1:=λP=>
 (nat_lit 2,Obj.mk .none .none (.dict #[]) #[])::
 (nat_lit 3,Obj.mk (.type "dict") .none (.dict #[hde P "__name__" 165 (hvs "law_fewrooms_k34_fewest_by_turns" 312),hde P "__doc__" 166 .none,hde P "__package__" 167 .none,hde P "__loader__" 168 (.builtin "__main__.__loader__#opaque"),hde P "__spec__" 169 .none,hde P "__annotations__" 170 (.ref 6),hde P "__builtins__" 171 (.ref 4),hde P "__file__" 173 (hcut 172),hde P "__cached__" 174 .none,hde P "all_needed" 199 (.ref 21),hde P "renumbered" 205 (.ref 26),hde P "part_net" 211 (.ref 31),hde P "fault_of_do" 226 (.ref 38),hde P "fault_of" 236 (.ref 45),hde P "stand_behind" 242 (.ref 50),hde P "has_all" 248 (.ref 55),hde P "moves_of" 254 (.ref 60),hde P "stands_reached" 271 (.ref 67),hde P "best_end" 277 (.ref 72),hde P "plan_to" 286 (.ref 79),hde P "part_numbers" 294 (.ref 84),hde P "fewest" 300 (.ref 89),hde P "never_paper" 311 (.ref 96),hde P "_law_begin" 321 (.ref 103),hde P "_law_take" 334 (.ref 110),hde P "_law_same" 340 (.ref 115),hde P "_law_some_needs" 351 (.ref 122),hde P "_law_tree_net" 363 (.ref 129),hde P "_law_net" 369 (.ref 134),hde P "_law_asked" 379 (.ref 141),hde P "_law_needed" 385 (.ref 146),hde P "_law_word" 391 (.ref 151),hde P "_law_behind" 397 (.ref 156),hde P "_law_played" 409 (.ref 163),hde P "_law_does" 415 (.ref 168),hde P "_law_is_move" 423 (.ref 175),hde P "_law_come" 429 (.ref 180),hde P "_law_part" 435 (.ref 185),hde P "_law_bits" 441 (.ref 190),hde P "_law_done_in" 447 (.ref 195),hde P "_law_least" 456 (.ref 202),hde P "_law_rising" 462 (.ref 207),hde P "_law_stays" 474 (.ref 214),hde P "_law_is_never" 480 (.ref 219),hde P "_law_like" 486 (.ref 224),hde P "_law_right" 498 (.ref 231),hde P "law" 512 (.ref 238)] 47) #[])::
 (nat_lit 15,ht0)::
 (nat_lit 17,hts ["net","asked","wanted","work","need"] 192)::
 (nat_lit 18,ht0)::
 (nat_lit 20,hco "all_needed" 189 2 2 3 15 181 197 198)::
 (nat_lit 21,hfo "all_needed" qDK "fewrooms.nets" 187 20)::
 (nat_lit 22,ht0)::
 (nat_lit 25,hcp "renumbered" 200 11 2 22 181 203)::
 (nat_lit 26,hfo "renumbered" qDJ "fewrooms.nets" 187 25)::
 (nat_lit 27,ht0)::
 (nat_lit 30,hcp "part_net" 206 13 2 27 181 209)::
 (nat_lit 31,hfo "part_net" qF8 "fewrooms.nets" 187 30)::
 (nat_lit 32,ht0)::
 (nat_lit 34,hts ["net","rooms","stand","work","there","result","need"] 217)::
 (nat_lit 35,ht0)::
 (nat_lit 37,hco "fault_of_do" 214 19 4 3 32 181 224 225)::
 (nat_lit 38,hfo "fault_of_do" qD2 "fewrooms.moves" 212 37)::
 (nat_lit 39,ht0)::
 (nat_lit 41,hts ["net","rooms","stand","move"] 230)::
 (nat_lit 42,ht0)::
 (nat_lit 44,hco "fault_of" 227 31 4 3 39 181 234 235)::
 (nat_lit 45,hfo "fault_of" qFA "fewrooms.moves" 212 44)::
 (nat_lit 46,ht0)::
 (nat_lit 49,hcp "stand_behind" 237 37 2 46 181 240)::
 (nat_lit 50,hfo "stand_behind" qCK "fewrooms.moves" 212 49)::
 (nat_lit 51,ht0)::
 (nat_lit 54,hcp "has_all" 243 41 2 51 181 246)::
 (nat_lit 55,hfo "has_all" qG8 "fewrooms.moves" 212 54)::
 (nat_lit 56,ht0)::
 (nat_lit 59,hcp "moves_of" 249 43 3 56 181 252)::
 (nat_lit 60,hfo "moves_of" qF9 "fewrooms.moves" 212 59)::
 (nat_lit 61,ht0)::
 (nat_lit 63,hts ["net","rooms","reached","due","later","stand","move","further","steps"] 260)::
 (nat_lit 64,ht0)::
 (nat_lit 66,hco "stands_reached" 257 48 2 3 61 181 269 270)::
 (nat_lit 67,hfo "stands_reached" qAI "fewrooms.stairs" 255 66)::
 (nat_lit 68,ht0)::
 (nat_lit 71,hcp "best_end" 272 62 2 68 181 275)::
 (nat_lit 72,hfo "best_end" qCG "fewrooms.stairs" 255 71)::
 (nat_lit 73,ht0)::
 (nat_lit 75,hts ["reached","stand","plan"] 281)::
 (nat_lit 76,ht0)::
 (nat_lit 78,hco "plan_to" 278 65 2 3 73 181 284 285)::
 (nat_lit 79,hfo "plan_to" qG7 "fewrooms.stairs" 255 78)::
 (nat_lit 80,ht0)::
 (nat_lit 83,hcp "part_numbers" 289 73 2 80 181 292)::
 (nat_lit 84,hfo "part_numbers" qCL "fewrooms.trying" 287 83)::
 (nat_lit 85,ht0)::
 (nat_lit 88,hcp "fewest" 295 75 2 85 181 298)::
 (nat_lit 89,hfo "fewest" qI1 "fewrooms.trying" 287 88)::
 (nat_lit 90,ht0)::
 (nat_lit 92,hts ["net","asked","rooms","works","reached"] 304)::
 (nat_lit 93,ht0)::
 (nat_lit 95,hco "never_paper" 301 86 3 3 90 181 309 310)::
 (nat_lit 96,hfo "never_paper" qD1 "fewrooms.trying" 287 95)::
 (nat_lit 97,ht0)::
 (nat_lit 99,hts ["_law_script","_law_cells"] 317)::
 (nat_lit 100,ht0)::
 (nat_lit 102,hco "_law_begin" 314 93 1 3 97 181 319 320)::
 (nat_lit 103,hfo "_law_begin" qI5 "law_fewrooms_k34_fewest_by_turns" 312 102)::
 (nat_lit 104,ht0)::
 (nat_lit 106,hts ["_law_state","_law_many","_law_turn","_law_place","_law_cell","_law_digit","_law_mixed"] 325)::
 (nat_lit 107,ht0)::
 (nat_lit 109,hco "_law_take" 322 98 2 3 104 181 332 333)::
 (nat_lit 110,hfo "_law_take" qLI "law_fewrooms_k34_fewest_by_turns" 312 109)::
 (nat_lit 111,ht0)::
 (nat_lit 114,hcp "_law_same" 335 109 2 111 181 338)::
 (nat_lit 115,hfo "_law_same" qLJ "law_fewrooms_k34_fewest_by_turns" 312 114)::
 (nat_lit 116,ht0)::
 (nat_lit 118,hts ["_law_state","_law_k","_law_found","_law_turn","_law_far"] 344)::
 (nat_lit 119,ht0)::
 (nat_lit 121,hco "_law_some_needs" 341 121 2 3 116 181 349 350)::
 (nat_lit 122,hfo "_law_some_needs" qD3 "law_fewrooms_k34_fewest_by_turns" 312 121)::
 (nat_lit 123,ht0)::
 (nat_lit 125,hts ["_law_state","_law_many","_law_open_ones","_law_found","_law_k","_law_so_many"] 355)::
 (nat_lit 126,ht0)::
 (nat_lit 128,hco "_law_tree_net" 352 128 2 3 123 181 361 362)::
 (nat_lit 129,hfo "_law_tree_net" qE4 "law_fewrooms_k34_fewest_by_turns" 312 128)::
 (nat_lit 130,ht0)::
 (nat_lit 133,hcp "_law_net" 364 136 2 130 181 367)::
 (nat_lit 134,hfo "_law_net" qQE "law_fewrooms_k34_fewest_by_turns" 312 133)::
 (nat_lit 135,ht0)::
 (nat_lit 137,hts ["_law_state","_law_net_here","_law_found","_law_turn"] 373)::
 (nat_lit 138,ht0)::
 (nat_lit 140,hco "_law_asked" 370 151 2 3 135 181 377 378)::
 (nat_lit 141,hfo "_law_asked" qI6 "law_fewrooms_k34_fewest_by_turns" 312 140)::
 (nat_lit 142,ht0)::
 (nat_lit 145,hcp "_law_needed" 380 156 2 142 181 383)::
 (nat_lit 146,hfo "_law_needed" qGB "law_fewrooms_k34_fewest_by_turns" 312 145)::
 (nat_lit 147,ht0)::
 (nat_lit 150,hcp "_law_word" 386 165 4 147 181 389)::
 (nat_lit 151,hfo "_law_word" qLH "law_fewrooms_k34_fewest_by_turns" 312 150)::
 (nat_lit 152,ht0)::
 (nat_lit 155,hcp "_law_behind" 392 173 2 152 181 395)::
 (nat_lit 156,hfo "_law_behind" qGC "law_fewrooms_k34_fewest_by_turns" 312 155)::
 (nat_lit 157,ht0)::
 (nat_lit 159,hts ["_law_net_here","_law_rooms","_law_plan","_law_stands","_law_move","_law_word_here"] 401)::
 (nat_lit 160,ht0)::
 (nat_lit 162,hco "_law_played" 398 177 3 3 157 181 407 408)::
 (nat_lit 163,hfo "_law_played" qGA "law_fewrooms_k34_fewest_by_turns" 312 162)::
 (nat_lit 164,ht0)::
 (nat_lit 167,hcp "_law_does" 410 185 4 164 181 413)::
 (nat_lit 168,hfo "_law_does" qLM "law_fewrooms_k34_fewest_by_turns" 312 167)::
 (nat_lit 169,ht0)::
 (nat_lit 171,hts ["_law_net_here","_law_move"] 419)::
 (nat_lit 172,ht0)::
 (nat_lit 174,hco "_law_is_move" 416 190 2 3 169 181 421 422)::
 (nat_lit 175,hfo "_law_is_move" qFB "law_fewrooms_k34_fewest_by_turns" 312 174)::
 (nat_lit 176,ht0)::
 (nat_lit 179,hcp "_law_come" 424 194 2 176 181 427)::
 (nat_lit 180,hfo "_law_come" qLN "law_fewrooms_k34_fewest_by_turns" 312 179)::
 (nat_lit 181,ht0)::
 (nat_lit 184,hcp "_law_part" 430 219 2 181 181 433)::
 (nat_lit 185,hfo "_law_part" qLK "law_fewrooms_k34_fewest_by_turns" 312 184)::
 (nat_lit 186,ht0)::
 (nat_lit 189,hcp "_law_bits" 436 222 1 186 181 439)::
 (nat_lit 190,hfo "_law_bits" qLO "law_fewrooms_k34_fewest_by_turns" 312 189)::
 (nat_lit 191,ht0)::
 (nat_lit 194,hcp "_law_done_in" 442 224 3 191 181 445)::
 (nat_lit 195,hfo "_law_done_in" qFC "law_fewrooms_k34_fewest_by_turns" 312 194)::
 (nat_lit 196,ht0)::
 (nat_lit 198,hts ["_law_net_here","_law_asked_here","_law_rooms"] 451)::
 (nat_lit 199,ht0)::
 (nat_lit 201,hco "_law_least" 448 228 2 3 196 181 454 455)::
 (nat_lit 202,hfo "_law_least" qI4 "law_fewrooms_k34_fewest_by_turns" 312 201)::
 (nat_lit 203,ht0)::
 (nat_lit 206,hcp "_law_rising" 457 233 2 203 181 460)::
 (nat_lit 207,hfo "_law_rising" qG9 "law_fewrooms_k34_fewest_by_turns" 312 206)::
 (nat_lit 208,ht0)::
 (nat_lit 210,hts ["_law_part_here","_law_rooms","_law_stand","_law_there","_law_work","_law_move"] 466)::
 (nat_lit 211,ht0)::
 (nat_lit 213,hco "_law_stays" 463 240 4 3 208 181 472 473)::
 (nat_lit 214,hfo "_law_stays" qI2 "law_fewrooms_k34_fewest_by_turns" 312 213)::
 (nat_lit 215,ht0)::
 (nat_lit 218,hcp "_law_is_never" 475 246 4 215 181 478)::
 (nat_lit 219,hfo "_law_is_never" qE5 "law_fewrooms_k34_fewest_by_turns" 312 218)::
 (nat_lit 220,ht0)::
 (nat_lit 223,hcp "_law_like" 481 264 2 220 181 484)::
 (nat_lit 224,hfo "_law_like" qLL "law_fewrooms_k34_fewest_by_turns" 312 223)::
 (nat_lit 225,ht0)::
 (nat_lit 227,hts ["_law_case","_law_net_here","_law_asked_here","_law_least_here","_law_found","_law_told"] 490)::
 (nat_lit 228,ht0)::
 (nat_lit 230,hco "_law_right" 487 277 1 3 225 181 496 497)::
 (nat_lit 231,hfo "_law_right" qI3 "law_fewrooms_k34_fewest_by_turns" 312 230)::
 (nat_lit 232,ht0)::
 (nat_lit 234,hts ["_law_script","_law_state","_law_one","_law_other","_law_cases","_law_net_here","_law_asked_here","_law_turn"] 502)::
 (nat_lit 235,ht0)::
 (nat_lit 237,hco "law" 499 290 1 3 232 181 510 511)::
 (nat_lit 238,hfo "law" qK3 "law_fewrooms_k34_fewest_by_turns" 312 237)::
 []
noncomputable def hpA:List Addr:=[2,3,15,17,18,20,21,22,25,26,27,30,31,32,34,35,37,38,39,41,42,44,45,46,49,50,51,54,55,56,59,60,61,63,64,66,67,68,71,72,73,75,76,78,79,80,83,84,85,88,89,90,92,93,95,96,97,99,100,102,103,104,106,107,109,110,111,114,115,116,118,119,121,122,123,125,126,128,129,130,133,134,135,137,138,140,141,142,145,146,147,150,151,152,155,156,157,159,160,162,163,164,167,168,169,171,172,174,175,176,179,180,181,184,185,186,189,190,191,194,195,196,198,199,201,202,203,206,207,208,210,211,213,214,215,218,219,220,223,224,225,227,228,230,231,232,234,235,237,238]
noncomputable def hpQ:B79:=PySem.W.view PySem.Challenge.pw_fewrooms_k34_fewest_by_turns [1,2,3,5,6,7,8,9,11,12,13,15,16,17,19,20,21,22,23,24,25,26,27,28,29,30,31,32,33,34,35,36,37,38,39,40,41,42]
def hpN:Nat:=2436
theorem hpE (P:Params):hpA=(hpK P).map (·.1):=by kernel_rfl
noncomputable def hpX (s:Shared):Bool:=PySem.W.xlAt hpQ [] s&&PySem.W.recOk (PySem.W.RowW.records (B66 (B69 PySem.Challenge.rw_fewrooms_k34_fewest_by_turns))) s
theorem hpLeft:PySem.W.LeftO PySem.Challenge.pw_fewrooms_k34_fewest_by_turns hpQ [] hpX (B55 hpK hpA hpE).obs (B55 hpK hpA hpE).val hpN:=λw=>by kernel_rfl
theorem hpSaid:B50 PySem.Challenge.rw_fewrooms_k34_fewest_by_turns=true:=by kernel_rfl
end Fw
namespace L2
open PySem PySem.Spec PyProof.Rows
abbrev Key:=Sum Int Str
noncomputable def qNG:Key->Value->Bool
 |.inl k,v=>A25 k v
 |.inr x,v=>B56 x v
noncomputable def keyH (w:World):Key->Int
 |.inl k=>hashInt k
 |.inr x=>hashStr w x
theorem qBK:∀{k:Key} {v:Value},qNG k v=true->(∃i t,k=E8 i/\v=U8 i t)\/(∃x t,k=L9 x/\v=B34 x t)
 |.inl i,v,h=>by
  obtain⟨t,e⟩:=B01 (k:=i) (v:=v) h;exact .inl ⟨i,t,rfl,e⟩
 |.inr x,v,h=>by
  obtain⟨t,e⟩:=Value.isStrOf_shape (x:=x) (v:=v) h;exact .inr ⟨x,t,rfl,e⟩
theorem qNF (i:Int)(t:Tok):qNG (.inl i) (.int i t)=true:=by simp[qNG,A25]
theorem qUZ (x:Str)(t:Tok):qNG (.inr x) (.str x t)=true:=by simp[qNG,B56]
theorem qcL (a b:Int):decide ((E8 a:Key)=E8 b)=(a==b):=by
 by_cases e:a=b
 ·subst e;simp
 ·have h:¬(E8 a:Key)=E8 b:=λq=>e (f9 q);rw[decide_eq_false h];exact(beq_eq_false_iff_ne.mpr e).symm
theorem qcI (a b:Str):decide ((L9 a:Key)=L9 b)=decide (a=b):=by
 by_cases e:a=b
 ·subst e;simp
 ·have h:¬(L9 a:Key)=L9 b:=λq=>e (B70 q);rw[decide_eq_false h,decide_eq_false e]
theorem qcK (a:Int)(b:Str):decide ((E8 a:Key)=L9 b)=false:=decide_eq_false (λq=>nomatch q)
theorem qcJ (a:Str)(b:Int):decide ((L9 a:Key)=E8 b)=false:=decide_eq_false (λq=>nomatch q)
noncomputable def qB3 (prog:B79)(w:World):PySem.KeyKind prog w Key where
 is:=qNG
 hash:=keyH w
 inj:=λv a b f d=>by
  rcases qBK f with⟨i,t,rfl,rfl⟩|⟨x,t,rfl,rfl⟩
  ·rcases qBK d with⟨j,u,rfl,e⟩|⟨y,u,rfl,e⟩
   ·injection e with e1 _;rw[e1]
   ·exact nomatch e
  ·rcases qBK d with⟨j,u,rfl,e⟩|⟨y,u,rfl,e⟩
   ·exact nomatch e
   ·injection e with e1 _;rw[e1]
 byValue:=λk v h=>by
  rcases qBK h with⟨i,t,rfl,rfl⟩|⟨x,t,rfl,rfl⟩<;>rfl
 pyHash:=λc h=>by
  rcases qBK c with⟨i,t,rfl,rfl⟩|⟨x,t,rfl,rfl⟩
  ·exact wpAny_pyHash_int h
  ·exact wpAny_pyHash_str h
 eqBool:=λg c h=>by
  rcases qBK g with⟨i,t,rfl,rfl⟩|⟨x,t,rfl,rfl⟩
  ·rcases qBK c with⟨j,u,rfl,rfl⟩|⟨y,u,rfl,rfl⟩
   ·rw[qcL] at h;exact wpAny_eqBool_int h
   ·rw[qcK] at h;exact A86 i t y u _ _ _ _ h
  ·rcases qBK c with⟨j,u,rfl,rfl⟩|⟨y,u,rfl,rfl⟩
   ·rw[qcJ] at h;exact A87 x t j u _ _ _ _ h
   ·rw[qcI] at h;exact wpAny_eqBool_str h
 «strs»:=λk x t v h=>by
  rcases qBK h with⟨i,u,rfl,e⟩|⟨y,u,rfl,e⟩
  ·exact nomatch e
  ·injection e with e1 _
   subst e1;cases v<;>rfl
theorem qSB (prog:B79)(w:World)(k:Key)(v:Value):(qB3 prog w).is k v=qNG k v:=rfl
theorem qP7 (prog:B79)(w:World)(i:Int)(t:Tok):(qB3 prog w).is (.inl i) (.int i t)=true:=qNF i t
theorem qP6 (prog:B79)(w:World)(x:Str)(t:Tok):(qB3 prog w).is (.inr x) (.str x t)=true:=qUZ x t
inductive V where
 |non|bl (b:Bool)|int (i:Int)|str (x:Str)|byt (b:Array UInt8)|flt (b:UInt64)|ref (a:Addr)|ty (n:String)
 deriving DecidableEq
def RelV:V->Value->Prop
 |.non,u=>u=M6
 |.bl b,u=>u=R6 b
 |.int i,u=>∃t,u=U8 i t
 |.str x,u=>∃t,u=B34 x t
 |.byt b,u=>∃t,u=Value.bytes b t
 |.flt b,u=>∃t,u=Value.float b t
 |.ref a,u=>u=C8 a
 |.ty n,u=>u=R7 n
abbrev Vals:List V->List Value->Prop:=Paired RelV
theorem Vals.length {xs:List V} {a:List Value} (r:Vals xs a):xs.length=a.length:=C2 r
theorem Vals.get:∀{xs:List V} {us:List Value} {i:Nat} {x:V},Vals xs us->xs[i]?=some x->∃u,us[i]?=some u/\RelV x u
 |_,_,_,_,.nil,e=>by simp at e
 |_,_,0,_,.cons r _,e=>by simp at e;subst e;exact⟨_,rfl,r⟩
 |_,_,i+1,x,.cons _ t,e=>by
  obtain⟨u,h1,h2⟩:=Vals.get (i:=i) (x:=x) t (by simpa using e)
  exact⟨u,by simpa using h1,h2⟩
theorem Vals.set {x:V} {u:Value} (r:RelV x u):∀{xs:List V} {us:List Value} (i:Nat),Vals xs us->Vals (xs.set i x) (us.set i u)
 |_,_,_,.nil=>.nil
 |_,_,0,.cons _ t=>.cons r t
 |_,_,i+1,.cons q t=>.cons q (Vals.set r i t)
theorem Vals.append:∀{xs ys:List V} {us ws:List Value},Vals xs us->Vals ys ws->Vals (xs++ys) (us++ws)
 |_,_,_,_,.nil,s=>s
 |_,_,_,_,.cons r t,s=>.cons r (Vals.append t s)
theorem Vals.take:∀{xs:List V} {us:List Value} (n:Nat),Vals xs us->Vals (xs.take n) (us.take n)
 |_,_,0,_=>.nil
 |_,_,_+1,.nil=>.nil
 |_,_,n+1,.cons r t=>.cons r (Vals.take n t)
theorem Vals.drop:∀{xs:List V} {us:List Value} (n:Nat),Vals xs us->Vals (xs.drop n) (us.drop n)
 |_,_,0,r=>r
 |_,_,_+1,.nil=>.nil
 |_,_,n+1,.cons _ t=>Vals.drop n t
def RelO:Option V->Option Value->Prop
 |some v,some u=>RelV v u
 |none,none=>True
 |_,_=>False
def KV {κ:Type}:List (κ×V)->List (κ×Value)->Prop:=Paired λ(p:κ×V) (q:κ×Value)=>p.1=q.1/\RelV p.2 q.2
inductive CTb where
 |tab (q:Str)
 |cod (q:Str)
noncomputable def kV:Key->V
 |.inl i=>.int i
 |.inr x=>.str x
inductive HO where
 |lst (xs:List V)
 |tup (xs:List V)
 |dK (Af:List (Key×V))|dT (Af:List (List Key×V))
 |set (S:Int->Bool) (n:Nat)
 |ins (C dx:Addr) (fs:List (Str×V))
 |own (x:Addr)
 |xd (fs:List (Str×V))
 |met (f x:Addr)
 |rng (lo hi:Int)
 |frz (o:Obj) (u:HO)
 |tbl (t:CTb)
 |ext (φ:Heap->Prop)
abbrev Hp:=Addr->Option HO
noncomputable def Ag (H:Hp)(a:Addr)(o:HO):Hp:=λb=>if b=a then some o else H b
theorem qA1 {H:Hp} {a:Addr} {o:HO} :Ag H a o a=some o:=by unfold Ag;rw[if_pos rfl]
theorem qA8 {H:Hp} {a b:Addr} {o:HO} (h:b≠a):Ag H a o b=H b:=by unfold Ag;rw[if_neg h]
theorem qIH {H:Hp} {a:Addr} {o u:HO} :Ag (Ag H a o) a u=Ag H a u:=by
 funext b;unfold Ag;split<;>rfl
theorem qCA {H:Hp} {a b:Addr} {o u:HO} (h:H a=some o)(h':H b=some u)(d:o≠u):a≠b:=by
 intro e;subst e;rw[h] at h';exact d (D7 h')
theorem qA6 {H:Hp} {a b:Addr} {o:HO} (h:H a=some o)(h':H b=none):a≠b:=by
 intro e;subst e;rw[h] at h';cases h'
section
variable(P:B79)(w:World)
def ObjOk (H:Hp)(h:Heap)(a:Addr):HO->Prop
 |.lst xs=>xs.length<=B77/\∃(its:List Value) (n:Nat),Vals xs its/\h.get? a=some {cls:=.type "list",data:=.seq its.toArray n}
 |.tup xs=>xs.length<=B77/\∃its:List Value,Vals xs its/\IsTup h a its.toArray
 |.dK Af=>Af.length<=B77/\(a==C02)=false/\∃vs,KV Af vs/\h.DictOf (qB3 P w) a vs
 |.dT Af=>Af.length<=B77/\(a==C02)=false/\∃xs:List (List Key×Addr×Value),
   Paired (λ(p:List Key×V) (q:List Key×Addr×Value)=>p.1=q.1/\H q.2.1=some (.tup (p.1.map kV))/\RelV p.2 q.2.2) Af xs/\
   ∃o es ep,h.get? a=some o/\o.ExactDict/\o.data=.dict es ep/\es.toList=xs.map (entryOfKey (C36 (qB3 P w)))/\(xs.map (·.1)).Nodup
 |.set S n=>h.SetOf (C27 P w) a S n
 |.ins C dx fs=>H dx=some (.own a)/\fs.length<=1000/\dx≠a/\h.get? a=some (A45 C dx)/\
   ∃mA,h.Ns1 dx mA/\(∀f,RelO (fs.lookup f) (mA f))/\PySem.Within mA (fs.map (·.1))
 |.own _=>∃o,h.get? a=some o
 |.xd fs=>∃mA,h.Ns1 a mA/\∀f,RelO (fs.lookup f) (mA f)
 |.rng lo hi=>∃t u v,h.get? a=some {cls:=.type "range",data:=.fields #[.int lo t,.int hi u,.int 1 v]}
 |.frz o u=>h.get? a=some o/\ObjOk H h a u
 |.tbl (.tab q)=>∃more:Array Value,h.get? a=some {cls:=.none,data:=.fields more}/\TriplesOk more.toList/\∀pos cv,codeAmong pos more.toList=some cv->∃c,cv=.ref c/\H c=some (.tbl (.cod q))
 |.tbl (.cod q)=>h.CodeRec (.ref a) q
 |.met f x=>h.get? a=some (A13 (.ref f) (.ref x))
 |.ext φ=>φ h/\(∃o,h.get? a=some o)/\∀h1 h2:Heap,φ h1->(∀o,h1.get? a=some o->h2.get? a=some o)->φ h2
def HOk (H:Hp)(h:Heap):Prop:=∀a o,H a=some o->ObjOk P w H h a o
end
section
variable{P:B79}{w:World}{H H':Hp}{h h':Heap}{a:Addr}{o:HO}
theorem ObjOk.lt (x:ObjOk P w H h a o):a<h.objs.size:=by
 cases o with
 |lst xs=>obtain⟨_,_,_,_,e⟩:=x;exact B1 e
 |tup xs=>obtain⟨_,_,_,p⟩:=x;exact p.lt
 |dK Af=>obtain⟨_,_,_,_,o,_,_,e,_⟩:=x;exact B1 e
 |dT Af=>obtain⟨_,_,_,_,o,_,_,e,_⟩:=x;exact B1 e
 |set S n=>obtain⟨o,_,_,_,e,_⟩:=x;exact B1 e
 |ins C dx fs=>obtain⟨_,_,_,e,_⟩:=x;exact B1 e
 |own y=>obtain⟨_,e⟩:=x;exact B1 e
 |xd fs=>obtain⟨_,⟨_,_,_,e,_⟩,_⟩:=x;exact B1 e
 |rng lo hi=>obtain⟨_,_,_,e⟩:=x;exact B1 e
 |frz ob u=>obtain⟨e,_⟩:=x;exact B1 e
 |tbl t=>
  cases t with
  |tab q=>obtain⟨_,e,_⟩:=x;exact B1 e
  |cod q=>obtain⟨c,o,_,_,e,g,_⟩:=x;cases e;exact B1 g
 |met f y=>exact B1 (show h.get? a=some _ from x)
 |ext φ=>obtain⟨_,⟨_,e⟩,_⟩:=x;exact B1 e
theorem Paired.mapP {α β:Type} {F G:α->β->Prop} :∀{l₁:List α} {l₂:List β},Paired F l₁ l₂->(∀a b,F a b->G a b)->Paired G l₁ l₂
 |_,_,.nil,_=>.nil
 |_,_,.cons r t,f=>.cons (f _ _ r) (Paired.mapP t f)
theorem ObjOk.stay (x:ObjOk P w H h a o)(k:∀b u,(b=a\/H b=some (.own a))->h.get? b=some u->h'.get? b=some u)
  (ho:∀b,H b=some (.own a)->H' b=some (.own a)) (ht:∀b xs,H b=some (.tup xs)->H' b=some (.tup xs)) (hb:∀b t,H b=some (.tbl t)->H' b=some (.tbl t):=by exactλ_ _ q=>q):ObjOk P w H' h' a o:=by
 induction o with
 |lst xs=>obtain⟨z,s,n,r,e⟩:=x;exact⟨z,s,n,r,k _ _ (.inl rfl) e⟩
 |tup xs=>obtain⟨z,s,r,i,e,c⟩:=x;exact⟨z,s,r,i,k _ _ (.inl rfl) e,c⟩
 |dK Af=>obtain⟨z,y,vs,r,i,l,j,e,c⟩:=x;exact⟨z,y,vs,r,i,l,j,k _ _ (.inl rfl) e,c⟩
 |dT Af=>
  obtain⟨z,y,xs,r,i,l,j,e,c⟩:=x;exact⟨z,y,xs,Paired.mapP r λp q z=>⟨z.1,ht _ _ z.2.1,z.2.2⟩,i,l,j,k _ _ (.inl rfl) e,c⟩
 |set S n=>obtain⟨i,l,j,t,e,c⟩:=x;exact⟨i,l,j,t,k _ _ (.inl rfl) e,c⟩
 |ins C dx fs=>
  obtain⟨d,z,ne,e,mA,⟨od,l,j,e2,c⟩,r⟩:=x;exact⟨ho _ d,z,ne,k _ _ (.inl rfl) e,mA,⟨od,l,j,k _ _ (.inr d) e2,c⟩,r⟩
 |own y=>obtain⟨i,e⟩:=x;exact⟨i,k _ _ (.inl rfl) e⟩
 |xd fs=>obtain⟨mA,⟨od,l,j,e,c⟩,r⟩:=x;exact⟨mA,⟨od,l,j,k _ _ (.inl rfl) e,c⟩,r⟩
 |rng lo hi=>obtain⟨t,u,v,e⟩:=x;exact⟨t,u,v,k _ _ (.inl rfl) e⟩
 |frz i u ih=>obtain⟨e,q⟩:=x;exact⟨k _ _ (.inl rfl) e,ih q⟩
 |tbl t=>
  cases t with
  |tab q=>obtain⟨m,e,tr,c⟩:=x;exact⟨m,k a _ (.inl rfl) e,tr,λa0 cv z=>let⟨c',e1,e2⟩:=c a0 cv z;⟨c',e1,hb _ _ e2⟩⟩
  |cod q=>obtain⟨c,o,vs,t,e,g,r⟩:=x;cases e;exact⟨a,o,vs,t,rfl,k a _ (.inl rfl) g,r⟩
 |met f y=>
  have e:h.get? a=some (A13 (.ref f) (.ref y)):=x;show h'.get? a=some (A13 (.ref f) (.ref y));exact k a _ (.inl rfl) e
 |ext φ=>obtain⟨p,⟨o,e⟩,st⟩:=x;exact⟨st _ _ p λo q=>k _ _ (.inl rfl) q,⟨o,k _ _ (.inl rfl) e⟩,st⟩
theorem HOk.lt (x:HOk P w H h)(e:H a=some o):a<h.objs.size:=(x a o e).lt
theorem HOk.fresh (x:HOk P w H h)(e:h.objs.size<=a):H a=none:=by
 cases q:H a with
 |none=>rfl
 |some u=>exact absurd (E1 (x.lt q) e) (Q9 _)
theorem HOk.kept (x:HOk P w H h)(k:∀b u,h.get? b=some u->h'.get? b=some u):HOk P w H h':=λa o e=>
 (x a o e).stay (λb u _ q=>k b u q) (λ_ q=>q) λ_ _ q=>q
theorem HOk.laid (x:HOk P w H h)(k:∀b u,h.get? b=some u->h'.get? b=some u)(i:h.objs.size<=a)(f:ObjOk P w (Ag H a o) h' a o):HOk P w (Ag H a o) h':=λb u e=>by
 have d:=x.fresh i;by_cases g:b=a
 ·subst g;rw[qA1] at e;cases e;exact f
 ·rw[qA8 g] at e;exact(x b u e).stay (λc v _ q=>k c v q) (λc q=>by rw[qA8 (qA6 q d)];exact q) (λc j q=>by rw[qA8 (qA6 q d)];exact q) λc t q=>by rw[qA8 (qA6 q d)];exact q
end
def Rd (H:Hp)(a:Addr)(u:HO):Prop:=H a=some u\/∃o,H a=some (.frz o u)
theorem Rd.ok {H:Hp} {h:Heap} {a:Addr} {u:HO} (r:Rd H a u)(x:HOk P w H h):ObjOk P w H h a u:=by
 rcases r with r|⟨o,r⟩
 ·exact x a u r
 ·obtain⟨_,q⟩:=x a _ r;exact q
def Mut:Option HO->Prop
 |some (.lst _)=>True
 |some (.dK _)=>True
 |some (.dT _)=>True
 |some (.set _ _)=>True
 |some (.ins _ _ _)=>True
 |some (.ext _)=>True
 |_=>False
section
variable{P:B79}{w:World}{H:Hp}{h h':Heap}{x e:Addr}{o':HO}
theorem HOk.write (p:HOk P w H h)(f:Mut (H x))(n:e=x\/H e=some (.own x))(k:∀b u,b≠e->h.get? b=some u->h'.get? b=some u)(j:∃u,h'.get? e=some u)
  (l:ObjOk P w (Ag H x o') h' x o'):HOk P w (Ag H x o') h':=λb u q=>by
 have d:∀c y,H c=some (.own y)->c≠x:=λc y r z=>by subst z;rw[r] at f;exact f
 have g:∀c xs,H c=some (.tup xs)->c≠x:=λc xs r z=>by subst z;rw[r] at f;exact f
 by_cases i:b=x
 ·subst i;rw[qA1] at q;cases q;exact l
 ·rw[qA8 i] at q;by_cases a:b=e
  ·have m:H b=some (.own x):=by
    rcases n with z|z
    ·exact absurd (a.trans z) i
    ·rw[a];exact z
   rw[q] at m;cases m;obtain⟨v,o⟩:=j;exact⟨v,by rw[a];exact o⟩
  ·refine(p b u q).stay (λc v hc r=>k c v ?_ r) (λc r=>by rw[qA8 (d c b r)];exact r) (λc xs r=>by rw[qA8 (g c xs r)];exact r) λc t r=>by rw[qA8 (λz=>by subst z;rw[r] at f;exact f)];exact r
   rcases hc with rfl|hc
   ·exact a
   ·rintro rfl;rcases n with z|z
    ·exact d c b hc z
    ·rw[hc] at z;cases z;exact i rfl
end
structure Un (fs ex:List Addr)(H H':Hp)(h h':Heap):Prop where
 keep:∀b o,h.get? b=some o->H b=none->b∉fs->b∉ex->h'.get? b=some o
 slot:∀b o,h.get? b=some o->H b=none->b∈fs->b∉ex->∃sl,h'.get? b=some {o with slots:=sl}
 free:∀b o,h.get? b=some o->H b=none->b∉ex->H' b=none
 there:∀b o,h.get? b=some o->b∉ex->∃o',h'.get? b=some o'
 tups:∀b xs,H b=some (.tup xs)->H' b=some (.tup xs)
 frzs:∀b o u,H b=some (.frz o u)->H' b=some (.frz o u)
 tbls:∀b ps,H b=some (.tbl ps)->H' b=some (.tbl ps)
section
variable{fs fs' ex ex':List Addr}{H H1 H2:Hp}{h h1 h2 h':Heap}{a x e:Addr}{o:HO}
theorem Un.any (u:Un fs ex H H1 h h1){b:Addr}{a:Obj}(q:h.get? b=some a)(n:H b=none)(d:b∉ex):∃sl,h1.get? b=some {a with slots:=sl}:=by
 by_cases c:b∈fs
 ·exact u.slot b a q n c d
 ·exact⟨a.slots,u.keep b a q n c d⟩
theorem Un.kept (k:∀b u,h.get? b=some u->h'.get? b=some u):Un fs ex H H h h':=
 ⟨λb a q _ _ _=>k b a q,λb a q _ _ _=>⟨a.slots,k b a q⟩,λ_ _ _ n _=>n,λb a q _=>⟨a,k b a q⟩,λ_ _ q=>q,λ_ _ _ q=>q,λ_ _ q=>q⟩
theorem Un.refl:Un fs ex H H h h:=Un.kept λ_ _ q=>q
theorem Un.laid (k:∀b u,h.get? b=some u->h'.get? b=some u)(e:h.objs.size<=a)(c:H a=none):Un fs ex H (Ag H a o) h h' where
 keep:=λb u q _ _ _=>k b u q
 slot:=λb u q _ _ _=>⟨u.slots,k b u q⟩
 free:=λb u q n _=>by rw[qA8 (C4 (E1 (B1 q) e))];exact n
 there:=λb u q _=>⟨u,k b u q⟩
 tups:=λb d q=>by rw[qA8 (qA6 q c)];exact q
 frzs:=λb u d q=>by rw[qA8 (qA6 q c)];exact q
 tbls:=λb f q=>by rw[qA8 (qA6 q c)];exact q
theorem Un.write (c:Mut (H x))(l:e=x\/H e=some (.own x))(k:∀b u,b≠e->h.get? b=some u->h'.get? b=some u)(d:∃u,h'.get? e=some u):Un fs ex H (Ag H x o) h h':=by
 have g:∀b,H b=none->b≠x:=λb n z=>by subst z;rw[n] at c;exact c
 have i:∀b,H b=none->b≠e:=λb n z=>by
  subst z;rcases l with r|r
  ·exact g b n r
  ·rw[n] at r;cases r
 have f:∀b u,H b=some u->¬Mut (some u)->b≠x:=λb u q j z=>by subst z;rw[q] at c;exact j c
 refine⟨λb u q n _ _=>k b u (i b n) q,λb u q n _ _=>⟨u.slots,k b u (i b n) q⟩,λb u q n _=>by rw[qA8 (g b n)];exact n,λb u q _=>?_,
  λb m q=>by rw[qA8 (f b _ q λz=>z)];exact q,λb u m q=>by rw[qA8 (f b _ q λz=>z)];exact q,λb p q=>by rw[qA8 (f b _ q λz=>z)];exact q⟩
 by_cases a:b=e
 ·subst a;exact d
 ·exact⟨u,k b u a q⟩
end
noncomputable def trk (h:Heap)(H:Hp):List Addr:=(E6 h.objs.size).filter λa=>(H a).isSome
noncomputable def hidT (h:Heap)(H:Hp):Heap:=PySem.W.hideAll h (trk h H)
theorem qV8 (h:Heap)(H:Hp):(hidT h H).objs.size=h.objs.size:=PySem.W.hideAll_size _ _
theorem qY2 {h:Heap} {H:Hp} {b:Addr} {o:Obj} (e:h.get? b=some o)(n:H b=none):(hidT h H).get? b=some o:=
 PySem.W.hideAll_get _ e λa=>by
  have q:(H b).isSome=true:=(E4.mp a).2;rw[n] at q;simp at q
theorem qaD {h:Heap} {H:Hp} {b:Addr} {o:Obj} (e:(hidT h H).get? b=some o):h.get? b=some o/\H b=none:=by
 have c:h.get? b=some o:=PySem.W.of_hideAll (trk h H) e;refine⟨c,?_⟩;cases q:H b with
 |none=>rfl
 |some x=>
  have f:b∈trk h H:=E4.mpr ⟨D6.mpr (B1 c),by simp[q]⟩
  have z:(hidT h H).get? b=none:=PySem.W.hideAll_none (trk h H) f;rw[z] at e;cases e
noncomputable def qb6 (g h:Heap)(L:Addr):List (Addr×Obj):=(E6 h.objs.size).filterMap λa=>if a=L\/(g.get? a).isSome=true then none else(h.get? a).map λo=>(a,o)
noncomputable def rest (g h:Heap)(L d:Addr):List (Addr×Obj):=(qb6 g h L).filter λp=>decide (p.1≠d)
structure Mod (K:Ab1)(mg:Ab0)(base:Heap):Prop where
 kin:K.In base
 glob:base.Ns B89 mg
 blt:∃mb,base.Ns C60 mb/\∀x:Str,x ≠ "__name__"->mb x=B82 x
 nolimit:base.NoLimit
structure Cx where
 prog:B79
 w:World
 K:Ab1
 mg:Ab0
 base:Heap
 A:Around
 N:List Str
 s₀:Shared
 H₀:Hp
 env:Env
 outer:List Env
 stack:List Env
 ex:List Addr
 fn:Str->Bool
 calm:Bool
 pn:List (Addr×Obj)
 xe:Aa1
noncomputable def frs (l:List Env):List Addr:=l.filterMap (·.frame)
noncomputable abbrev Cx.fs (X:Cx):List Addr:=frs X.outer
def Vis (sc:Scope)(x:Str):Prop:=sc.names.lookup x=some .local\/sc.names.lookup x=some .cell\/sc.names.lookup x=some .free
def Loc (sc:Scope)(x:Str):Prop:=sc.names.lookup x=some .local\/sc.names.lookup x=some .cell
def Look (env:Env)(h:Heap)(m:Ab0)(x:Str)(u:Value):Prop:=
 (env.kindOf x=some .local/\m x=some u)\/((env.kindOf x=some .cell\/env.kindOf x=some .free)/\∃c,env.cells.lookup x=some c/\h.IsCell c (some u))
structure Cx.Ok (X:Cx):Prop where
 mod:Mod X.K X.mg X.base
 kind:X.env.scope.kind=.function
 glob:X.env.globals=B89
 blt:X.env.builtins=C60
 above:X.s₀.heap.objs.size<=X.env.locals
 inj:∀x y c,X.env.cells.lookup x=some c->X.env.cells.lookup y=some c->x=y
 has:∀x,(X.env.kindOf x=some .cell\/X.env.kindOf x=some .free)->∃c,X.env.cells.lookup x=some c
 cab:∀x c,X.fn x=true->X.env.cells.lookup x=some c->X.s₀.heap.objs.size<=c
 hd:X.calm=true->X.A.handled=none
 frames:X.A.frames=some X.stack
 stk:X.stack=X.outer\/(X.stack=X.env::X.outer/\X.env.frame=some X.env.locals)
 exf:∀b∈X.ex,b≠X.env.locals/\∀x c,X.env.cells.lookup x=some c->c≠b
 bs:∀b o,X.base.get? b=some o->X.s₀.heap.get? b=some o/\X.H₀ b=none
 bsz:X.base.objs.size<=X.s₀.heap.objs.size
 noex:∀b o,X.base.get? b=some o->b∉X.ex
 exfs:∀b∈X.ex,b∉X.fs
 funs:X.s₀.heap.FunFrames X.base X.outer
 frf:∀b∈X.fs,X.H₀ b=none
structure Inv (X:Cx)(Ab:List (Addr×Obj))(σ:List (Option V))(H:Hp)(s:Shared):Prop where
 ok:X.Ok
 os:s.os=X.s₀.os
 bare:AllBare s.gens
 base:Un X.fs X.ex X.H₀ H X.s₀.heap s.heap
 loc:∃m,s.heap.Ns X.env.locals m/\∀(i:Nat) (x:Str) (v:V),X.N[i]?=some x->σ[i]?=some (some v)->Vis X.env.scope x->∃u,RelV v u/\Look X.env s.heap m x u
 cell:∀x c,X.env.cells.lookup x=some c->∃v,s.heap.IsCell c v
 free:H X.env.locals=none
 freeC:∀x c,X.env.cells.lookup x=some c->H c=none
 pin:∀p∈X.pn++Ab,s.heap.get? p.1=some p.2/\H p.1=none/\p.1≠X.env.locals/\p.1∉X.fs/\∀v,p.2.data≠.cell v
 hok:HOk X.prog X.w H s.heap
 len:σ.length=X.N.length
section
variable{X:Cx}{Ab:List (Addr×Obj)}{σ:List (Option V)}{H H':Hp}{s:Shared}{h':Heap}
theorem Cx.Ok.nofr (c:X.Ok){b:Addr}{o:Obj}(e:X.base.get? b=some o):b∉X.fs:=λa=>by
 have:=(c.funs.mem a).1;rw[e] at this;cases this
theorem Inv.bs (I:Inv X Ab σ H s):∀b o,X.base.get? b=some o->s.heap.get? b=some o/\H b=none:=λb o e=>
 ⟨I.base.keep b o (I.ok.bs b o e).1 (I.ok.bs b o e).2 (I.ok.nofr e) (I.ok.noex b o e),I.base.free b o (I.ok.bs b o e).1 (I.ok.bs b o e).2 (I.ok.noex b o e)⟩
theorem Inv.bk (I:Inv X Ab σ H s):∀b o,X.base.get? b=some o->s.heap.get? b=some o:=λb o e=>(I.bs b o e).1
theorem Inv.mod (I:Inv X Ab σ H s):Mod X.K X.mg X.base:=I.ok.mod
theorem Inv.kIn (I:Inv X Ab σ H s):X.K.In s.heap:=I.ok.mod.kin.keeps I.bk
theorem Inv.nolimit (I:Inv X Ab σ H s):s.heap.NoLimit:=I.ok.mod.nolimit.keeps I.bk
theorem Inv.lt (I:Inv X Ab σ H s):X.env.locals<s.heap.objs.size:=let⟨_,hn,_⟩:=I.loc;hn.lt
theorem Inv.sz (I:Inv X Ab σ H s):X.s₀.heap.objs.size<=s.heap.objs.size:=F4 I.ok.above (T5 I.lt)
theorem Inv.nofs (I:Inv X Ab σ H s){a:Addr}(h:s.heap.objs.size<=a):a∉X.fs:=λb=>by
 obtain⟨_,o,c,_⟩:=I.ok.funs.mem b;exact absurd (E1 (B1 c) (F4 I.sz h)) (Q9 _)
theorem Inv.cne (I:Inv X Ab σ H s):∀x c,X.env.cells.lookup x=some c->c≠X.env.locals:=λx c e z=>by
 obtain⟨v,o,d,f⟩:=I.cell x c e;obtain⟨m,⟨i,h,g,a,b,_⟩,_⟩:=I.loc;rw[z,a] at d;cases d;rw[b] at f;cases f
theorem Inv.funs (I:Inv X Ab σ H s):s.heap.FunFrames X.base X.outer:=by
 have f:∀(l:List Env),(∀b∈frs l,b∈X.fs)->X.s₀.heap.FunFrames X.base l->s.heap.FunFrames X.base l:=by
  intro l
  induction l with
  |nil=>intro _ _;trivial
  |cons env r ih=>
   intro g h;obtain⟨m,⟨L,o,a,k,i,n⟩,j⟩:=h;have d:L∈X.fs:=g L (by unfold frs;rw[O5,a];exact F0)
   obtain⟨p,e⟩:=I.base.slot L o i (I.ok.frf L d) d λz=>I.ok.exfs L z d;exact⟨m,⟨L,_,a,k,e,n⟩,ih (λb c=>g b (by unfold frs;rw[O5,a];exact B9 _ c)) j⟩
 exact f X.outer (λ_ c=>c) I.ok.funs
theorem Inv.stack (I:Inv X Ab σ H s):s.heap.FunFrames X.base X.stack:=by
 rcases I.ok.stk with e|⟨e,hf⟩
 ·rw[e];exact I.funs
 ·rw[e];obtain⟨m,a,_⟩:=I.loc;refine .cons (by rw[I.ok.kind];decide) hf a ?_ I.funs
  exact Heap.get?_none_of_le (F4 I.ok.bsz I.ok.above)
theorem Inv.stkSub (I:Inv X Ab σ H s):∀b∈frs X.stack,b∈X.env.locals::X.fs:=λb a=>by
 rcases I.ok.stk with e|⟨e,hf⟩
 ·rw[e] at a;exact B9 _ a
 ·rw[e] at a;unfold frs at a;rw[O5,hf] at a;exact a
theorem Inv.stkFree (I:Inv X Ab σ H s):∀b∈frs X.stack,H b=none:=λb hb=>by
 rcases B7.mp (I.stkSub b hb) with e|hb
 ·rw[e];exact I.free
 ·obtain⟨_,o,a,_⟩:=I.ok.funs.mem hb;exact I.base.free b o a (I.ok.frf b hb) λz=>I.ok.exfs b z hb
theorem Inv.step {g':Array C37} {t':Nat} {d':Drawn} {ch:List Addr} (I:Inv X Ab σ H s)
  (f:∀b∈ch,(b∈X.ex\/X.s₀.heap.objs.size<=b)/\b≠X.env.locals/\(∀x c,X.env.cells.lookup x=some c->c≠b)/\∀p∈X.pn++Ab,p.1≠b)
  (keep:∀b o,b≠X.env.locals->b∉X.fs->b∉ch->s.heap.get? b=some o->H b=none->h'.get? b=some o)
  (slot:∀b o,b≠X.env.locals->b∈X.fs->b∉ch->s.heap.get? b=some o->H b=none->∃sl,h'.get? b=some {o with slots:=sl}) (free:∀b o,b∉ch->s.heap.get? b=some o->H b=none->H' b=none)
  (there:∀b o,b∉ch->s.heap.get? b=some o->∃o',h'.get? b=some o')
  (tups:∀b xs,H b=some (.tup xs)->H' b=some (.tup xs)) (frzs:∀b o u,H b=some (.frz o u)->H' b=some (.frz o u)) (tbls:∀b ps,H b=some (.tbl ps)->H' b=some (.tbl ps))
  (ns:∀m,s.heap.Ns X.env.locals m->h'.Ns X.env.locals m) (a2:HOk X.prog X.w H' h') (hg:AllBare g'):
  Inv X Ab σ H' {s with heap:=h',gens:=g',drawn:=d',toks:=t'}:=by
 have a0:∀b o,X.s₀.heap.get? b=some o->b≠X.env.locals:=λb o e=>C4 (E1 (B1 e) I.ok.above);have j:∀b o,X.s₀.heap.get? b=some o->b∉X.ex->b∉ch:=λb o e a t=>by
  rcases(f b t).1 with z|z
  ·exact a z
  ·exact absurd (E1 (B1 e) z) (Q9 _)
 have h:∀x c,X.env.cells.lookup x=some c->∀v,s.heap.IsCell c v->h'.IsCell c v:=λx c e v ⟨o,ho,hd⟩=>by
  have g:c∉ch:=λz=>(f c z).2.2.1 x c e rfl;by_cases hc:c∈X.fs
  ·obtain⟨sl,q⟩:=slot c o (I.cne x c e) hc g ho (I.freeC x c e);exact⟨_,q,hd⟩
  ·exact⟨o,keep c o (I.cne x c e) hc g ho (I.freeC x c e),hd⟩
 refine⟨I.ok,I.os,hg,⟨λb o e n t a=>?_,λb o e n t a=>?_,λb o e n a=>?_,λb o e a=>?_,λb xs e=>tups b xs (I.base.tups b xs e),λb o xs e=>frzs b o xs (I.base.frzs b o xs e),λb ps e=>?_⟩,?_,λx c e=>?_,?_,λx c e=>?_,λp hp=>?_,a2,I.len⟩
 ·exact keep b o (a0 b o e) t (j b o e a) (I.base.keep b o e n t a) (I.base.free b o e n a)
 ·obtain⟨sl,y⟩:=I.base.slot b o e n t a;obtain⟨a1,e2⟩:=slot b _ (a0 b o e) t (j b o e a) y (I.base.free b o e n a);exact⟨a1,e2⟩
 ·obtain⟨o',y⟩:=I.base.there b o e a;exact free b o' (j b o e a) y (I.base.free b o e n a)
 ·obtain⟨o',y⟩:=I.base.there b o e a;exact there b o' (j b o e a) y
 ·exact tbls b ps (I.base.tbls b ps e)
 ·obtain⟨m,hn,hl⟩:=I.loc;refine⟨m,ns m hn,λi x v y e2 e3=>?_⟩;obtain⟨u,r,l⟩:=hl i x v y e2 e3;refine⟨u,r,?_⟩;rcases l with l|⟨k,c,e,z⟩
  ·exact .inl l
  ·exact .inr ⟨k,c,e,h x c e _ z⟩
 ·obtain⟨v,z⟩:=I.cell x c e;exact⟨v,h x c e v z⟩
 ·obtain⟨m,⟨o,_,_,ho,_⟩,_⟩:=I.loc;exact free _ o (λz=>(f _ z).2.1 rfl) ho I.free
 ·obtain⟨v,o,ho,hd⟩:=I.cell x c e;exact free c o (λz=>(f c z).2.2.1 x c e rfl) ho (I.freeC x c e)
 ·obtain⟨e,n,ne,nf,d⟩:=I.pin p hp;have g:p.1∉ch:=λz=>(f p.1 z).2.2.2 p hp rfl;exact⟨keep p.1 p.2 ne nf g e n,free p.1 p.2 g e n,ne,nf,d⟩
theorem Inv.un {t':Nat} (I:Inv X Ab σ H s)(u:Un X.fs [] H H' s.heap h')(g:HOk X.prog X.w H' h'):Inv X Ab σ H' {s with heap:=h',toks:=t'}:=by
 obtain⟨m,⟨o,p,l,h,r⟩,_⟩:=id I.loc;obtain⟨t,j⟩:=u.any h I.free (by simp)
 exact I.step (g':=s.gens) (d':=s.drawn) (ch:=[]) (fun _ z=>nomatch z) (fun b o _ d _ e n=>u.keep b o e n d (by simp)) (fun b o _ d _ e n=>u.slot b o e n d (by simp)) (fun b o _ e n=>u.free b o e n (by simp)) (fun b o _ e=>u.there b o e (by simp)) u.tups u.frzs u.tbls (fun v k=>by
  obtain⟨q,c,f,a,i⟩:=k;rw[h] at a;cases a;exact⟨_,c,f,j,i⟩) g I.bare
theorem Inv.call {g':Array C37} {t':Nat} {d':Drawn} {ch:List Addr} (I:Inv X Ab σ H s)(u:Un (frs X.stack) ch H H' s.heap h')(j:HOk X.prog X.w H' h')(q:AllBare g')
  (d:∀b∈ch,(b∈X.ex\/X.s₀.heap.objs.size<=b)/\b≠X.env.locals/\(∀x c,X.env.cells.lookup x=some c->c≠b)/\∀p∈X.pn++Ab,p.1≠b):
  Inv X Ab σ H' {s with heap:=h',gens:=g',drawn:=d',toks:=t'}:=by
 obtain ⟨m,⟨o,es,y,k,r⟩,_⟩:=id I.loc;obtain ⟨sl,i⟩:=u.any k I.free fun z=>(d _ z).2.1 rfl;exact I.step (ch:=ch) d (fun b o i t a e n=>u.keep b o e n (fun z=>(B7.mp (I.stkSub b z)).elim i t) a) (fun b o _ _ a e n=>u.any e n a) (fun b o a e n=>u.free b o e n a) (fun b o a e=>u.there b o e a) u.tups u.frzs u.tbls (fun m' v=>by
  obtain⟨o',g,h,f,l⟩:=v;rw[k] at f;cases f;exact⟨_,g,h,i,l⟩) j q
theorem Inv.turned {t':Nat} {a:Addr} (I:Inv X Ab σ H s)(k:∀b o,b≠a->s.heap.get? b=some o->h'.get? b=some o)(w:H a=none)(g:a≠X.env.locals)
  (l:a∈X.ex\/X.s₀.heap.objs.size<=a) (i:∀x c,X.env.cells.lookup x=some c->c≠a) (h3:∀p∈X.pn++Ab,p.1≠a):Inv X Ab σ H {s with heap:=h',toks:=t'}:=by
 have f:∀b u,H b=some u->b≠a:=λb u e z=>by rw[z,w] at e;cases e
 refine I.step (g':=s.gens) (d':=s.drawn) (ch:=[a]) (λb t=>?_) (λb o _ _ d e _=>k b o (λz=>d (by simp[z])) e) (λb o _ _ d e _=>⟨o.slots,k b o (λz=>d (by simp[z])) e⟩) (λ_ _ _ _ n=>n)
  (λb o d e=>⟨o,k b o (λz=>d (by simp[z])) e⟩) (λ_ _ e=>e) (λ_ _ _ e=>e) (λ_ _ e=>e) (λm hm=>?_) (λb u e=>?_) I.bare
 ·have e:b=a:=by simpa using t
  subst e;exact⟨l,g,i,h3⟩
 ·obtain⟨o,y,h,j,r⟩:=hm;exact⟨o,y,h,k _ o (F5 g) j,r⟩
 ·refine(I.hok b u e).stay (λc v d q=>k c v ?_ q) (λ_ q=>q) λ_ _ q=>q;rcases d with z|z
  ·rw[z];exact f b u e
  ·exact f c _ z
theorem Inv.tok (I:Inv X Ab σ H s)(t:Nat):Inv X Ab σ H {s with toks:=t}:=I.un (h':=s.heap) (t':=t) Un.refl I.hok
theorem Inv.kept {t':Nat} (I:Inv X Ab σ H s)(k:∀b u,s.heap.get? b=some u->h'.get? b=some u):Inv X Ab σ H {s with heap:=h',toks:=t'}:=I.un (Un.kept k) (I.hok.kept k)
theorem Inv.laid {a:Addr} {o:HO} {t':Nat} (I:Inv X Ab σ H s)(k:∀b u,s.heap.get? b=some u->h'.get? b=some u)(d:s.heap.objs.size<=a)(c:ObjOk X.prog X.w (Ag H a o) h' a o):
  Inv X Ab σ (Ag H a o) {s with heap:=h',toks:=t'}:=I.un (Un.laid k d (I.hok.fresh d)) (I.hok.laid k d c)
theorem Inv.write {x e:Addr} {o:HO} {t':Nat} (I:Inv X Ab σ H s)(d:Mut (H x))(f:e=x\/H e=some (.own x))(k:∀b u,b≠e->s.heap.get? b=some u->h'.get? b=some u)(a:∃u,h'.get? e=some u)
  (c:ObjOk X.prog X.w (Ag H x o) h' x o):Inv X Ab σ (Ag H x o) {s with heap:=h',toks:=t'}:=I.un (Un.write d f k a) (I.hok.write d f k a c)
theorem Inv.pins_of {a:List (Addr×Obj)} (I:Inv X Ab σ H s)(h:∀p∈a,s.heap.get? p.1=some p.2/\H p.1=none/\p.1≠X.env.locals/\p.1∉X.fs/\∀v,p.2.data≠.cell v):Inv X a σ H s:=
 ⟨I.ok,I.os,I.bare,I.base,I.loc,I.cell,I.free,I.freeC,λp b=>(B0.mp b).elim (λz=>I.pin p (n6 _ z)) (h p),I.hok,I.len⟩
theorem qR0 {N:List Str} (e:N.Nodup){i j:Nat}{x:Str}(a:N[i]?=some x)(b:N[j]?=some x):i=j:=by
 obtain⟨g,d⟩:=A5.mp a;obtain⟨f,c⟩:=A5.mp b;exact(List.getElem_inj e).mp (d.trans c.symm)
theorem qMU {M:Model} {i:Nat} {x:Str} {v:V} {u:Value} {Q:Unit->Shared->Prop} (I:Inv X Ab σ H s)(hN:X.N.Nodup)(hi:X.N[i]?=some x)(t:Loc X.env.scope x)(r:RelV v u)
  (h:∀s',Inv X Ab (σ.set i (some v)) H s'->(∃a,Heap.SameBut a s.heap s'.heap/\(a=X.env.locals\/X.env.cells.lookup x=some a))->Q () s') (hf:X.fn x=true\/X.env.scope.names.lookup x=some .local:=by first|exact .inl rfl|exact .inr rfl|assumption):wpAny M A (storeName X.env x u) Q E s:=by
 obtain⟨m,hn,hl⟩:=id I.loc;have a5:(X.env.scope.kind == .class||(X.env.scope.kind == .module&&X.env.locals != X.env.globals))=false:=by rw[I.ok.kind];rfl
 have a4:i<σ.length:=by rw[I.len];exact(A5.mp hi).1
 have cne:=I.cne;have g:∀{a:Addr} {h':Heap},(∃o,s.heap.get? a=some o/\H a=none)->Heap.SameBut a s.heap h'->HOk X.prog X.w H h':=λ{a h'} ha f b ob e=>by
  obtain⟨_,_,a0⟩:=ha;refine(I.hok b ob e).stay (λc w' hc q=>(f.2 c ?_).trans q) (λ_ q=>q) λ_ _ q=>q;rintro rfl;rcases hc with rfl|hc
  ·rw[a0] at e;cases e
  ·rw[a0] at hc;cases hc
 rcases t with hk|hk
 ·refine wpAny_storeName_local hk hn (λh' a8 f=>?_) a5;obtain⟨oL,_,_,a9,_⟩:=id hn;refine h _ ⟨I.ok,I.os,I.bare,⟨λb o e n hb t=>?_,λb o e n hb t=>?_,I.base.free,λb o e t=>?_,I.base.tups,I.base.frzs,I.base.tbls⟩,⟨_,a8,λj y v' l e2 e3=>?_⟩,λy c e=>?_,I.free,I.freeC,λp hp=>?_,g ⟨oL,a9,I.free⟩ f,by simpa using I.len⟩ ⟨_,f,.inl rfl⟩
  ·exact(f.2 b (C4 (E1 (B1 e) I.ok.above))).trans (I.base.keep b o e n hb t)
  ·obtain⟨sl,l⟩:=I.base.slot b o e n hb t;exact⟨sl,(f.2 b (C4 (E1 (B1 e) I.ok.above))).trans l⟩
  ·obtain⟨o',l⟩:=I.base.there b o e t;exact⟨o',(f.2 b (C4 (E1 (B1 e) I.ok.above))).trans l⟩
  ·by_cases hj:j=i
   ·subst hj;rw[hi] at l;cases l;rw[W7 a4] at e2;cases e2;exact⟨u,r,.inl ⟨hk,by simp⟩⟩
   ·rw[n9 (F5 hj)] at e2;obtain⟨u',r',q⟩:=hl j y v' l e2 e3;refine⟨u',r',?_⟩;rcases q with⟨k,e⟩|⟨k,c,e,z⟩
    ·refine .inl ⟨k,?_⟩;have:y≠x:=λe=>hj (qR0 hN l (e▸hi));simp[this,e]
    ·exact .inr ⟨k,c,e,z.sameBut f (cne y c e)⟩
  ·obtain⟨w',z⟩:=I.cell y c e;exact⟨w',z.sameBut f (cne y c e)⟩
  ·obtain⟨e,n,ne,nf,d⟩:=I.pin p hp;exact⟨(f.2 p.1 ne).trans e,n,ne,nf,d⟩
 ·have a1:X.fn x=true:=by
   rcases hf with z|z
   ·exact z
   ·rw[z] at hk;cases hk
  obtain⟨c,hc⟩:=I.ok.has x (.inl hk);obtain⟨w',z⟩:=I.cell x c hc;refine wpAny_storeName_cell I.ok.kind hk hc z (λh' a3 f=>?_);obtain⟨oc,a6,a2⟩:=id z;refine h {s with heap:=h'} ⟨I.ok,I.os,I.bare,⟨λb o e n hb t=>?_,λb o e n hb t=>?_,I.base.free,λb o e t=>?_,I.base.tups,I.base.frzs,I.base.tbls⟩,⟨m,hn.sameBut f (F5 (cne x c hc)),λj y v' l e2 e3=>?_⟩,λy c' e=>?_,I.free,I.freeC,λp hp=>?_,g ⟨oc,a6,I.freeC x c hc⟩ f,by simpa using I.len⟩ ⟨c,f,.inr hc⟩
  ·exact(f.2 b (C4 (E1 (B1 e) (I.ok.cab x c a1 hc)))).trans (I.base.keep b o e n hb t)
  ·obtain⟨sl,l⟩:=I.base.slot b o e n hb t;exact⟨sl,(f.2 b (C4 (E1 (B1 e) (I.ok.cab x c a1 hc)))).trans l⟩
  ·obtain⟨o',l⟩:=I.base.there b o e t;exact⟨o',(f.2 b (C4 (E1 (B1 e) (I.ok.cab x c a1 hc)))).trans l⟩
  ·by_cases hj:j=i
   ·subst hj;rw[hi] at l;cases l;rw[W7 a4] at e2;cases e2;exact⟨u,r,.inr ⟨.inl hk,c,hc,a3⟩⟩
   ·rw[n9 (F5 hj)] at e2;obtain⟨u',r',q⟩:=hl j y v' l e2 e3;refine⟨u',r',?_⟩;rcases q with q|⟨k,c',e,z'⟩
    ·exact .inl q
    ·refine .inr ⟨k,c',e,z'.sameBut f ?_⟩;rintro rfl;exact hj (qR0 hN l (I.ok.inj _ _ _ e hc▸hi))
  ·by_cases a7:c'=c
   ·subst a7;exact⟨_,a3⟩
   ·obtain⟨w2,z2⟩:=I.cell y c' e;exact⟨w2,z2.sameBut f a7⟩
  ·obtain⟨e,n,ne,nf,d⟩:=I.pin p hp;refine⟨(f.2 p.1 ?_).trans e,n,ne,nf,d⟩;intro q;rw[q,a6] at e;have q':oc=p.2:=D7 e;exact d w' (by rw[<- q'];exact a2)
theorem qLA {M:Model} {i:Nat} {x:Str} {v:V} {u:Value} {Q:Unit->Shared->Prop} (I:Inv X Ab σ H s)(b:X.N.Nodup)(hi:X.N[i]?=some x)(d:Loc X.env.scope x)(r:RelV v u)
  (h:∀s',Inv X Ab (σ.set i (some v)) H s'->Q () s') (c:X.fn x=true\/X.env.scope.names.lookup x=some .local:=by first|exact .inl rfl|exact .inr rfl|assumption):wpAny M A (storeName X.env x u) Q E s:=
 qMU I b hi d r (λs' a _=>h s' a) c
theorem Inv.call' {ch:List Addr} (I:Inv X Ab σ H s)(g:a.os=s.os)(u:Un (frs X.stack) ch H H' s.heap a.heap)(f:HOk X.prog X.w H' a.heap)(i:AllBare a.gens)
  (d:∀b∈ch,(b∈X.ex\/X.s₀.heap.objs.size<=b)/\b≠X.env.locals/\(∀x c,X.env.cells.lookup x=some c->c≠b)/\∀p∈X.pn++Ab,p.1≠b):Inv X Ab σ H' a:=by
 obtain⟨j,g',d',t',h⟩:=a;have e:h=s.os:=g;subst e;exact I.call (g':=g') (t':=t') (d':=d') u f i d
end
abbrev XK:=Value->Option Addr->Hp->Prop
abbrev St:=List (Option V)
abbrev VK:=V->Hp->Prop
abbrev TE:=St->Hp->VK->Prop
abbrev TT:=St->Hp->(Bool->Hp->Prop)->Prop
abbrev TA:=St->Hp->(List V->Hp->Prop)->Prop
structure Ends where
 nx:St->Hp->Prop
 rt:VK
 bk:St->Hp->Prop:=λ_ _=>False
 ct:St->Hp->Prop:=λ_ _=>False
abbrev TS:=Ends->St->Hp->Prop
def EP (X:Cx)(Ab:List (Addr×Obj))(σ:St)(Q:VK)(u:Value)(s':Shared):Prop:=∃v H',Inv X Ab σ H' s'/\RelV v u/\Q v H'
def TP (X:Cx)(Ab:List (Addr×Obj))(σ:St)(Q:Bool->Hp->Prop)(b:Bool)(s':Shared):Prop:=∃H',Inv X Ab σ H' s'/\Q b H'
def AP (X:Cx)(Ab:List (Addr×Obj))(σ:St)(Q:List V->Hp->Prop)(us:List Value)(s':Shared):Prop:=∃vs H',Inv X Ab σ H' s'/\Vals vs us/\Q vs H'
def SP (X:Cx)(Ab:List (Addr×Obj))(D:Ends)(f:Flow)(s':Shared):Prop:=
 match f with
 |.next=>∃σ' H',Inv X Ab σ' H' s'/\D.nx σ' H'
 |.brk=>∃σ' H',Inv X Ab σ' H' s'/\D.bk σ' H'
 |.cont=>∃σ' H',Inv X Ab σ' H' s'/\D.ct σ' H'
 |.ret u=>∃v σ' H',Inv X Ab σ' H' s'/\RelV v u/\D.rt v H'
def PE (X:Cx)(e:Expr)(t:TE):Prop:=
 ∀(Ab:List (Addr×Obj)) (s:Shared) (σ:St) (H:Hp) (Q:VK),Inv X Ab σ H s->t σ H Q->wpAny (model X.prog X.w) X.A (eval e X.env) (EP X Ab σ Q) X.xe s
def PT (X:Cx)(e:Expr)(t:TT):Prop:=
 ∀(Ab:List (Addr×Obj)) (s:Shared) (σ:St) (H:Hp) (Q:Bool->Hp->Prop),Inv X Ab σ H s->t σ H Q->wpAny (model X.prog X.w) X.A (isTrue e X.env (eval e X.env)) (TP X Ab σ Q) X.xe s
def PW (X:Cx)(e:Expr)(t:TT):Prop:=
 ∀(whole:Sem Value) (Ab:List (Addr×Obj)) (s:Shared) (σ:St) (H:Hp) (Q:Bool->Hp->Prop),Inv X Ab σ H s->t σ H Q->wpAny (model X.prog X.w) X.A (isTrue e X.env whole) (TP X Ab σ Q) X.xe s
theorem PW.pt {X:Cx} {e:Expr} {t:TT} (h:PW X e t):PT X e t:=h _
def PA (X:Cx)(es:List Expr)(t:TA):Prop:=
 ∀(pos:Pos) (Ab:List (Addr×Obj)) (s:Shared) (σ:St) (H:Hp) (Q:List V->Hp->Prop),Inv X Ab σ H s->t σ H Q->wpAny (model X.prog X.w) X.A (spliced (backTo pos (B84 es X.env))) (AP X Ab σ Q) X.xe s
def PS (X:Cx)(st:Stmt)(t:TS):Prop:=
 ∀(Ab:List (Addr×Obj)) (s:Shared) (σ:St) (H:Hp) (D:Ends),Inv X Ab σ H s->t D σ H->wpAny (model X.prog X.w) X.A (exec st X.env) (SP X Ab D) X.xe s
def PSs (X:Cx)(st:List Stmt)(t:TS):Prop:=
 ∀(Ab:List (Addr×Obj)) (s:Shared) (σ:St) (H:Hp) (D:Ends),Inv X Ab σ H s->t D σ H->wpAny (model X.prog X.w) X.A (execs st X.env) (SP X Ab D) X.xe s
theorem thn {α:Type} {t:Sem α} {Q Q':α->Shared->Prop} {M:Model} (h:wpAny M A t Q E s)(b:∀a s,Q a s->Q' a s):wpAny M A t Q' E s:=B90 h b λ_ _ x=>x
section
variable{X:Cx}
theorem bin {a b:Expr} {c d:TE} (e:PE X a c)(i:PE X b d){Ab:List (Addr×Obj)}{s:Shared}{σ:St}{H:Hp}{R:V->V->Hp->Prop}(I:Inv X Ab σ H s)(h:c σ H λx H1=>d σ H1 λy H2=>R x y H2)
  {α:Type} {Q:α->Shared->Prop} {f:Value->Value->Sem α}
  (g:∀v u s2 x y H2,Inv X Ab σ H2 s2->RelV x v->RelV y u->R x y H2->wpAny (model X.prog X.w) X.A (f v u) Q X.xe s2):
  wpAny (model X.prog X.w) X.A (eval a X.env) (λv s₁=>wpAny (model X.prog X.w) X.A (eval b X.env) (λu s₂=>wpAny (model X.prog X.w) X.A (f v u) Q X.xe s₂) X.xe s₁) X.xe s:=by
 refine thn (e Ab s σ H _ I h) λv s1 ⟨x,H1,I1,r1,q1⟩=>?_;refine thn (i Ab s1 σ H1 _ I1 q1) λu s2 ⟨y,H2,I2,r2,q2⟩=>?_;exact g v u s2 x y H2 I2 r1 r2 q2
def tVar (i:Nat):TE:=λσ H Q=>∃v,σ[i]?=some (some v)/\Q v H
def tC (v:V):TE:=λ_ H Q=>Q v H
theorem qc5 {i:Nat} {x:Str} {pos:Pos} (n:X.N[i]?=some x) (o:Vis X.env.scope x) (d:(x==("__debug__" : Str))=false:=by decide) (hcd:(x==("__classdict__" : Str))=false:=by decide):PE X (.Name x pos) (tVar i):=by
 intro k s σ H Q I h;obtain⟨v,e,h⟩:=h;obtain⟨m,j,g⟩:=I.loc;obtain⟨u,r,l⟩:=g i x v n e o;have b:EP X k σ Q u s:=⟨v,H,I,r,h⟩;rcases l with⟨hk,p⟩|⟨hk,c,f,a⟩
 ·exact wpAny_Name (wpAny_loadName_local I.ok.kind hk j p b) d
 ·rcases hk with hk|hk
  ·exact wpAny_Name (wpAny_loadName_cell I.ok.kind hk f a b) d
  ·exact wpAny_Name (wpAny_loadName_free I.ok.kind hk f a b hcd) d
theorem qA7 :PE X (.Constant (.int i) j pos) (tC (.int i)):=λ_ _ _ H _ I h=>wpAny_Constant_int ⟨.int i,H,I.tok _,⟨_,rfl⟩,h⟩
theorem qDD :PE X (.Constant (.bool b) j pos) (tC (.bl b)):=λ_ _ _ H _ I h=>Constant_bool ⟨.bl b,H,I,rfl,h⟩
theorem qFP :PE X (.Constant .none j pos) (tC .non):=λ_ _ _ H _ I h=>Constant_none ⟨.non,H,I,rfl,h⟩
theorem qBO :PE X (.Constant (.str x) j pos) (tC (.str x)):=λ_ _ _ H _ I h=>Calls.Constant_str ⟨.str x,H,I.tok _,⟨_,rfl⟩,h⟩
def Gl (X:Cx)(x:Str):Prop:=X.env.kindOf x=some .globalImplicit
theorem qaI {Ab:List (Addr×Obj)} {σ:St} {H:Hp} {x:Str} {u:Value} {pos:Pos} {Q:Aa1} (I:Inv X Ab σ H s)(a:Gl X x)(c:X.mg x=some u)(h:Q u s)
  (b:(x==("__debug__" : Str))=false:=by decide):wpAny (model X.prog X.w) X.A (eval (.Name x pos) X.env) Q E s:=
 Calls.Name_function_global I.ok.kind a (Calls.loadGlobal_global (by rw[I.ok.glob];exact I.mod.glob.keeps I.bk) c h) b
theorem qFR {Ab:List (Addr×Obj)} {σ:St} {H:Hp} {x:Str} {u:Value} {pos:Pos} {Q:Aa1} (I:Inv X Ab σ H s)(g:Gl X x)(e:X.mg x=none)(f:B82 x=some u)(h:Q u s)
  (c:x ≠ "__name__":=by decide) (d:(x==("__debug__" : Str))=false:=by decide):wpAny (model X.prog X.w) X.A (eval (.Name x pos) X.env) Q E s:=by
 obtain⟨i,b,a⟩:=I.mod.blt;exact Calls.Name_function_global I.ok.kind g (Calls.loadGlobal_builtin (by rw[I.ok.glob];exact I.mod.glob.keeps I.bk) e (by rw[I.ok.blt];exact b.keeps I.bk) ((a x c).trans f) h) d
theorem qC7 {x:Str} {v:V} {u:Value} {pos:Pos} (e:Gl X x) (c:X.mg x=none) (d:B82 x=some u) (r:RelV v u) (a:x ≠ "__name__":=by decide) (b:(x==("__debug__" : Str))=false:=by decide):PE X (.Name x pos) (tC v):=
 λ_ _ _ H _ I h=>qFR I e c d ⟨v,H,I,r,h⟩ a b
variable{a b:Expr}{ta tb:TE}{pos:Pos}
def PC (X:Cx)(op:CmpOp)(a b:Expr)(t:TE):Prop:=
 ∀(Ab:List (Addr×Obj)) (s:Shared) (σ:St) (H:Hp) (Q:VK),Inv X Ab σ H s->t σ H Q->
  wpAny (model X.prog X.w) X.A (eval a X.env) (λv s₁=>wpAny (model X.prog X.w) X.A (eval b X.env) (λu s₂=>wpAny (model X.prog X.w) X.A (B95 op v u) (EP X Ab σ Q) X.xe s₂) X.xe s₁) X.xe s
theorem qR1 (b:Expr){op:CmpOp}(h:op≠.In)(c:op≠.NotIn):C18 op b=false:=by
 have a:(op==CmpOp.In)=false:=by cases op<;>first|rfl|exact absurd rfl h
 have d:(op==CmpOp.NotIn)=false:=by cases op<;>first|rfl|exact absurd rfl c
 cases b<;>simp[C18,a,d]
def tIsN (ta:TE):TE:=λσ H Q=>ta σ H λx H1=>Q (.bl (decide (x=.non))) H1
def qdG (ta:TE):TE:=λσ H Q=>ta σ H λx H1=>Q (.bl (!decide (x=.non))) H1
theorem RelV.none_iff {x:V} {v:Value} (r:RelV x v):(v==M6)=decide (x=.non):=by
 cases x with
 |non=>cases r;rfl
 |bl _=>cases r;rfl
 |int _=>obtain⟨t,rfl⟩:=r;rfl
 |str _=>obtain⟨t,rfl⟩:=r;rfl
 |byt _=>obtain⟨t,rfl⟩:=r;rfl
 |flt _=>obtain⟨t,rfl⟩:=r;rfl
 |ref _=>cases r;rfl
 |ty _=>cases r;rfl
theorem qHM (b:PE X a ta):PC X .Is a (.Constant .none j pos') (tIsN ta):=by
 intro c s σ H Q I h;refine thn (b c s σ H _ I h) λv s1 ⟨x,H1,I1,r1,q1⟩=>?_;exact Constant_none (is_none_gen ⟨.bl _,H1,I1,by rw[r1.none_iff];rfl,q1⟩)
theorem qOX (b:PE X a ta):PC X .IsNot a (.Constant .none j pos') (qdG ta):=by
 intro c s σ H Q I h;refine thn (b c s σ H _ I h) λv s1 ⟨x,H1,I1,r1,q1⟩=>?_;exact Constant_none (isnot_none_gen ⟨.bl _,H1,I1,by rw[r1.none_iff];rfl,q1⟩)
def tB (t:TE):TT:=λσ H Q=>t σ H λx H1=>∃c,x=.bl c/\Q c H1
theorem qQQ {op:CmpOp} {t:TE} (h:PC X op a b t)(c:C18 op b=false:=by first|exact qR1 _ (by decide) (by decide)|rfl):PE X (.Compare a [op] [b] pos) t:=λd s σ H Q I e=>wpAny_Compare1 (h d s σ H Q I e) c
theorem qCZ {op:CmpOp} {t:TE} (h:PC X op a b t)(e:C18 op b=false:=by first|exact qR1 _ (by decide) (by decide)|rfl):PT X (.Compare a [op] [b] pos) (tB t):=by
 intro g s σ H Q I i;refine wpAny_isTrue_Compare1 (thn (h g s σ H _ I i) λv k e=>thn e λu j f=>thn f λc s3 ⟨x,H1,I1,r1,q1⟩=>?_) e;obtain⟨d,rfl,q⟩:=q1;cases r1;exact B92 ⟨H1,I1,q⟩
theorem qBX {e:Expr} {t:TE} (h:PE X e t)(c:∀whole,isTrue e X.env whole=(do let v <- whole;standAt e.pos;C21 [v] (truthy v)):=by intro _;rfl):PT X e (tB t):=by
 intro a s σ H Q I b;refine isTrue_plain (thn (h a s σ H _ I b) λv s1 ⟨x,H1,I1,r1,q1⟩=>?_) (c _);obtain⟨d,rfl,q⟩:=q1;cases r1;exact B92 ⟨H1,I1,q⟩
variable{tA tB':TT}{rest:List Expr}
def tAnd (t u:TT):TT:=λσ H Q=>t σ H λc H1=>if c=true then u σ H1 Q else Q false H1
def tOr (t u:TT):TT:=λσ H Q=>t σ H λc H1=>if c=true then Q true H1 else u σ H1 Q
def tNot (t:TT):TT:=λσ H Q=>t σ H λc H1=>Q (!c) H1
theorem qOR (b:PT X a tA):PW X (.BoolOp .And [a] pos) tA:=by
 intro f d s σ H Q I h;refine isTrue_and (thn (b d s σ H Q I h) λc g e=>?_);cases c with
 |true=>exact isTrue_and_nil e
 |false=>exact e
theorem qGE (b:PT X a tA):PW X (.BoolOp .Or [a] pos) tA:=by
 intro f d s σ H Q I h;refine isTrue_or (thn (b d s σ H Q I h) λc g e=>?_);cases c with
 |false=>exact isTrue_or_nil e
 |true=>exact e
theorem qTT (f:PT X a tA)(g:PW X (.BoolOp .And (b::rest) pos) tB'):PW X (.BoolOp .And (a::b::rest) pos) (tAnd tA tB'):=by
 intro e d s σ H Q I h;refine isTrue_and (thn (f d s σ H _ I h) λc s1 ⟨H1,I1,q1⟩=>?_);cases c with
 |true=>exact g e d s1 σ H1 Q I1 q1
 |false=>exact⟨H1,I1,q1⟩
theorem qHW (f:PT X a tA)(g:PW X (.BoolOp .Or (b::rest) pos) tB'):PW X (.BoolOp .Or (a::b::rest) pos) (tOr tA tB'):=by
 intro e d s σ H Q I h;refine isTrue_or (thn (f d s σ H _ I h) λc s1 ⟨H1,I1,q1⟩=>?_);cases c with
 |true=>exact⟨H1,I1,q1⟩
 |false=>exact g e d s1 σ H1 Q I1 q1
theorem qCQ (b:PT X a tA):PT X (.UnaryOp .Not a pos) (tNot tA):=by
 intro d s σ H Q I h;exact isTrue_not (b d s σ H (λc e=>Q (!c) e) I h)
def qdN (ta tb:TE):TE:=λσ H Q=>ta σ H λx H1=>∃c,x=.bl c/\if c=true then tb σ H1 Q else Q (.bl false) H1
def qdF (ta:TE):TE:=λσ H Q=>ta σ H λx H1=>∃c,x=.bl c/\Q (.bl (!c)) H1
theorem qQP {t:TE} (h:PE X a t):PE X (.BoolOp op [a] pos) t:=λb s σ H Q I c=>BoolOp_one (h b s σ H Q I c)
theorem qKK (e:PE X a ta)(f:PE X (.BoolOp .And (b::rest) pos) tb):PE X (.BoolOp .And (a::b::rest) pos) (qdN ta tb):=by
 intro d s σ H Q I h;refine BoolOp_and (thn (e d s σ H _ I h) λv s1 ⟨x,H1,I1,r1,q1⟩=>?_);obtain⟨c,rfl,q1⟩:=q1;cases r1;refine B92 ?_;cases c with
 |true=>exact f d s1 σ H1 Q I1 q1
 |false=>exact⟨.bl false,H1,I1,rfl,q1⟩
theorem qZ3 (b:PE X a ta):PE X (.UnaryOp .Not a pos) (qdF ta):=by
 intro d s σ H Q I h;refine UnaryOp_ (thn (b d s σ H _ I h) λv s1 ⟨x,H1,I1,r1,q1⟩=>?_);obtain⟨c,rfl,q1⟩:=q1;cases r1;exact not_of (B92 ⟨.bl (!c),H1,I1,rfl,q1⟩)
def tIf (t:TT)(ta tb:TE):TE:=λσ H Q=>t σ H λc H1=>if c=true then ta σ H1 Q else tb σ H1 Q
theorem qGG {c:Expr} (g:PT X c tA)(f:PE X a ta)(i:PE X b tb):PE X (.IfExp c a b pos) (tIf tA ta tb):=by
 intro e s σ H Q I h;refine wpAny_IfExp (thn (g e s σ H _ I h) λd s1 ⟨H1,I1,q1⟩=>?_);cases d with
 |true=>exact f e s1 σ H1 Q I1 q1
 |false=>exact i e s1 σ H1 Q I1 q1
end
def SqL (K:Ab1)(H:Hp)(a:Addr)(xs:List V):Prop:=
 Rd H a (.lst xs)\/
  ∃(o:Obj) (its:Array Value) (n:Nat),K.lookup a=some o/\o.cls=.type "list"/\o.dict=none/\o.data=.seq its n/\its.size<=B77/\Vals xs its.toList
def SqT (K:Ab1)(H:Hp)(a:Addr)(xs:List V):Prop:=
 Rd H a (.tup xs)\/
  ∃(o:Obj) (its:Array Value) (n:Nat),K.lookup a=some o/\o.cls=.type "tuple"/\o.data=.seq its n/\its.size<=B77/\Vals xs its.toList
noncomputable def absV:Value->Option V
 |.none=>some .non
 |.bool b=>some (.bl b)
 |.int i _=>some (.int i)
 |.str x _=>some (.str x)
 |.bytes b _=>some (.byt b)
 |.float b _=>some (.flt b)
 |.ref a=>some (.ref a)
 |.type n=>some (.ty n)
 |_=>none
theorem RelV.abs {x:V} {u:Value} (r:RelV x u):absV u=some x:=by
 cases x with
 |non=>cases r;rfl
 |bl _=>cases r;rfl
 |int _=>obtain⟨t,rfl⟩:=r;rfl
 |str _=>obtain⟨t,rfl⟩:=r;rfl
 |byt _=>obtain⟨t,rfl⟩:=r;rfl
 |flt _=>obtain⟨t,rfl⟩:=r;rfl
 |ref _=>cases r;rfl
 |ty _=>cases r;rfl
theorem RelV.inj {x y:V} {u:Value} (r:RelV x u)(q:RelV y u):x=y:=D7 (r.abs.symm.trans q.abs)
theorem Vals.inj:∀{xs ys:List V} {us:List Value},Vals xs us->Vals ys us->xs=ys
 |_,_,_,.nil,.nil=>rfl
 |_,_,_,.cons r t,.cons r' t'=>by rw[r.inj r',Vals.inj t t']
section
variable{X:Cx}{Ab:List (Addr×Obj)}{σ:St}{H:Hp}{s:Shared}{a:Addr}{xs ys:List V}
theorem Ab2 {K:Ab1} (h:H a=some (.lst xs)):SqL K H a xs:=.inl (.inl h)
theorem Ac0 {K:Ab1} (h:H a=some (.tup xs)):SqT K H a xs:=.inl (.inl h)
theorem Inv.list (I:Inv X Ab σ H s)(h:SqL X.K H a xs):∃its:List Value,Vals xs its/\PlainL s.heap a its.toArray/\xs.length<=B77:=by
 rcases h with h|⟨o,its,n,hk,hc,hd,hs,hz,r⟩
 ·obtain⟨z,its,n,r,e⟩:=h.ok I.hok;exact⟨its,r,⟨_,n,e,rfl,rfl,rfl⟩,z⟩
 ·refine⟨its.toList,r,⟨o,n,I.kIn a o hk,hc,hd,by simpa using hs⟩,?_⟩
  have e:=r.length;simp only[C0] at e
  lia
theorem Inv.tuple (I:Inv X Ab σ H s)(h:SqT X.K H a xs):∃its:List Value,Vals xs its/\IsTup s.heap a its.toArray/\xs.length<=B77:=by
 rcases h with h|⟨o,its,n,hk,hc,hs,hz,r⟩
 ·obtain⟨z,its,r,p⟩:=h.ok I.hok;exact⟨its,r,p,z⟩
 ·refine⟨its.toList,r,⟨o,I.kIn a o hk,hc,n,by simpa using hs⟩,?_⟩
  have e:=r.length;simp only[C0] at e
  lia
theorem Inv.list_inj (I:Inv X Ab σ H s)(h:SqL X.K H a xs)(h':SqL X.K H a ys):xs=ys:=by
 obtain⟨c,r,⟨o,n,e,_,_,d⟩,_⟩:=I.list h;obtain⟨b,i,⟨k,j,f,_,_,g⟩,_⟩:=I.list h';rw[e] at f;cases f;rw[d] at g
 injection g with d1 _
 have:c=b:=by simpa using congrArg B15 d1
 subst this;exact r.inj i
theorem Inv.tuple_inj (I:Inv X Ab σ H s)(h:SqT X.K H a xs)(h':SqT X.K H a ys):xs=ys:=by
 obtain⟨c,r,⟨o,e,_,n,d⟩,_⟩:=I.tuple h;obtain⟨b,i,⟨k,f,_,j,g⟩,_⟩:=I.tuple h';rw[e] at f;cases f;rw[d] at g
 injection g with d1 _
 have:c=b:=by simpa using congrArg B15 d1
 subst this;exact r.inj i
end
noncomputable abbrev Cx.wish (X:Cx)(E:Aa1):Cx:={X with xe:=E}
noncomputable abbrev Cx.nox (X:Cx):Cx:=X.wish λ_ _=>False
theorem Cx.Ok.wish {X:Cx} (a:X.Ok)(E:Aa1):(X.wish E).Ok:=
 ⟨a.mod,a.kind,a.glob,a.blt,a.above,a.inj,a.has,a.cab,a.hd,a.frames,a.stk,a.exf,a.bs,a.bsz,a.noex,a.exfs,a.funs,a.frf⟩
theorem Cx.Ok.unwish {X:Cx} (a:(X.wish E).Ok):X.Ok:=
 ⟨a.mod,a.kind,a.glob,a.blt,a.above,a.inj,a.has,a.cab,a.hd,a.frames,a.stk,a.exf,a.bs,a.bsz,a.noex,a.exfs,a.funs,a.frf⟩
section
variable{X:Cx}{Ab:List (Addr×Obj)}{σ:St}{H:Hp}{s:Shared}{E:Aa1}
theorem Inv.wish (I:Inv X Ab σ H s)(E:Aa1):Inv (X.wish E) Ab σ H s:=⟨I.ok.wish E,I.os,I.bare,I.base,I.loc,I.cell,I.free,I.freeC,I.pin,I.hok,I.len⟩
theorem Inv.unwish (I:Inv (X.wish E) Ab σ H s):Inv X Ab σ H s:=⟨I.ok.unwish,I.os,I.bare,I.base,I.loc,I.cell,I.free,I.freeC,I.pin,I.hok,I.len⟩
theorem SP.unwish {D:Ends} {f:Flow} (h:SP (X.wish E) Ab D f b):SP X Ab D f b:=by
 cases f with
 |next=>obtain⟨σ',a,I,q⟩:=h;exact⟨σ',a,I.unwish,q⟩
 |brk=>obtain⟨σ',a,I,q⟩:=h;exact⟨σ',a,I.unwish,q⟩
 |cont=>obtain⟨σ',a,I,q⟩:=h;exact⟨σ',a,I.unwish,q⟩
 |ret u=>obtain⟨v,σ',a,I,r,q⟩:=h;exact⟨v,σ',a,I.unwish,r,q⟩
theorem PSs.nox {st:List Stmt} {t:TS} (h:PSs X.nox st t):PSs X st t:=λa s σ H D I b=>
 B90 (h a s σ H D (I.wish _) b) (λ_ _ q=>q.unwish) λ_ _ z=>W5 z
end
section
variable{X:Cx}{st:Stmt}{rest:List Stmt}{t u:TS}{e:Expr}{te:TE}{pos:Pos}
def qdH:TS:=λD σ H=>D.nx σ H
def tSeq (t u:TS):TS:=λD σ H=>t {D with nx:=u D} σ H
theorem qAM:PSs X [] qdH:=λ_ _ σ H _ I h=>C61 ⟨σ,H,I,h⟩
theorem qA4 (e:PS X st t)(c:PSs X rest u):PSs X (st::rest) (tSeq t u):=by
 intro a s σ H D I h;refine wpAny_execs_cons (thn (e a s σ H {D with nx:=u D} I h) λf g q=>?_);cases f with
 |next=>
  obtain⟨σ',d,b,q⟩:=q;exact c a g σ' d D b q
 |ret v=>exact q
 |brk=>exact q
 |cont=>exact q
theorem qA5 (a:PS X st t):PSs X [st] t:=by
 intro b s σ H D I h;refine wpAny_execs_cons (thn (a b s σ H D I h) λf c q=>?_);cases f with
 |next=>exact C61 q
 |ret v=>exact q
 |brk=>exact q
 |cont=>exact q
theorem Inv.quiet {Ab:List (Addr×Obj)} {σ:St} {H:Hp} (I:Inv X Ab σ H s):interactive X.env=false:=by simp[interactive,I.ok.kind]
def qdK (te:TE):TS:=λD σ H=>te σ H λ_ H1=>D.nx σ H1
theorem qCW (b:PE X e te)(c:swapsWith e none pos.line X.env=pure false:=by rfl):PS X (.Expr e pos) (qdK te):=by
 intro a s σ H D I h;exact wpAny_Expr_any (thn (b a s σ H _ I h) λv s1 ⟨x,H1,I1,r1,q1⟩=>⟨σ,H1,I1,q1⟩) I.quiet c
def tRet (te:TE):TS:=λD σ H=>te σ H D.rt
theorem qAE (b:PE X e te):PS X (.Return (some e) pos) (tRet te):=by
 intro a s σ H D I h;exact wpAny_Return_some (thn (b a s σ H _ I h) λv s1 ⟨x,H1,I1,r1,q1⟩=>⟨x,σ,H1,I1,r1,q1⟩)
def tIfS (c:TT)(t u:TS):TS:=λD σ H=>c σ H λb H1=>if b=true then t D σ H1 else u D σ H1
theorem qBD {c:Expr} {a b:List Stmt} {f:TT} (j:PT X c f)(g:PSs X a t)(i:PSs X b u):PS X (.If c a b pos) (tIfS f t u):=by
 intro e s σ H D I h;refine wpAny_If (thn (j e s σ H _ I h) λd s1 ⟨H1,I1,q1⟩=>?_);cases d with
 |true=>exact g e s1 σ H1 D I1 q1
 |false=>exact i e s1 σ H1 D I1 q1
def qbJ:TS:=λ_ _ _=>False
theorem qTU {a:List Stmt} :PSs X a qbJ:=λ_ _ _ _ _ _ h=>h.elim
end
abbrev TG:=V->St->Hp->(St->Hp->Prop)->Prop
abbrev TGs:=List V->St->Hp->(St->Hp->Prop)->Prop
def PG (X:Cx)(target:Expr)(t:TG):Prop:=
 ∀(Ab:List (Addr×Obj)) (s:Shared) (σ:St) (H:Hp) (v:V) (u:Value) (Q:St->Hp->Prop),Inv X Ab σ H s->RelV v u->t v σ H Q->
  wpAny (model X.prog X.w) X.A (assign target X.env u) (λ_ s'=>∃σ' H',Inv X Ab σ' H' s'/\Q σ' H') X.xe s
def PGs (X:Cx)(ts:List Expr)(t:TGs):Prop:=
 ∀(Ab:List (Addr×Obj)) (s:Shared) (σ:St) (H:Hp) (vs:List V) (us:List Value) (Q:St->Hp->Prop),Inv X Ab σ H s->Vals vs us->t vs σ H Q->
  wpAny (model X.prog X.w) X.A (assignInOrder ((C29 ts X.env).map (·.2)) us) (λ_ s'=>∃σ' H',Inv X Ab σ' H' s'/\Q σ' H') X.xe s
abbrev TSet:=V->V->V->Hp->(Hp->Prop)->Prop
def PSet (X:Cx)(t:TSet):Prop:=
 ∀(Ab:List (Addr×Obj)) (s:Shared) (σ:St) (H:Hp) (o i v:V) (ov iv u:Value) (Q:Hp->Prop),Inv X Ab σ H s->RelV o ov->RelV i iv->RelV v u->t o i v H Q->
  wpAny (model X.prog X.w) X.A (setItem ov iv u) (λ_ s'=>∃H',Inv X Ab σ H' s'/\Q H') X.xe s
abbrev TIp:=V->V->Hp->VK->Prop
def PIp (X:Cx)(op:Operator)(t:TIp):Prop:=
 ∀(Ab:List (Addr×Obj)) (s:Shared) (σ:St) (H:Hp) (x y:V) (v u:Value) (Q:VK),Inv X Ab σ H s->RelV x v->RelV y u->t x y H Q->
  wpAny (model X.prog X.w) X.A (inplaceOp op v u) (EP X Ab σ Q) X.xe s
section
variable{X:Cx}{pos:Pos}
def qVD (i:Nat):TG:=λv σ H Q=>Q (σ.set i (some v)) H
theorem qAS {i:Nat} {x:Str} (d:X.N.Nodup)(hi:X.N[i]?=some x)(c:Loc X.env.scope x)(b:X.fn x=true\/X.env.scope.names.lookup x=some .local:=by first|exact .inl rfl|exact .inr rfl|assumption):PG X (.Name x pos) (qVD i):=by
 intro f s σ H v u Q I r h;exact wpAny_assign_Name (qLA I d hi c r (λe a=>⟨_,H,a,h⟩) b)
def gNil:TGs:=λvs σ H Q=>vs=[]/\Q σ H
def qeH (t:TG)(u:TGs):TGs:=λvs σ H Q=>∃v r,vs=v::r/\t v σ H λσ' H'=>u r σ' H' Q
theorem qDA:PGs X [] gNil:=by
 intro a s σ H b c Q I r h;obtain⟨e,h⟩:=h;subst e;cases r;exact assignInOrder_nil ⟨σ,H,I,h⟩
theorem qAW {e:Expr} {es:List Expr} {t:TG} {u:TGs} (c:PG X e t)(b:PGs X es u)
  (f:(C29 (e::es) X.env).map (·.2)=assign e X.env::(C29 es X.env).map (·.2):=by rfl):PGs X (e::es) (qeH t u):=by
 intro a s σ H g j Q I r h;obtain⟨v,i,d,h⟩:=h;subst d;cases r with
 |cons r rr=>
  rw[f];refine assignInOrder_cons (thn (c a s σ H _ _ _ I r h) λ_ s1 ⟨σ1,H1,I1,q1⟩=>?_);exact b a s1 σ1 H1 _ _ Q I1 rr q1
def gTup (K:Ab1)(n:Nat)(t:TGs):TG:=λv σ H Q=>∃a xs,v=.ref a/\SqT K H a xs/\xs.length=n/\t xs σ H Q
theorem qKJ {es:List Expr} {k:Nat} {t:TGs} {n:Nat} (z:X.calm=true)(h:PGs X es t)
  (m:(C29 es X.env).length=n:=by rfl) (c:(C29 es X.env).findIdx? (·.1)=none:=by rfl):PG X (.Tuple es k pos) (gTup X.K n t):=by
 intro f s σ H v u Q I r d;obtain⟨a,w,q,x,j,d⟩:=d;subst q;cases r;obtain⟨i,g,y,hz⟩:=I.tuple x;refine assign_Tuple_tuple (I.ok.hd z) y (by simp[m,<- j,g.length]) c λp l=>?_
 have I1:Inv X f σ H {s with heap:=p}:=I.kept (t':=s.toks) λb o e=>l b o (C4 (B1 e)) e;exact h f _ σ H w _ Q I1 (by simpa using g) d
def gSub (to ti:TE)(t:TSet):TG:=λv σ H Q=>to σ H λo H1=>ti σ H1 λi H2=>t o i v H2 λH3=>Q σ H3
theorem qU3 {o i:Expr} {c b:TE} {t:TSet} (e:PE X o c)(hi:PE X i b)(f:PSet X t)
  (d:∀ v,assign (.Subscript o i pos) X.env v=(do
   let ov <- C21 [v] (eval o X.env)
   let iv <- C21 [v,ov] (eval i X.env)
   standAt pos
   C21 [v,ov,iv] (setItem ov iv v)
   release [v,ov,iv] []):=by intro _;rfl):PG X (.Subscript o i pos) (gSub c b t):=by
 intro a s σ H v u Q I r h;rw[d];refine B75 (B83 (thn (e a s σ H _ I h) λov s1 ⟨x,H1,I1,r1,q1⟩=>?_));refine B75 (B83 (thn (hi a s1 σ H1 _ I1 q1) λiv s2 ⟨y,H2,I2,r2,q2⟩=>?_));refine B75 (C50 (B75 (B83 (thn (f a s2 σ H2 x y v ov iv u _ I2 r1 r2 r q2) λ_ s3 ⟨H3,I3,q3⟩=>?_))));exact wpAny_release ⟨σ,H3,I3,q3⟩
def tAsg (te:TE)(g:TG):TS:=λD σ H=>te σ H λx H1=>g x σ H1 D.nx
theorem qKH {a e:Expr} {c:TE} {g:TG} (f:PE X e c)(j:PG X a g)(k:swapsWithSole [a] e pos.line X.env=pure false:=by rfl)(i:swappedStores [a] e X.env=pure none:=by rfl)
  (d:(C29 [a] X.env).map (·.2)=[assign a X.env]:=by rfl):PS X (.Assign [a] e pos) (tAsg c g):=by
 intro b s σ H D I h;refine wpAny_Assign_stores (thn (f b s σ H _ I h) λv s1 ⟨x,H1,I1,r1,q1⟩=>?_) k i;rw[d];exact thn (j b s1 σ H1 x v _ I1 r1 q1) λ_ l q=>q
theorem qAG {i:Nat} {x:Str} {e:Expr} {b:TE} {a:Pos} (k:X.N.Nodup)(hi:X.N[i]?=some x)(d:Loc X.env.scope x)(j:PE X e b)(l:swapsWith e (some (.Name x a)) pos.line X.env=pure false:=by rfl)(c:X.fn x=true\/X.env.scope.names.lookup x=some .local:=by first|exact .inl rfl|exact .inr rfl|assumption):
  PS X (.Assign [.Name x a] e pos) (tAsg b (qVD i)):=by
 intro g s σ H D I h;refine wpAny_Assign_Name (thn (j g s σ H _ I h) λv s1 ⟨y,H1,I1,r1,q1⟩=>?_) l;exact qLA I1 k hi d r1 (λm f=>⟨_,H1,f,q1⟩) c
def tAug (i:Nat)(te:TE)(ti:TIp):TS:=λD σ H=>∃x,σ[i]?=some (some x)/\te σ H λy H1=>ti x y H1 λz H2=>D.nx (σ.set i (some z)) H2
theorem qbZ {i:Nat} {x:Str} {e:Expr} {j:TE} {op:Operator} {n:TIp} {b:Pos} (hN:X.N.Nodup)(hi:X.N[i]?=some x)(f:Loc X.env.scope x)(he:PE X e j)(ho:PIp X op n)(p:X.fn x=true\/X.env.scope.names.lookup x=some .local:=by first|exact .inl rfl|exact .inr rfl|assumption):
  PS X (.AugAssign (.Name x b) op e pos) (tAug i j n):=by
 intro g s σ H D I h;obtain⟨v,e1,h⟩:=h;obtain⟨m,hn,hl⟩:=I.loc;have d:Vis X.env.scope x:=by rcases f with k|k;exact .inl k;exact .inr (.inl k)
 obtain⟨u,r,l⟩:=hl i x v hi e1 d;refine wpAny_AugAssign_Name ?_;have o:wpAny (model X.prog X.w) X.A (eval e X.env) (λw s₂=>wpAny (model X.prog X.w) X.A (inplaceOp op u w) (λr q=>wpAny (model X.prog X.w) X.A (storeName X.env x r) (λ_=>SP X g D .next) X.xe q) X.xe s₂) X.xe s:=by
  refine thn (he g s σ H _ I h) λw s1 ⟨y,H1,I1,r1,q1⟩=>?_;refine thn (ho g s1 σ H1 v y u w _ I1 r r1 q1) λz s2 ⟨zv,H2,I2,r2,q2⟩=>?_;exact qLA I2 hN hi f r2 (λs3 t=>⟨_,H2,t,q2⟩) p
 rcases l with⟨hk,hm⟩|⟨hk,c,hc,a⟩
 ·exact wpAny_loadName_local I.ok.kind hk hn hm o
 ·rcases hk with hk|hk
  ·exact wpAny_loadName_cell I.ok.kind hk hc a o
  ·rcases f with k|k
   ·have:X.env.scope.names.lookup x=some .free:=hk;rw[k] at this;cases this
   ·have:X.env.scope.names.lookup x=some .free:=hk;rw[k] at this;cases this
def ipI (f:Int->Int->Int):TIp:=λx y H Q=>∃i j,x=.int i/\y=.int j/\Q (.int (f i j)) H
theorem qcM:PIp X .Add (ipI λi j=>i+j):=by
 intro e s σ H x y v u Q I c d h;obtain⟨i,j,b,a,q⟩:=h;subst b;subst a;obtain⟨t,rfl⟩:=c;obtain⟨f,rfl⟩:=d;exact iadd_int ⟨.int _,H,I.tok _,⟨_,rfl⟩,q⟩
def qbH (c:TT)(tb:TS):TS:=λD σ H=>∃W:Nat->St->Hp->Prop,(∃m,W m σ H)/\∀m σ H,W m σ H->
 c σ H λb H1=>if b=true then∃N:St->Hp->Prop,(∀σ' H',N σ' H'->∃m',m'<m/\W m' σ' H')/\tb {D with nx:=N,ct:=N,bk:=D.nx} σ H1 else D.nx σ H1
theorem qFD {c:Expr} {body:List Stmt} {p:TT} {r:TS} (q:PassesOwn (model X.prog X.w) X.A X.env X.xe)(x:PT X c p)(t:PSs X body r):PS X (.While c body [] pos) (qbH p r):=by
 intro k s σ H D I h;obtain⟨W,⟨z,u⟩,a⟩:=h;refine wpAny_While (codeAny_whileLoop (λn y=>∃σ' H',Inv X k σ' H' y/\W n σ' H') ?_ z ⟨σ,H,I,u⟩);rintro n s1 ⟨σ1,H1,I1,w1⟩;refine C15 q (thn (x k s1 σ1 H1 _ I1 (a n σ1 H1 w1)) λb s2 ⟨H2,I2,q2⟩=>?_);cases b with
 |true=>
  obtain⟨N,o,q2⟩:=q2;rw[if_pos rfl];refine C15 q (thn (t k s2 σ1 H2 _ I2 q2) λf s3 e=>?_);cases f with
  |next=>
   obtain⟨σ3,d,g,i⟩:=e;obtain⟨j,m,l⟩:=o σ3 d i;exact⟨j,m,σ3,d,g,l⟩
  |cont=>
   obtain⟨σ3,d,g,i⟩:=e;obtain⟨j,m,l⟩:=o σ3 d i;exact⟨j,m,σ3,d,g,l⟩
  |brk=>exact e
  |ret v=>exact e
 |false=>
  rw[if_neg B4];exact C61 ⟨σ1,H2,I2,q2⟩
end
structure It where
 go:Nat->Hp->Prop
 yld:Nat->Hp->V->Hp->Prop
 stop:Nat->Hp->Prop
def FpOk (X:Cx)(Ab:List (Addr×Obj))(H:Hp)(b:Addr):Prop:=
 H b=none/\b≠X.env.locals/\b∉X.fs/\(b∈X.ex\/X.s₀.heap.objs.size<=b)/\(∀x c,X.env.cells.lookup x=some c->c≠b)/\∀p∈X.pn++Ab,p.1≠b
theorem Inv.fpOk {X:Cx} {Ab:List (Addr×Obj)} {σ:St} {H H':Hp} {b:Addr} (I:Inv X Ab σ H s)(a:s.heap.objs.size<=b)(d:H' b=none):FpOk X Ab H' b:=by
 refine⟨d,R1 (E1 I.lt a),I.nofs a,.inr (F4 I.sz a),λx c e z=>?_,λp f z=>?_⟩
 ·obtain⟨v,q⟩:=I.cell x c e;exact absurd (E1 q.lt (by rw[z];exact a)) (Q9 _)
 ·exact absurd (E1 (B1 (I.pin p f).1) (by rw[z];exact a)) (Q9 _)
structure Turn (P:B79)(w:World)(K:Ab1)(tg:Expr)(J:It)(fp:List Addr)(it:Addr)(tn:Nat->Heap->Prop):Prop where
 mem:it∈fp
 obj:∀i h,tn i h->∀b∈fp,∃o,h.get? b=some o/\∀v,o.data≠.cell v
 keep:∀i h h',tn i h->(∀b∈fp,∀o,h.get? b=some o->h'.get? b=some o)->tn i h'
 item:∀(X:Cx),X.prog=P->X.w=w->X.K=K->X.calm=true->∀(i:Nat) (Ab:List (Addr×Obj)) (s:Shared) (σ:St) (H:Hp) (E:Aa1),Inv X Ab σ H s->(∀b∈fp,FpOk X Ab H b)->tn i s.heap->J.go i H->
  wpAny (model P w) X.A (pyNext (.ref it)) (fun r s1=>∃ u,r=some u/\
   wpAny (model P w) X.A (C62 tg (.ref it) u) (λ_ s2=>∃x H',Inv X Ab σ H' s2/\RelV x u/\J.yld i H x H'/\tn (i+1) s2.heap/\∀b∈fp,H' b=none) E s1) E s
 done:∀(X:Cx),X.prog=P->X.w=w->X.K=K->X.calm=true->∀(i:Nat) (Ab:List (Addr×Obj)) (s:Shared) (σ:St) (H:Hp) (E:Aa1),Inv X Ab σ H s->(∀b∈fp,FpOk X Ab H b)->tn i s.heap->J.stop i H->
  wpAny (model P w) X.A (pyNext (.ref it)) (λr s1=>r=none/\Inv X Ab σ H s1) E s
 self:∀(A:Around) (i:Nat) (s:Shared) (Q:Aa1) (E:Aa1),tn i s.heap->Q (.ref it) s->wpAny (model P w) A (pyIter (.ref it)) Q E s
abbrev TI:=St->Hp->(It->Hp->Prop)->Prop
def PIE (X:Cx)(Ab:List (Addr×Obj))(σ:St)(tg:Expr)(R:It->Hp->Prop)(itv:Value)(s2:Shared):Prop:=
 ∃(it:Addr) (fp:List Addr) (tn:Nat->Heap->Prop) (J:It) (H':Hp),itv=.ref it/\Inv X Ab σ H' s2/\Turn X.prog X.w X.K tg J fp it tn/\tn 0 s2.heap/\(∀b∈fp,FpOk X Ab H' b)/\R J H'
def PI (X:Cx)(tg iter:Expr)(wi:TI):Prop:=
 ∀(Ab:List (Addr×Obj)) (s:Shared) (σ:St) (H:Hp) (R:It->Hp->Prop),Inv X Ab σ H s->wi σ H R->
  wpAny (model X.prog X.w) X.A (eval iter X.env) (λv s1=>wpAny (model X.prog X.w) X.A (pyIter v) (PIE X Ab σ tg R) X.xe s1) X.xe s
theorem qSM {M:Model} {c:Expr} {b:Addr} {u:Value} {o:Obj} {n:String} {vs:Array Value} {Q:Unit->Shared->Prop} (d:s.heap.get? b=some o)(g:o.cls=.type n)(f:o.data=.fields vs)
  (e:["enumerate","zip","dict_itemiterator","dict_reverseitemiterator","odict_iterator","itertools.zip_longest","itertools.pairwise"].contains n=false) (a:Q () s):wpAny M A (C62 c (.ref b) u) Q E s:=by
 unfold C62;cases c<;>first
  |exact B76 a
  | (cases u <;> first
    |exact B76 a
    | (refine B75 (wpAny_load d ?_)
       rw[g,f];show wpAny M A (if(["enumerate","zip","dict_itemiterator","dict_reverseitemiterator","odict_iterator","itertools.zip_longest","itertools.pairwise"].contains n&&vs[0]? == some (rawInt _))=true then _ else _) Q E s
       rw[if_neg (by intro h;rw[e,A08] at h;cases h)]
       exact B76 a))
def Itl (K:Ab1)(a:Addr):It:=
 ⟨λi H=>∃xs x,SqL K H a xs/\xs[i]?=some x,λi H x H'=>H'=H/\∀xs,SqL K H a xs->xs[i]?=some x,λi H=>∃xs,SqL K H a xs/\xs.length<=i⟩
def Itt (K:Ab1)(a:Addr):It:=
 ⟨λi H=>∃xs x,SqT K H a xs/\xs[i]?=some x,λi H x H'=>H'=H/\∀xs,SqT K H a xs->xs[i]?=some x,λi H=>∃xs,SqT K H a xs/\xs.length<=i⟩
def Itr (lo:Int)(n:Nat):It:=⟨λi _=>i<n,λi H x H'=>H'=H/\x=.int (lo+i),λi _=>n<=i⟩
theorem qMQ {K:Ab1} {tg:Expr} (a j:Addr):Turn P w K tg (Itl K a) [j] j (λi h=>h.IsListIter j a i) where
 mem:=by simp
 obj:=λi h f b g=>by
  have e:b=j:=by simpa using g
  subst e;obtain⟨o,e,c,d⟩:=f;exact⟨o,e,λv z=>by rw[d] at z;cases z⟩
 keep:=λi h n f k=>f.at λo e=>k j (by simp) o e
 item:=by
  intro X hP hw r hc i Ab s σ H E I m f hg;subst hP hw r;obtain⟨xs,x,q,hx⟩:=hg;obtain⟨a0,rv,p,hz⟩:=I.list q;obtain⟨u,hu,ru⟩:=rv.get hx;obtain⟨f0,f1,f2,y,t,f5⟩:=m j (by simp)
  refine C47 f p.isList (x:=u) (by simpa using hu) λn l sb=>?_
  have I1:Inv X Ab σ H {s with heap:=n}:=I.turned (t':=s.toks) (λb o g e=>(sb.2 b g).trans e) f0 f1 y t f5;obtain⟨o,e,c,d⟩:=id l;exact⟨u,rfl,qSM (s:={s with heap:=n}) e c d (by decide) ⟨x,H,I1,ru,⟨rfl,λys hy=>by rw[I.list_inj hy q];exact hx⟩,l,λb g=>(m b g).1⟩⟩
 done:=by
  intro X hP hw r hc i Ab s σ H E I m f hg;subst hP hw r;obtain⟨xs,q,hx⟩:=hg;obtain⟨a0,rv,p,hz⟩:=I.list q;obtain⟨f0,f1,f2,y,t,f5⟩:=m j (by simp)
  have hl:=rv.length;exact C57 (I.ok.hd hc) f p.isList (by simp;lia) λn eb=>⟨rfl,I.turned (t':=s.toks) (λb o g e=>eb b o g e) f0 f1 y t f5⟩
 self:=λ_ _ _ _ _ f h=>wpAny_pyIter_listiter f h
theorem qKD {K:Ab1} {tg:Expr} (a j:Addr):Turn P w K tg (Itt K a) [j] j (λi h=>h.IsTupleIter j a i) where
 mem:=by simp
 obj:=λi h f b g=>by
  have e:b=j:=by simpa using g
  subst e;obtain⟨o,e,c,d⟩:=f;exact⟨o,e,λv z=>by rw[d] at z;cases z⟩
 keep:=λi h q f k=>f.at λo e=>k j (by simp) o e
 item:=by
  intro X hP hw t hc i Ab s σ H E I n f hg;subst hP hw t;obtain⟨xs,x,r,hx⟩:=hg;obtain⟨l,rv,p,hz⟩:=I.tuple r;obtain⟨u,hu,ru⟩:=rv.get hx;obtain⟨f0,f1,f2,f3,y,f5⟩:=n j (by simp)
  refine wpAny_pyNext_tuple_item f (show s.heap.IsTuple a l.toArray from p) (x:=u) (by simpa using hu) λq m sb=>?_
  have I1:Inv X Ab σ H {s with heap:=q}:=I.turned (t':=s.toks) (λb o g e=>(sb.2 b g).trans e) f0 f1 f3 y f5;obtain⟨o,e,c,d⟩:=id m;exact⟨u,rfl,qSM (s:={s with heap:=q}) e c d (by decide) ⟨x,H,I1,ru,⟨rfl,λys hy=>by rw[I.tuple_inj hy r];exact hx⟩,m,λb g=>(n b g).1⟩⟩
 done:=by
  intro X hP hw t hc i Ab s σ H E I n f hg;subst hP hw t;obtain⟨xs,r,hx⟩:=hg;obtain⟨l,rv,p,hz⟩:=I.tuple r;obtain⟨f0,f1,f2,f3,y,f5⟩:=n j (by simp)
  have hl:=rv.length;exact wpAny_pyNext_tuple_end (I.ok.hd hc) f (show s.heap.IsTuple a l.toArray from p) (by simp;lia) λq eb=>⟨rfl,I.turned (t':=s.toks) (λb o g e=>eb b o g e) f0 f1 f3 y f5⟩
 self:=λ_ _ _ _ _ f h=>wpAny_pyIter_tupleiter f h
theorem qRX {K:Ab1} {tg:Expr} (c:Addr)(lo:Int)(n:Nat):Turn P w K tg (Itr lo n) [c] c (λi h=>IsRangeIter h c (lo+(i:Nat)*1) ((n:Int)-(i:Nat)) 1) where
 mem:=by simp
 obj:=λi h a b d=>by
  have e:b=c:=by simpa using d
  subst e;exact⟨_,a,λv z=>by
   have z':A26 _=A14 v:=z;cases z'⟩
 keep:=λi h j a k=>k c (by simp) _ a
 item:=by
  intro X y r l p i Ab s σ H E I g a u;subst y r l;obtain⟨x,f1,f2,q,m,f5⟩:=g c (by simp)
  have W:=Walks.range (prog:=X.prog) (w:=X.w) (I.ok.hd p) c lo 1 n;refine W.item i s _ _ u a λv j tk hv f kk=>?_;obtain⟨t,rfl⟩:=hv;have I1:Inv X Ab σ H {s with heap:=j,toks:=tk}:=I.turned (λb o d e=>kk b o (by simpa using d) e) x f1 q m f5
  refine⟨_,rfl,qSM (s:={s with heap:=j,toks:=tk}) (n:="range_iterator") f rfl rfl (by decide) ⟨.int (lo+i),H,I1,⟨t,?_⟩,⟨rfl,rfl⟩,f,λb d=>(g b d).1⟩⟩
  rw[Int.mul_one]
 done:=by
  intro X y r l p i Ab s σ H E I g a u;subst y r l;obtain⟨x,f1,f2,q,m,f5⟩:=g c (by simp)
  exact wpAny_pyNext_range_end (I.ok.hd p) a (by have:n<=i:=u;lia) λj eb=>⟨rfl,I.turned (t':=s.toks) (λb o d e=>eb b o d e) x f1 q m f5⟩
 self:=λ_ _ _ _ _ a h=>wpAny_pyIter_rangeiter a h
section
variable{X:Cx}{tg:Expr}
def qeF (K:Ab1)(tl:TE):TI:=λσ H R=>tl σ H λx H1=>∃a,x=.ref a/\(∃xs,SqL K H1 a xs)/\R (Itl K a) H1
def iTup (K:Ab1)(tl:TE):TI:=λσ H R=>tl σ H λx H1=>∃a,x=.ref a/\(∃xs,SqT K H1 a xs)/\R (Itt K a) H1
theorem qCX {l:Expr} {c:TE} (f:PE X l c):PI X tg l (qeF X.K c):=by
 intro i s σ H R I h;refine thn (f i s σ H _ I h) λv s1 ⟨x,H1,I1,r1,q1⟩=>?_;obtain⟨a,e,⟨m,j⟩,q⟩:=q1;subst e;cases r1;obtain⟨d,n,p,k⟩:=I1.list j;refine C01 p.isList ?_;refine⟨s1.heap.objs.size,[s1.heap.objs.size],_,_,H1,rfl,I1.kept (t':=s1.toks) λb o e=>A3 _ e,qMQ a _,⟨_,A9 _ rfl,rfl,rfl⟩,λb g=>?_,q⟩;have e:b=s1.heap.objs.size:=by simpa using g
 subst e;exact I1.fpOk (A6 _) (I1.hok.fresh (A6 _))
theorem qCT {l:Expr} {d:TE} (f:PE X l d):PI X tg l (iTup X.K d):=by
 intro i s σ H R I h;refine thn (f i s σ H _ I h) λv s1 ⟨x,H1,I1,r1,q1⟩=>?_;obtain⟨a,e,⟨m,j⟩,q⟩:=q1;subst e;cases r1;obtain⟨c,n,p,k⟩:=I1.tuple j;refine C38 (show s1.heap.IsTuple a c.toArray from p) ?_;refine⟨s1.heap.objs.size,[s1.heap.objs.size],_,_,H1,rfl,I1.kept (t':=s1.toks) λb o e=>A3 _ e,qKD a _,⟨_,A9 _ rfl,rfl,rfl⟩,λb g=>?_,q⟩;have e:b=s1.heap.objs.size:=by simpa using g
 subst e;exact I1.fpOk (A6 _) (I1.hok.fresh (A6 _))
theorem range_it {Ab:List (Addr×Obj)} {σ:St} {H:Hp} {R:It->Hp->Prop} {lo hi:Int} {t u v:Tok} {tk:Nat} (I:Inv X Ab σ H s)(f : -(2^62)<=lo)(c:lo<2^62)(j : -(2^62)<=hi)(h:hi<2^62)
  (q:R (Itr lo (hi-lo).toNat) H):wpAny (model X.prog X.w) X.A (pyIter (.ref s.heap.objs.size)) (PIE X Ab σ tg R) E {s with heap:=s.heap.push {cls:=.type "range",data:=.fields #[.int lo t,.int hi u,.int 1 v]},toks:=tk}:=by
 refine wpAny_pyIter_range (B71 ..) (small_one f c j h) ?_;have a:Inv X Ab σ H {s with heap:=s.heap.push {cls:=.type "range",data:=.fields #[.int lo t,.int hi u,.int 1 v]},toks:=tk}:=I.kept λb o e=>A3 _ e;refine⟨(s.heap.push {cls:=.type "range",data:=.fields #[.int lo t,.int hi u,.int 1 v]}).objs.size,[(s.heap.push {cls:=.type "range",data:=.fields #[.int lo t,.int hi u,.int 1 v]}).objs.size],_,_,H,rfl,
  a.kept (t':=tk) λb o e=>A3 _ e,qRX _ lo (hi-lo).toNat,?_,λb g=>?_,q⟩
 ·have i:lo+((0:Nat):Int)*1=lo:=by simp
  have d:(((hi-lo).toNat:Nat):Int)-((0:Nat):Int)=R0 lo hi 1:=by rw[rangeSize_one];split<;>lia
  show IsRangeIter _ _ (lo+((0:Nat):Int)*1) ((((hi-lo).toNat:Nat):Int)-((0:Nat):Int)) 1;rw[i,d];exact A9 _ rfl
 ·have e:b=(s.heap.push {cls:=.type "range",data:=.fields #[.int lo t,.int hi u,.int 1 v]}).objs.size:=by simpa using g
  subst e;exact a.fpOk (A6 _) (a.hok.fresh (A6 _))
def qeE (ta:TA):TI:=λσ H R=>ta σ H λvs H1=>∃j:Int,vs=[.int j]/\-(2^62)<=j/\j<2^62/\R (Itr 0 j.toNat) H1
theorem qB8 {a:Expr} {b:TA} {p pos:Pos} (i:Gl X "range") (g:X.mg "range" = none) (c:PA X [a] b) (k:B84 [a] X.env=[(false,eval a X.env)]:=by rfl):PI X tg (.Call (.Name "range" p) [a] [] pos) (qeE b):=by
 intro d s σ H R I h;refine Call_ (qFR I i g boot_range (J3 (thn (c pos d s σ H _ I h) λus s1 ⟨vs,H1,I1,r1,q1⟩=>?_) k rfl));obtain⟨j,e,q1,f,q⟩:=q1;subst e;cases r1 with
 |cons r rr=>
  cases rr;obtain⟨t,rfl⟩:=r;exact call_range_1 (range_it I1 (by lia) (by lia) q1 f (by simpa using q))
def tFor (wi:TI)(g:TG)(tb:TS):TS:=λD σ H=>wi σ H λJ H1=>∃W:Nat->Nat->St->Hp->Prop,(∃m,W 0 m σ H1)/\∀i m σ H,W i m σ H->
 (J.stop i H/\D.nx σ H)\/(J.go i H/\∃N:St->Hp->Prop,(∀σ' H',N σ' H'->∃m',m'<m/\W (i+1) m' σ' H')/\∀x H',J.yld i H x H'->g x σ H' λσ2 H2=>tb {D with nx:=N,ct:=N,bk:=D.nx} σ2 H2)
noncomputable def qN8 (fp:List Addr)(h:Heap):List (Addr×Obj):=fp.filterMap λb=>(h.get? b).map λo=>(b,o)
theorem qFF {a:List Addr} {h:Heap} {b:Addr} {o:Obj} (c:b∈a)(e:h.get? b=some o):(b,o)∈qN8 a h:=P2.mpr ⟨b,c,by rw[e];rfl⟩
theorem qUH {a:List Addr} {h:Heap} {p:Addr×Obj} (d:p∈qN8 a h):p.1∈a/\h.get? p.1=some p.2:=by
 obtain⟨b,c,e⟩:=P2.mp d;cases q:h.get? b with
 |none=>rw[q] at e;cases e
 |some o=>
  rw[q] at e;have f:(b,o)=p:=D7 e;subst f;exact⟨c,q⟩
theorem Inv.pinned {Ab:List (Addr×Obj)} {σ:St} {H:Hp} {a:List Addr} (I:Inv X Ab σ H s)(h:∀b∈a,FpOk X Ab H b)(g:∀b∈a,∃o,s.heap.get? b=some o/\∀v,o.data≠.cell v):Inv X (Ab++qN8 a s.heap) σ H s:=
 I.pins_of λp j=>(B0.mp j).elim (λz=>I.pin p (G2 _ z)) λz=>by
  obtain⟨f,e⟩:=qUH z;obtain⟨i,k,l,_⟩:=h p.1 f;obtain⟨o,c,d⟩:=g p.1 f;rw[e] at c;cases c;exact⟨e,i,k,l,d⟩
theorem Inv.unpinned {Ab a:List (Addr×Obj)} {σ:St} {H:Hp} (I:Inv X (Ab++a) σ H s):Inv X Ab σ H s:=I.pins_of λp b=>I.pin p (G2 _ (n6 _ b))
theorem qBZ {c:Expr} {body:List Stmt} {wi:TI} {g:TG} {tb:TS} {pos:Pos} (hp:PassesOwn (model X.prog X.w) X.A X.env X.xe)(hc:X.calm=true)(hi:PI X tg c wi)(hg:PG X tg g)(a:PSs X body tb)
  (hs:∀x,C46 c X.env x=pure x:=by intro _;rfl):PS X (.For tg c body [] pos) (tFor wi g tb):=by
 intro q s σ H D I h;refine wpAny_For (thn (hi q s σ H _ I h) λv s1 h1=>thn h1 λa4 s2 h2=>?_) hs;obtain⟨it,t,tn,J,H2,e,I2,T,a2,f2,W,⟨m0,w0⟩,y⟩:=h2;subst e
 -- what stays true of the iterator's objects through the loop
 have j:∀{H':Hp},(∀b∈t,H' b=none)->∀b∈t,FpOk X q H' b:=λhn b a=>⟨hn b a,(f2 b a).2⟩;refine codeAny_forLoop_any (λn s'=>∃i σ' H',Inv X q σ' H' s'/\tn i s'.heap/\(∀b∈t,H' b=none)/\W i n σ' H') ?_ m0 ⟨0,σ,H2,I2,a2,λb a=>(f2 b a).1,w0⟩;rintro n s3 ⟨i,σ3,H3,I3,st3,fr3,w3⟩;rcases y i n σ3 H3 w3 with⟨a0,qn⟩|⟨go,N,hN,a1⟩
 ·refine C15 hp (thn (T.done X rfl rfl rfl hc i q s3 σ3 H3 X.xe I3 (j fr3) st3 a0) λr s4 ⟨hr,I4⟩=>?_);subst hr;exact C61 ⟨σ3,H3,I4,qn⟩
 ·refine C15 hp (thn (T.item X rfl rfl rfl hc i q s3 σ3 H3 X.xe I3 (j fr3) st3 go) λr s4 ⟨u,hr,h4⟩=>?_);subst hr;refine C15 hp (thn h4 λ_ s5 ⟨x,H5,I5,r5,y5,st5,fr5⟩=>?_);have a3:=I5.pinned (j fr5) (T.obj _ _ st5);refine C15 hp (thn (hg _ s5 σ3 H5 x u _ a3 r5 (a1 x H5 y5)) λ_ s6 ⟨σ6,H6,I6,q6⟩=>?_);refine C15 hp (thn (a _ s6 σ6 H6 _ I6 q6) λf s7 p=>?_);have l:∀{σ7:St} {H7:Hp},Inv X (q++qN8 t s5.heap) σ7 H7 s7->N σ7 H7->∃m,m<n/\∃i σ' H',Inv X q σ' H' s7/\tn i s7.heap/\(∀b∈t,H' b=none)/\W i m σ' H':=λ{σ7 H7} k z=>by
   obtain⟨m',hm,w7⟩:=hN σ7 H7 z;refine⟨m',hm,i+1,σ7,H7,k.unpinned,T.keep _ _ _ st5 λb a o e=>(k.pin (b,o) (G2 _ (G2 _ (qFF a e)))).1,λb a=>?_,w7⟩;obtain⟨o,e,d⟩:=T.obj _ _ st5 b a;exact(k.pin (b,o) (G2 _ (G2 _ (qFF a e)))).2.1
  cases f with
  |next=>obtain⟨σ7,H7,k,z⟩:=p;exact l k z
  |cont=>obtain⟨σ7,H7,k,z⟩:=p;exact l k z
  |brk=>obtain⟨σ7,H7,k,p⟩:=p;exact⟨σ7,H7,k.unpinned,p⟩
  |ret v=>obtain⟨x7,σ7,H7,k,r7,p⟩:=p;exact⟨x7,σ7,H7,k.unpinned,r7,p⟩
end
abbrev ForG (I:It)(g:TG)(tb:TS)(D:Ends)(σ:St)(H:Hp):Prop:=∃W:Nat->Nat->St->Hp->Prop,(∃m,W 0 m σ H)/\∀i m σ H,W i m σ H->(I.stop i H/\D.nx σ H)\/(I.go i H/\∃N:St->Hp->Prop,(∀σ' H',N σ' H'->∃m',m'<m/\W (i+1) m' σ' H')/\∀x H',I.yld i H x H'->g x σ H' λσ2 H2=>tb {D with nx:=N,ct:=N,bk:=D.nx} σ2 H2)
theorem qLZ {K:Ab1} {a:Addr} {xs:List V} {g:TG} {c:TS} {D:Ends} {σ:St} {H:Hp} (Pv:Nat->St->Hp->Prop)(d:Pv 0 σ H)(f:∀i σ H,i<=xs.length->Pv i σ H->SqL K H a xs)
  (l:∀i x σ H,xs[i]?=some x->Pv i σ H->g x σ H λσ2 H2=>c {D with nx:=Pv (i+1),ct:=Pv (i+1),bk:=D.nx} σ2 H2) (k:∀σ H,Pv xs.length σ H->D.nx σ H):
  ForG (Itl K a) g c D σ H:=by
 refine⟨λi m σ H=>m=xs.length-i/\i<=xs.length/\Pv i σ H,⟨xs.length,by simp,E7 _,d⟩,?_⟩
 rintro i m σ H ⟨rfl,hi,p⟩;have q:=f i σ H hi p;by_cases b:i<xs.length
 ·refine .inr ⟨⟨xs,xs[i],q,by simp[b]⟩,Pv (i+1),λσ' h j=>⟨xs.length-(i+1),by lia,rfl,b,j⟩,λx h y=>?_⟩
  obtain⟨e,y⟩:=y;subst e;exact l i x σ _ (y xs q) p
 ·have e:i=xs.length:=by lia
  subst e;exact .inl ⟨⟨xs,q,A6 _⟩,k σ H p⟩
theorem qG0 {K:Ab1} {a:Addr} {xs:List V} {g:TG} {c:TS} {D:Ends} {σ:St} {H:Hp} (Pv:Nat->St->Hp->Prop)(d:Pv 0 σ H)(f:∀i σ H,i<=xs.length->Pv i σ H->SqT K H a xs)
  (l:∀i x σ H,xs[i]?=some x->Pv i σ H->g x σ H λσ2 H2=>c {D with nx:=Pv (i+1),ct:=Pv (i+1),bk:=D.nx} σ2 H2) (k:∀σ H,Pv xs.length σ H->D.nx σ H):
  ForG (Itt K a) g c D σ H:=by
 refine⟨λi m σ H=>m=xs.length-i/\i<=xs.length/\Pv i σ H,⟨xs.length,by simp,E7 _,d⟩,?_⟩
 rintro i m σ H ⟨rfl,hi,p⟩;have q:=f i σ H hi p;by_cases b:i<xs.length
 ·refine .inr ⟨⟨xs,xs[i],q,by simp[b]⟩,Pv (i+1),λσ' h j=>⟨xs.length-(i+1),by lia,rfl,b,j⟩,λx h y=>?_⟩
  obtain⟨e,y⟩:=y;subst e;exact l i x σ _ (y xs q) p
 ·have e:i=xs.length:=by lia
  subst e;exact .inl ⟨⟨xs,q,A6 _⟩,k σ H p⟩
theorem qE0 {lo:Int} {n:Nat} {g:TG} {b:TS} {D:Ends} {σ:St} {H:Hp} (Pv:Nat->St->Hp->Prop)(c:Pv 0 σ H)
  (j:∀i σ H,i<n->Pv i σ H->g (.int (lo+i)) σ H λσ2 H2=>b {D with nx:=Pv (i+1),ct:=Pv (i+1),bk:=D.nx} σ2 H2) (h:∀σ H,Pv n σ H->D.nx σ H):
  ForG (Itr lo n) g b D σ H:=by
 refine⟨λi m σ H=>m=n-i/\i<=n/\Pv i σ H,⟨n,by simp,E7 _,c⟩,?_⟩
 rintro i m σ H ⟨rfl,hi,p⟩;by_cases a:i<n
 ·refine .inr ⟨a,Pv (i+1),λσ' d f=>⟨n-(i+1),by lia,rfl,a,f⟩,λx d y=>?_⟩
  obtain⟨e,y⟩:=y;subst e y;exact j i σ _ a p
 ·have e:i=n:=by lia
  subst e;exact .inl ⟨A6 _,h σ H p⟩
abbrev R2:=V->V->Hp->VK->Prop
def OpR (X:Cx)(f:Value->Value->Sem Value)(r:R2):Prop:=
 ∀(Ab:List (Addr×Obj)) (s:Shared) (σ:St) (H:Hp) (x y:V) (v u:Value) (Q:VK),Inv X Ab σ H s->RelV x v->RelV y u->r x y H Q->
  wpAny (model X.prog X.w) X.A (f v u) (EP X Ab σ Q) X.xe s
def UnR (X:Cx)(f:Value->Sem Value)(r:V->Hp->VK->Prop):Prop:=
 ∀(Ab:List (Addr×Obj)) (s:Shared) (σ:St) (H:Hp) (x:V) (v:Value) (Q:VK),Inv X Ab σ H s->RelV x v->r x H Q->
  wpAny (model X.prog X.w) X.A (f v) (EP X Ab σ Q) X.xe s
def qCF (X:Cx)(f:Value)(r:List V->Hp->VK->Prop):Prop:=
 ∀(Ab:List (Addr×Obj)) (s:Shared) (σ:St) (H:Hp) (xs:List V) (us:List Value) (Q:VK),Inv X Ab σ H s->Vals xs us->r xs H Q->
  wpAny (model X.prog X.w) X.A (call f us) (EP X Ab σ Q) X.xe s
def TruR (X:Cx)(r:V->Hp->(Bool->Hp->Prop)->Prop):Prop:=
 ∀(Ab:List (Addr×Obj)) (s:Shared) (σ:St) (H:Hp) (x:V) (v:Value) (Q:Bool->Hp->Prop),Inv X Ab σ H s->RelV x v->r x H Q->
  wpAny (model X.prog X.w) X.A (truthy v) (TP X Ab σ Q) X.xe s
def tOp (r:R2)(ta tb:TE):TE:=λσ H Q=>ta σ H λx H1=>tb σ H1 λy H2=>r x y H2 Q
def tUn (r:V->Hp->VK->Prop)(ta:TE):TE:=λσ H Q=>ta σ H λx H1=>r x H1 Q
def rI (C:Int->Int->Prop)(g:Int->Int->V):R2:=λx y H Q=>∃i j,x=.int i/\y=.int j/\C i j/\Q (g i j) H
def rI0 (g:Int->Int->V):R2:=λx y H Q=>∃i j,x=.int i/\y=.int j/\Q (g i j) H
def rU (g:Int->V):V->Hp->VK->Prop:=λx H Q=>∃i,x=.int i/\Q (g i) H
section
variable{X:Cx}{a b c:Expr}{ta tb tc:TE}{pos:Pos}
theorem binT (c:PE X a ta)(d:PE X b tb){Ab:List (Addr×Obj)}{s:Shared}{σ:St}{H:Hp}{R:V->V->Hp->Prop}(I:Inv X Ab σ H s)
  (h:ta σ H λx H1=>tb σ H1 λy H2=>R x y H2) {Q:Aa1} {f:Value->Value->Sem Value}
  (e:∀v u s2 x y H2,Inv X Ab σ H2 s2->RelV x v->RelV y u->R x y H2->wpAny (model X.prog X.w) X.A (f v u) Q X.xe s2):
  wpAny (model X.prog X.w) X.A (eval a X.env) (λv s₁=>wpAny (model X.prog X.w) X.A (eval b X.env) (λu s₂=>wpAny (model X.prog X.w) X.A (f v u) Q X.xe s₂) X.xe s₁) X.xe s:=by
 refine thn (c Ab s σ H _ I h) λv s1 ⟨x,H1,I1,r1,q1⟩=>?_;refine thn (d Ab s1 σ H1 _ I1 q1) λu s2 ⟨y,H2,I2,r2,q2⟩=>?_;exact e v u s2 x y H2 I2 r1 r2 q2
theorem qAR {op:Operator} {r:R2} (d:OpR X (C04 op) r)(c:PE X a ta)(i:PE X b tb):PE X (.BinOp a op b pos) (tOp r ta tb):=by
 intro j s σ H Q I h;exact wpAny_BinOp (binT c i I h λv u g x y l f k e q=>d j g σ l x y v u Q f k e q)
theorem qOW {op:UnaryOp} {r:V->Hp->VK->Prop} (d:UnR X (unaryOp op) r)(c:PE X a ta):PE X (.UnaryOp op a pos) (tUn r ta):=by
 intro b s σ H Q I h;exact UnaryOp_ (thn (c b s σ H _ I h) λv s1 ⟨x,H1,I1,r1,q1⟩=>d b s1 σ H1 x v Q I1 r1 q1)
theorem opI {f:Value->Value->Sem Value} {C:Int->Int->Prop} {g:Int->Int->Int} 
  (a:∀(i j:Int) (t u:Tok) (s:Shared) (Q:Aa1) (E:Aa1),C i j->Q (.int (g i j) s.toks) {s with toks:=s.toks+1}->wpAny (model X.prog X.w) X.A (f (.int i t) (.int j u)) Q E s):
  OpR X f (rI C λi j=>.int (g i j)):=by
 intro k s σ H x y v u Q I d c h;obtain⟨i,j,rfl,rfl,e,q⟩:=h;obtain⟨t,rfl⟩:=d;obtain⟨b,rfl⟩:=c;exact a i j t b s _ _ e ⟨.int (g i j),H,I.tok _,⟨_,rfl⟩,q⟩
theorem opI0 {f:Value->Value->Sem Value} {g:Int->Int->Int} 
  (a:∀(i j:Int) (t u:Tok) (s:Shared) (Q:Aa1) (E:Aa1),Q (.int (g i j) s.toks) {s with toks:=s.toks+1}->wpAny (model X.prog X.w) X.A (f (.int i t) (.int j u)) Q E s):
  OpR X f (rI0 λi j=>.int (g i j)):=by
 intro e s σ H x y v u Q I d c h;obtain⟨i,j,rfl,rfl,q⟩:=h;obtain⟨t,rfl⟩:=d;obtain⟨b,rfl⟩:=c;exact a i j t b s _ _ ⟨.int (g i j),H,I.tok _,⟨_,rfl⟩,q⟩
theorem opB0 {f:Value->Value->Sem Value} {g:Int->Int->Bool} 
  (a:∀(i j:Int) (t u:Tok) (s:Shared) (Q:Aa1) (E:Aa1),Q (.bool (g i j)) s->wpAny (model X.prog X.w) X.A (f (.int i t) (.int j u)) Q E s):
  OpR X f (rI0 λi j=>.bl (g i j)):=by
 intro e s σ H x y v u Q I d c h;obtain⟨i,j,rfl,rfl,q⟩:=h;obtain⟨t,rfl⟩:=d;obtain⟨b,rfl⟩:=c;exact a i j t b s _ _ ⟨.bl (g i j),H,I,rfl,q⟩
def CDiv (i j:Int):Prop:=0<j/\j<1073741824
def CPow (i j:Int):Prop:=0<=j/\j<=1000000/\i.natAbs<2^64
def CMul (i j:Int):Prop:=(-(2^64)<i/\i<2^64)\/(-(2^64)<j/\j<2^64)
theorem CMul.ok {i j:Int} (h:CMul i j):IntMulOk i j:=by
 rcases h with⟨a,b⟩|⟨a,b⟩
 ·exact .of_left (intBits_le_64 a b)
 ·exact .of_right (intBits_le_64 a b)
theorem qRW (k:Nat):(0:Int)<=2^k:=by
 rw[two_pow_cast];exact X2 _
theorem qEH:OpR X (C04 .Add) (rI0 λi j=>.int (i+j)):=opI0 λ_ _ _ _ _ _ _ q=>add_int q
theorem qD0:OpR X (C04 .Sub) (rI0 λi j=>.int (i-j)):=opI0 λ_ _ _ _ _ _ _ q=>sub_int q
theorem qJ0:OpR X (C04 .Mult) (rI CMul λi j=>.int (i*j)):=opI λ_ _ _ _ _ _ _ a q=>mul_int q a.ok
theorem qOZ:OpR X (C04 .FloorDiv) (rI CDiv λi j=>.int (i/j)):=opI λi j _ _ _ _ _ a q=>by
 have b:(0:Int)<j:=a.1;have c:j<1073741824:=a.2;exact floordiv_int (by lia) (by rw[Y3 i (by lia)];exact q) (.inl (d0 (by lia)))
theorem qJ1:OpR X (C04 .Mod) (rI (λ_ j=>0<j) λi j=>.int (i%j)):=opI λi j _ _ _ _ _ a q=>by
 have b:(0:Int)<j:=a;exact mod_int' (by lia) (by rw[w5 i (by lia)];exact q)
theorem qc9:OpR X (C04 .Pow) (rI CPow λi j=>.int (i^j.toNat)):=opI λ_ _ _ _ _ _ _ a q=>pow_int_small a.1 a.2.1 a.2.2 q
theorem qQX:OpR X (C04 .LShift) (rI CPow λi j=>.int (i*2^j.toNat)):=opI λ_ _ _ _ _ _ _ a q=>lshift_int_small a.1 a.2.1 a.2.2 q
theorem qZ5:OpR X (C04 .RShift) (rI (λ_ j=>0<=j) λi j=>.int (i/2^j.toNat)):=opI λi j _ _ _ _ _ a q=>
 rshift_int a (by rw[Y3 i (qRW _)];exact q)
theorem qQZ:OpR X (C04 .BitAnd) (rI0 λi j=>.int (U1 i j)):=opI0 λ_ _ _ _ _ _ _ q=>and_int q
theorem qe3:OpR X (C04 .BitOr) (rI0 λi j=>.int (A88 i j)):=opI0 λ_ _ _ _ _ _ _ q=>or_int q
theorem unI {f:Value->Sem Value} {g:Int->Int} 
  (a:∀(i:Int) (t:Tok) (s:Shared) (Q:Aa1) (E:Aa1),Q (.int (g i) s.toks) {s with toks:=s.toks+1}->wpAny (model X.prog X.w) X.A (f (.int i t)) Q E s):
  UnR X f (rU λi=>.int (g i)):=by
 intro c s σ H x v Q I b h;obtain⟨i,rfl,q⟩:=h;obtain⟨t,rfl⟩:=b;exact a i t s _ _ ⟨.int (g i),H,I.tok _,⟨_,rfl⟩,q⟩
theorem qII:UnR X (unaryOp .USub) (rU λi=>.int (-i)):=unI λ_ _ _ _ _ q=>neg_int q
end
noncomputable def scal:V->V->Bool
 |.non,.non=>true|.non,.int _=>true|.int _,.non=>true|.non,.bl _=>true|.bl _,.non=>true|.non,.str _=>true|.str _,.non=>true
 |.int _,.int _=>true|.bl _,.bl _=>true|.str _,.str _=>true|.byt _,.byt _=>true
 |.int _,.str _=>true|.str _,.int _=>true|.bl _,.str _=>true|.str _,.bl _=>true
 |_,_=>false
def rEq:R2:=λx y H Q=>scal x y=true/\Q (.bl (decide (x=y))) H
def rNe:R2:=λx y H Q=>scal x y=true/\Q (.bl (!decide (x=y))) H
theorem qVY {i j:Int} :decide (V.int i=V.int j)=(i==j):=by
 rw[O1];simp
theorem qZI {i j:Bool} :decide (V.bl i=V.bl j)=(i==j):=by
 rw[O1];simp
theorem qVX {i j:Str} :decide (V.str i=V.str j)=(i==j):=by
 rw[O1];simp
theorem qVZ {i j:Array UInt8} :decide (V.byt i=V.byt j)=(i.toList==j.toList):=by
 rw[O1];cases i;cases j;simp
section
variable{X:Cx}{a b c:Expr}{ta tb tc:TE}{pos:Pos}
theorem qBE {Ab:List (Addr×Obj)} {σ:St} {H:Hp} {Q:VK} {k a:Bool} (I:Inv X Ab σ H s)(q:Q (.bl k) H)(e:k=a):EP X Ab σ Q (.bool a) s:=by
 subst e;exact⟨.bl k,H,I,rfl,q⟩
theorem qET:OpR X (B95 .Eq) rEq:=by
 intro e s σ H x y v u Q I d a h;obtain⟨c,q⟩:=h;cases x with
 |non=>
  cases d;cases y with
  |non=>cases a;exact PySem.EqNone.eq_none_none (qBE I q (by simp))
  |bl j=>cases a;exact PySem.EqNone.eq_none_bool (qBE I q (by simp))
  |int j=>obtain⟨b,rfl⟩:=a;exact PySem.EqNone.eq_none_int (qBE I q (by simp))
  |str j=>obtain⟨b,rfl⟩:=a;exact PySem.EqNone.eq_none_str (qBE I q (by simp))
  |_=>exact absurd (show false=true from c) B4
 |bl i=>
  cases d;cases y with
  |non=>cases a;exact PySem.EqNone.eq_bool_none (qBE I q (by simp))
  |bl j=>cases a;exact eq_bool (qBE I q qZI)
  |str j=>obtain⟨b,rfl⟩:=a;exact PySem.EqMixed.eq_bool_str (qBE I q (by simp))
  |_=>exact absurd (show false=true from c) B4
 |int i=>
  obtain⟨t,rfl⟩:=d;cases y with
  |non=>cases a;exact PySem.EqNone.eq_int_none (qBE I q (by simp))
  |int j=>obtain⟨b,rfl⟩:=a;exact eq_int (qBE I q qVY)
  |str j=>obtain⟨b,rfl⟩:=a;exact PySem.EqMixed.eq_int_str (qBE I q (by simp))
  |_=>exact absurd (show false=true from c) B4
 |str i=>
  obtain⟨t,rfl⟩:=d;cases y with
  |non=>cases a;exact PySem.EqNone.eq_str_none (qBE I q (by simp))
  |bl j=>cases a;exact PySem.EqMixed.eq_str_bool (qBE I q (by simp))
  |int j=>obtain⟨b,rfl⟩:=a;exact PySem.EqMixed.eq_str_int (qBE I q (by simp))
  |str j=>obtain⟨b,rfl⟩:=a;exact eq_str (qBE I q qVX)
  |_=>exact absurd (show false=true from c) B4
 |byt i=>
  obtain⟨t,rfl⟩:=d;cases y with
  |byt j=>obtain⟨b,rfl⟩:=a;exact PySem.W.eq_bytes (qBE I q qVZ)
  |_=>exact absurd (show false=true from c) B4
 |_=>cases y<;>exact absurd (show false=true from c) B4
theorem qUE:OpR X (B95 .NotEq) rNe:=by
 intro e s σ H x y v u Q I d a h;obtain⟨c,q⟩:=h;cases x with
 |non=>
  cases d;cases y with
  |non=>cases a;exact PySem.EqNone.ne_none_none (qBE I q (by simp))
  |bl j=>cases a;exact PySem.EqNone.ne_none_bool (qBE I q (by simp))
  |int j=>obtain⟨b,rfl⟩:=a;exact PySem.EqNone.ne_none_int (qBE I q (by simp))
  |str j=>obtain⟨b,rfl⟩:=a;exact PySem.EqNone.ne_none_str (qBE I q (by simp))
  |_=>exact absurd (show false=true from c) B4
 |bl i=>
  cases d;cases y with
  |non=>cases a;exact PySem.EqNone.ne_bool_none (qBE I q (by simp))
  |bl j=>cases a;exact ne_bool (qBE I q (congrArg not qZI))
  |str j=>obtain⟨b,rfl⟩:=a;exact PySem.EqMixed.ne_bool_str (qBE I q (by simp))
  |_=>exact absurd (show false=true from c) B4
 |int i=>
  obtain⟨t,rfl⟩:=d;cases y with
  |non=>cases a;exact PySem.EqNone.ne_int_none (qBE I q (by simp))
  |int j=>obtain⟨b,rfl⟩:=a;exact ne_int (qBE I q (congrArg not qVY))
  |str j=>obtain⟨b,rfl⟩:=a;exact PySem.EqMixed.ne_int_str (qBE I q (by simp))
  |_=>exact absurd (show false=true from c) B4
 |str i=>
  obtain⟨t,rfl⟩:=d;cases y with
  |non=>cases a;exact PySem.EqNone.ne_str_none (qBE I q (by simp))
  |bl j=>cases a;exact PySem.EqMixed.ne_str_bool (qBE I q (by simp))
  |int j=>obtain⟨b,rfl⟩:=a;exact PySem.EqMixed.ne_str_int (qBE I q (by simp))
  |str j=>obtain⟨b,rfl⟩:=a;exact ne_str (qBE I q (congrArg not qVX))
  |_=>exact absurd (show false=true from c) B4
 |byt i=>
  obtain⟨t,rfl⟩:=d;cases y with
  |byt j=>obtain⟨b,rfl⟩:=a;exact PySem.W.ne_bytes (qBE I q (congrArg not qVZ))
  |_=>exact absurd (show false=true from c) B4
 |_=>cases y<;>exact absurd (show false=true from c) B4
theorem qOY:OpR X (B95 .Lt) (rI0 λi j=>.bl (decide (i<j))):=opB0 λ_ _ _ _ _ _ _ q=>lt_int q
theorem qcA:OpR X (B95 .LtE) (rI0 λi j=>.bl (decide (i<=j))):=opB0 λ_ _ _ _ _ _ _ q=>le_int q
theorem qXL:OpR X (B95 .Gt) (rI0 λi j=>.bl (decide (j<i))):=opB0 λ_ _ _ _ _ _ _ q=>gt_int q
theorem qXM:OpR X (B95 .GtE) (rI0 λi j=>.bl (decide (j<=i))):=opB0 λ_ _ _ _ _ _ _ q=>ge_int q
theorem qAY (b:Expr){op:CmpOp}(h:op≠.In:=by decide)(c:op≠.NotIn:=by decide):C18 op b=false:=by
 have a:(op==CmpOp.In)=false:=by cases op<;>first|rfl|exact absurd rfl h
 have d:(op==CmpOp.NotIn)=false:=by cases op<;>first|rfl|exact absurd rfl c
 cases b<;>simp[C18,a,d]
theorem qDC {op:CmpOp} {r:R2} (d:OpR X (B95 op) r)(c:PE X a ta)(i:PE X b tb)(m:C18 op b=false):PE X (.Compare a [op] [b] pos) (tOp r ta tb):=by
 intro j s σ H Q I h;exact wpAny_Compare1 (binT c i I h λv u g x y l f k e q=>d j g σ l x y v u Q f k e q) m
def qbI (t:TE):TT:=λσ H Q=>t σ H λx H'=>∃k,x=.bl k/\Q k H'
theorem qAN {op:CmpOp} {r:R2} (g:OpR X (B95 op) r)(f:PE X a ta)(i:PE X b tb)(j:C18 op b=false):PT X (.Compare a [op] [b] pos) (qbI (tOp r ta tb)):=by
 intro d s σ H Q I h;refine wpAny_isTrue_Compare1 (thn (f d s σ H _ I h) fun v s1 ⟨x,H1,I1,r1,q1⟩=>thn (i d s1 σ H1 _ I1 q1) fun u s2 ⟨y,H2,I2,r2,q2⟩=>
  thn (g d s2 σ H2 x y v u _ I2 r1 r2 q2) λc s3 ⟨z,H3,I3,r3,k,e,q3⟩=>?_) j
 subst e;cases r3;exact B92 ⟨H3,I3,q3⟩
def qYR (r r':R2)(ta tb tc:TE):TE:=λσ H Q=>ta σ H λx H1=>tb σ H1 λy H2=>r x y H2 λz H3=>∃k,z=.bl k/\
 (if k=true then tc σ H3 λw' H4=>r' y w' H4 Q else Q (.bl false) H3)
theorem qXK {op f:CmpOp} {r j:R2} (m:OpR X (B95 op) r)(i:OpR X (B95 f) j)(l:PE X a ta)(n:PE X b tb)(p:PE X c tc)
  (o:lastMarks [op,f] [b,c]=false:=by with_unfolding_all rfl):PE X (.Compare a [op,f] [b,c] pos) (qYR r j ta tb tc):=by
 intro g s σ H Q I h;refine Compare_chain (thn (l g s σ H _ I h) fun v s1 ⟨x,H1,I1,r1,q1⟩=>chain_link (thn (n g s1 σ H1 _ I1 q1) fun u s2 ⟨y,H2,I2,r2,q2⟩=>
  thn (m g s2 σ H2 x y v u _ I2 r1 r2 q2) λd s3 ⟨z,H3,I3,r3,k,e,q3⟩=>?_)) o
 subst e;cases r3;refine B92 ?_;cases k with
 |false=>exact ite_ff ⟨.bl false,H3,I3,rfl,q3⟩
 |true=>exact ite_tt (chain_last (thn (p g s3 σ H3 _ I3 q3) λw' s4 ⟨z',H4,I4,r4,q4⟩=>i g s4 σ H4 y z' u w' Q I4 r2 r4 q4))
theorem qXD {op f:CmpOp} {r j:R2} (n:OpR X (B95 op) r)(i:OpR X (B95 f) j)(m:PE X a ta)(p:PE X b tb)(t:PE X c tc)
  (q:lastMarks [op,f] [b,c]=false:=by with_unfolding_all rfl):PT X (.Compare a [op,f] [b,c] pos) (qbI (qYR r j ta tb tc)):=by
 intro g s σ H Q I h;refine isTrue_chain (thn (m g s σ H _ I h) fun v s1 ⟨x,H1,I1,r1,q1⟩=>test_link (thn (p g s1 σ H1 _ I1 q1) fun u s2 ⟨y,H2,I2,r2,q2⟩=>
  thn (n g s2 σ H2 x y v u _ I2 r1 r2 q2) λd s3 ⟨z,H3,I3,r3,k,e,q3⟩=>?_)) q
 subst e;cases r3;refine B92 ?_;cases k with
 |false=>
  obtain⟨w,o,l⟩:=q3;cases o;exact ite_ff ⟨H3,I3,l⟩
 |true=>
  refine ite_tt (test_last (thn (t g s3 σ H3 _ I3 q3) λw' s4 ⟨z',H4,I4,r4,q4⟩=>thn (i g s4 σ H4 y z' u w' _ I4 r2 r4 q4) λd' s5 ⟨z2,H5,I5,r5,k2,e2,q5⟩=>?_));subst e2;cases r5;exact B92 ⟨H5,I5,q5⟩
def TruV (K:Ab1)(x:V)(H:Hp)(k:Bool):Prop:=
 match x with
 |.non=>k=false
 |.bl b=>k=b
 |.int i=>k=(i != 0)
 |.str y=>y.length<=B77/\k=((y.length:Int) != 0)
 |.byt y=>y.size<=B77/\k=((y.size:Int) != 0)
 |.ref p=>(∃xs,SqL K H p xs/\k=!xs.isEmpty)\/(∃xs,SqT K H p xs/\k=!xs.isEmpty)\/∃Af,H p=some (.dK Af)/\k=!Af.isEmpty
 |_=>False
theorem qSK {κ:Type} {Af:List (κ×V)} {vs:List (κ×Value)} (r:KV Af vs):(!vs.isEmpty)=!Af.isEmpty:=by
 cases r<;>rfl
theorem qKS {xs:List V} {a:List Value} (r:Vals xs a):(!a.toArray.isEmpty)=!xs.isEmpty:=by
 cases r<;>simp
theorem qND:(B77:Nat)<2^63:=by rw[B88];decide
theorem qbG:TruR X (λx H Q=>∃k,TruV X.K x H k/\Q k H):=by
 intro Ab s σ H x v Q I d h;obtain⟨k,e,q⟩:=h;have z:=qND;have hs:B77=16777216:=B88;cases x with
 |non=>
  cases d;have a:k=false:=e;subst a;exact truthy_none ⟨H,I,q⟩
 |bl b=>
  cases d;have a:k=b:=e;subst a;exact B92 ⟨H,I,q⟩
 |int i=>
  obtain⟨t,rfl⟩:=d;have a:k=(i != 0):=e;subst a;exact PySem.P.truthy_int ⟨H,I,q⟩
 |str y=>
  obtain⟨t,rfl⟩:=d;obtain⟨o,a⟩:y.length<=B77/\k=((y.length:Int) != 0):=e;subst a;exact PySem.P.truthy_str (by lia) ⟨H,I.tok _,q⟩
 |byt y=>
  obtain⟨t,rfl⟩:=d;obtain⟨o,a⟩:y.size<=B77/\k=((y.size:Int) != 0):=e;subst a;exact PySem.W.truthy_bytes (by lia) ⟨H,I.tok _,q⟩
 |ref p=>
  cases d;have a:(∃xs,SqL X.K H p xs/\k=!xs.isEmpty)\/(∃xs,SqT X.K H p xs/\k=!xs.isEmpty)\/∃Af,H p=some (.dK Af)/\k=!Af.isEmpty:=e;rcases a with⟨xs,f,a⟩|⟨xs,f,a⟩|⟨Af,f,a⟩
  ·subst a;obtain⟨j,r,l,n⟩:=I.list f;have c:=r.length;exact wpAny_truthy_list l.isList (by simp only[B8];lia) ⟨H,I.tok _,by rw[qKS r];exact q⟩
  ·subst a;obtain⟨j,r,l,n⟩:=I.tuple f;have c:=r.length;exact truthy_tuple l (by simp only[B8];lia) ⟨H,I.tok _,by rw[qKS r];exact q⟩
  ·subst a;obtain⟨n,u,g,r,m⟩:Af.length<=B77/\(p==C02)=false/\∃g,KV Af g/\s.heap.DictOf (qB3 X.prog X.w) p g:=I.hok p _ f;have c:Af.length=g.length:=C2 r;exact wpAny_truthy_dict u m (by lia) ⟨H,I.tok _,by rw[qSK r];exact q⟩
 |_=>exact(show False from e).elim
theorem qXC (c:PE X a ta)(d:∀whole,isTrue a X.env whole=(do let v <- whole;standAt a.pos;C21 [v] (truthy v))):
  PT X a (λσ H Q=>ta σ H λx H'=>∃k,TruV X.K x H' k/\Q k H'):=by
 intro b s σ H Q I h;exact isTrue_plain (thn (c b s σ H _ I h) λv s1 ⟨x,H1,I1,r1,q1⟩=>qbG b s1 σ H1 x v Q I1 r1 q1) (d _)
theorem qDQ {x:V} {a:List Value} (r:Vals [x] a):∃u,a=[u]/\RelV x u:=by
 cases r with
 |cons r1 r2=>cases r2;exact⟨_,rfl,r1⟩
theorem qK2 {x y:V} {a:List Value} (r:Vals [x,y] a):∃u w',a=[u,w']/\RelV x u/\RelV y w':=by
 cases r with
 |cons r1 r2=>
  cases r2 with
  |cons r3 r4=>cases r4;exact⟨_,_,rfl,r1,r3⟩
theorem qW9 (b:X.calm=true):qCF X (.builtin "max") (λxs H Q=>∃i j,xs=[.int i,.int j]/\Q (.int (if j>i then j else i)) H):=by
 intro d s σ H xs e Q I r h;obtain⟨i,j,rfl,q⟩:=h;obtain⟨u,l,rfl,⟨t,rfl⟩,⟨f,rfl⟩⟩:=qK2 r;refine max_two_ints (I.ok.hd b) λg c k=>⟨_,H,I.kept k,?_,q⟩;by_cases a:j>i
 ·rw[if_pos a,if_pos a];exact⟨_,rfl⟩
 ·rw[if_neg a,if_neg a];exact⟨_,rfl⟩
theorem qJR (b:X.calm=true):qCF X (.builtin "min") (λxs H Q=>∃i j,xs=[.int i,.int j]/\Q (.int (if j<i then j else i)) H):=by
 intro d s σ H xs e Q I r h;obtain⟨i,j,rfl,q⟩:=h;obtain⟨u,l,rfl,⟨t,rfl⟩,⟨f,rfl⟩⟩:=qK2 r;refine min_two_ints (I.ok.hd b) λg c k=>⟨_,H,I.kept k,?_,q⟩;by_cases a:j<i
 ·rw[if_pos a,if_pos a];exact⟨_,rfl⟩
 ·rw[if_neg a,if_neg a];exact⟨_,rfl⟩
theorem qJS:qCF X (.type "int") (λxs H Q=>(∃i,xs=[.int i]/\Q (.int i) H)\/∃k,xs=[.bl k]/\Q (.int (if k then 1 else 0)) H):=by
 intro b s σ H xs c Q I r h;rcases h with⟨i,rfl,q⟩|⟨k,rfl,q⟩
 ·obtain⟨u,rfl,t,rfl⟩:=qDQ r;exact call_int_int ⟨.int i,H,I,⟨_,rfl⟩,q⟩
 ·obtain⟨u,rfl,a⟩:=qDQ r;cases a;exact call_int_bool ⟨.int (if k then 1 else 0),H,I.tok _,⟨_,rfl⟩,q⟩
theorem qPV:qCF X (.builtin "divmod") (λxs H Q=>∃i j,xs=[.int i,.int j]/\CDiv i j/\∀p,H p=none->Q (.ref p) (Ag H p (.tup [.int (i/j),.int (i%j)]))):=by
 intro f s σ H xs g Q I r h;obtain⟨i,j,rfl,⟨d,c⟩,q⟩:=h;obtain⟨u,l,rfl,⟨t,rfl⟩,⟨k,rfl⟩⟩:=qK2 r;refine divmod_int (by lia) ?_ (.inl (d0 (by lia)))
 rw[Y3 i (by lia),w5 i (by lia)]
 have a:H s.heap.objs.size=none:=I.hok.fresh (A6 _);refine⟨.ref s.heap.objs.size,_,?_,rfl,q _ a⟩;refine I.laid (λb o e=>A3 _ e) (A6 _) ⟨by simp only[D3,O2];rw[B88];decide,[.int (i/j) s.toks,.int (i%j) (s.toks+1)],.cons ⟨_,rfl⟩ (.cons ⟨_,rfl⟩ .nil),?_⟩
 exact⟨_,A9 s.heap rfl,rfl,0,rfl⟩
end
structure ObjM (h:Heap)(x dx C:Addr)(mA:Ab0):Prop where
 obj:h.get? x=some (A45 C dx)
 ns:h.Ns1 dx mA
 ne:dx≠x
theorem qUO {h:Heap} {c:Addr} {f:Ab0} (n:h.Ns1 c f):∃od,h.get? c=some od/\∀name,A72 name od=some (f name):=by
 obtain⟨o,d,p,g,k,m,_,l⟩:=n;refine⟨o,g,λname=>?_⟩;have e:=l name;unfold nsFind findBy at e;rw[<- Array.find?_toList] at e;unfold A72;rw[k];dsimp only
 split
 ·rename_i y q
  rw[q] at e;exact congrArg some e
 ·rename_i q
  rw[q] at e;have a:d.toList.any (·.refKey)=false:=by
   rw[List.any_eq_false];intro y i;obtain⟨z,t,b⟩:=m y (Array.mem_toList_iff.mp i);simp[DictEntry.refKey,b]
  have j:¬d.toList.any (·.refKey)=true:=by rw[a];exact B4
  rw[if_neg j];exact congrArg some e
theorem ObjM.look {h:Heap} {x a C:Addr} {b:Ab0} (I:ObjM h x a C b):∃od,PySem.W.InstAt h x (A45 C a) C (some od)/\∀name,A72 name od=some (b name):=
 let⟨od,ho,hl⟩:=qUO I.ns
 ⟨od,⟨I.obj,rfl,rfl,ho⟩,hl⟩
section
variable{prog:B79}{w:World}{A:Around}{E:Aa1}{s:Shared}{K:Ab1}{x dx C f:Addr}{mA:Ab0}{name:Str}{v:Value}
end
noncomputable def putF (f:Str)(v:V):List (Str×V)->List (Str×V)
 |[]=>[(f,v)]
 |(g,x)::r=>if g=f then(g,v)::r else(g,x)::putF f v r
theorem RelO.some_of {v:V} {o:Option Value} (r:RelO (some v) o):∃u,o=some u/\RelV v u:=by
 cases o with
 |none=>exact(show False from r).elim
 |some u=>exact⟨u,rfl,r⟩
section
variable{P:B79}{w:World}{H H':Hp}{h h':Heap}{a C dx:Addr}{fs fs':List (Str×V)}
theorem qaN (b:HOk P w H h)(e:H a=some (.ins C dx fs)):∃mA,ObjM h a dx C mA/\(∀f,RelO (fs.lookup f) (mA f))/\PySem.Within mA (fs.map (·.1))/\fs.length<=1000/\H dx=some (.own a):=by
 obtain⟨d,z,g,c,mA,n,r,q⟩:=(show ObjOk P w H h a (.ins C dx fs) from b a _ e);exact⟨mA,⟨c,n,g⟩,r,q,z,d⟩
end
structure Cls (K:Ab1)(C:Addr):Prop where
 pg:B21 K C Q5=true
 hd:B02 K C=true
 po:PySem.W.plainOver K C=true
 sa:Q0 K (.ref C) "__setattr__" = some (some (.builtin "object.__setattr__"))
theorem Cls.get {K:Ab1} {C:Addr} (c:Cls K C)(f:Str):B21 K C f=true:=c.pg
def qRS (K:Ab1)(C:Addr)(f:Str):Prop:=Q0 K (.ref C) f=some none
structure Con (K:Ab1)(C:Addr)(f:Str)(v:V)(u:Value):Prop where
 at_:Q0 K (.ref C) f=some (some u)
 rel:RelV v u
 get:A15 K u "__get__" = some none
 cp:PySem.W.copiedNames.contains f=false
structure Meth (K:Ab1)(C:Addr)(m:Str)(f:Addr):Prop where
 at_:Q0 K (.ref C) m=some (some (.ref f))
 fn:B67 K (.ref f)=true
 kp:R3 K (.ref f)=true
section
variable{X:Cx}{Ab:List (Addr×Obj)}{σ:St}{H:Hp}{s:Shared}{a C dx:Addr}{fs:List (Str×V)}{f:Str}{v:V}{A:Around}{E:Aa1}
end
section
variable{X:Cx}{o e value:Expr}{f:Str}{pos pos' tpos:Pos}{ta tv:TE}
end
section
variable{X:Cx}{Ab:List (Addr×Obj)}{σ:St}{H:Hp}{s:Shared}{A:Around}{E:Aa1}{Q:Aa1}{c:Value}{b:Bool}
inductive TyOf (K:Ab1)(H:Hp):V->Value->Prop where
 |non:TyOf K H .non (.type "NoneType")
 |bl (x:Bool):TyOf K H (.bl x) (.type "bool")
 |int (i:Int):TyOf K H (.int i) (.type "int")
 |str (x:Str):TyOf K H (.str x) (.type "str")
 |flt (x:UInt64):TyOf K H (.flt x) (.type "float")
 |lst {a:Addr} {xs:List V} (e:H a=some (.lst xs)):TyOf K H (.ref a) (.type "list")
 |frz {a:Addr} {o:Obj} {xs:List V} (e:H a=some (.frz o (.lst xs))):TyOf K H (.ref a) (.type "list")
 |tup {a:Addr} {xs:List V} (e:H a=some (.tup xs)):TyOf K H (.ref a) (.type "tuple")
 |dK {a:Addr} {Af:List (Key×V)} (e:H a=some (.dK Af)):TyOf K H (.ref a) (.type "dict")
 |dT {a:Addr} {Af:List (List Key×V)} (e:H a=some (.dT Af)):TyOf K H (.ref a) (.type "dict")
 |ins {a C dx:Addr} {fs:List (Str×V)} (e:H a=some (.ins C dx fs)) (cl:Cls K C) (ha:Q0 K (.ref C) "__class__" = some (some (.builtin "object.__class__")))
   (hn:A15 K (.builtin "object.__class__") "__get__" = some (some (.builtin "getset_descriptor.__get__"))) (htk:B35 K (.builtin "object.__class__")=some true)
   (hm:A89 K C (.type "object")=some true):TyOf K H (.ref a) (.ref C)
theorem qV3 {x:V} {u t:Value} (I:Inv X Ab σ H s)(d:RelV x u)(k:TyOf X.K H x t)(e:R4 X.K t c=some b)(h:∀tk,Q (.bool b) {s with toks:=tk}):
  wpAny (model X.prog X.w) A (call (.builtin "isinstance") [u,c]) Q E s:=by
 cases k with
 |non=>cases(show u=M6 from d);exact L4 PySem.W.kitx_none I.kIn U9 e (λz=>nomatch z) h
 |bl y=>cases(show u=R6 y from d);exact L4 PySem.W.kitx_bool I.kIn U9 e (λz=>nomatch z) h
 |int i=>obtain⟨t,q⟩:=(show∃t,u=U8 i t from d);cases q;exact L4 PySem.W.kitx_int I.kIn U9 e (λz=>nomatch z) h
 |str y=>obtain⟨t,q⟩:=(show∃t,u=B34 y t from d);cases q;exact L4 PySem.W.kitx_str I.kIn U9 e (λz=>nomatch z) h
 |flt y=>obtain⟨t,q⟩:=(show∃t,u=Value.float y t from d);cases q;exact L4 PySem.W.kitx_float I.kIn U9 e (λz=>nomatch z) h
 |@lst a xs ea=>
  cases(show u=C8 a from d);obtain⟨_,_,n,_,f⟩:=(show ObjOk X.prog X.w H s.heap a (.lst xs) from I.hok a _ ea);exact L4 B03 I.kIn ⟨_,f,rfl⟩ e (λz=>nomatch z) h
 |@frz a ob xs ea=>
  cases(show u=C8 a from d);obtain⟨_,_,_,n,_,f⟩:=(show ObjOk X.prog X.w H s.heap a (.frz ob (.lst xs)) from I.hok a _ ea);exact L4 B03 I.kIn ⟨_,f,rfl⟩ e (λz=>nomatch z) h
 |@tup a xs ea=>
  cases(show u=C8 a from d);obtain⟨_,_,_,p⟩:=(show ObjOk X.prog X.w H s.heap a (.tup xs) from I.hok a _ ea);obtain⟨o,f,g,_⟩:=p;exact L4 A90 I.kIn ⟨o,f,g⟩ e (λz=>nomatch z) h
 |@dK a Af ea=>
  cases(show u=C8 a from d);obtain⟨_,_,m,_,p⟩:=(show ObjOk X.prog X.w H s.heap a (.dK Af) from I.hok a _ ea);obtain⟨o,l,j,f,g,_⟩:=p;exact L4 B04 I.kIn ⟨o,f,g.1⟩ e (λz=>nomatch z) h
 |@dT a Af ea=>
  cases(show u=C8 a from d);obtain⟨_,_,xs,_,o,l,j,f,g,_⟩:=(show ObjOk X.prog X.w H s.heap a (.dT Af) from I.hok a _ ea);exact L4 B04 I.kIn ⟨o,f,g.1⟩ e (λz=>nomatch z) h
 |@ins a C dx fs ea cl ha hn htk hm=>
  cases(show u=C8 a from d);obtain⟨r,O,_⟩:=qaN I.hok ea;obtain⟨v,J,_⟩:=O.look;exact L4 (PySem.W.kitx_own (cl.get _) cl.hd ha hn htk hm) I.kIn J e (λz=>nomatch z) h
end
structure Room (k:Nat)(A:Around):Prop where
 hd:A.handled=none
 dp:A.depth+3*k+5<recursionLimit
 un:A.units+16*k+200<cLine
 gd:A.guards=some []
theorem Room.mono {j k:Nat} (r:Room k A)(h:j<=k):Room j A:=⟨r.hd,by have:=r.dp;lia,by have:=r.un;lia,r.gd⟩
theorem Room.deeper {k:Nat} (r:Room (k+1) A)(env:Env):Room k (A.deeper env):=
 ⟨r.hd,by have:=r.dp;show A.depth+1+3*k+5<_;lia,by have:=r.un;show A.units+3+16*k+200<_;lia,r.gd⟩
theorem Room.in1 {k:Nat} (r:Room (k+1) A):Room k A.in1:=
 ⟨r.hd,by have:=r.dp;show A.depth+3*k+5<_;lia,by have:=r.un;show A.units+1+16*k+200<_;lia,r.gd⟩
theorem Room.depth {k:Nat} (r:Room k A):A.depth<recursionLimit:=by have:=r.dp;lia
theorem Room.units {k:Nat} (r:Room k A):A.units+64<cLine:=by have:=r.un;lia
theorem Room.units0 {k:Nat} (r:Room k A):A.units<cLine:=by have:=r.un;lia
def tNil:TA:=λ_ H Q=>Q [] H
def qMS (ta:TE)(tr:TA):TA:=λσ H Q=>ta σ H λx H1=>tr σ H1 λxs H2=>Q (x::xs) H2
section
variable{X:Cx}{e:Expr}{es:List Expr}{te:TE}{t:TA}{pos:Pos}
theorem qA3:PA X [] tNil:=λ_ _ _ _ H Q I h=>Calls.spliced_nil ⟨[],H,I,.nil,h⟩
theorem qA0 (c:PE X e te)(d:PA X es t)(f:B84 (e::es) X.env=(false,eval e X.env)::B84 es X.env:=by rfl):PA X (e::es) (qMS te t):=by
 intro a b s σ H Q I h;rw[f];show wpAny _ _ (spliced ((false,eval e X.env)::backTo a (B84 es X.env))) _ _ s;refine Calls.spliced_cons (thn (c b s σ H _ I h) λu s1 ⟨x,H1,I1,r1,q1⟩=>?_);exact thn (d a b s1 σ H1 _ I1 q1) λus s2 ⟨xs,H2,I2,r2,q2⟩=>⟨x::xs,H2,I2,.cons r1 r2,q2⟩
def tTup (t:TA):TE:=λσ H Q=>t σ H λxs H1=>xs.length<=B77/\∀p,H1 p=none->Q (.ref p) (Ag H1 p (.tup xs))
def tLst (t:TA):TE:=λσ H Q=>t σ H λxs H1=>xs.length<=B77/\∀p,H1 p=none->Q (.ref p) (Ag H1 p (.lst xs))
theorem qBN (h:PA X es t):PE X (.Tuple es x1 pos) (tTup t):=by
 intro a s σ H Q I d;refine wpAny_Tuple_spliced (thn (h pos a s σ H _ I d) λus s1 ⟨xs,H1,I1,r,z,q⟩=>⟨by rw[<- r.length];exact z,?_⟩)
 have c:H1 s1.heap.objs.size=none:=I1.hok.fresh (A6 _);refine⟨.ref s1.heap.objs.size,Ag H1 s1.heap.objs.size (.tup xs),I1.laid (t':=s1.toks) (λb u e=>A3 _ e) (A6 _) ?_,rfl,q _ c⟩;exact⟨z,us,r,⟨_,A9 _ rfl,rfl,_,rfl⟩⟩
theorem qBU (h:PA X es t):PE X (.List es pos) (tLst t):=by
 intro a s σ H Q I d;refine wpAny_List_spliced (thn (h pos a s σ H _ I d) λus s1 ⟨xs,H1,I1,r,z,q⟩=>⟨by rw[<- r.length];exact z,?_⟩)
 have c:H1 s1.heap.objs.size=none:=I1.hok.fresh (A6 _);refine⟨.ref s1.heap.objs.size,Ag H1 s1.heap.objs.size (.lst xs),I1.laid (t':=s1.toks) (λb u e=>A3 _ e) (A6 _) ?_,rfl,q _ c⟩;exact⟨z,us,0,r,A9 _ rfl⟩
end
abbrev Sp:=List V->Hp->VK->XK->Prop
abbrev CXT:=List Env->Hp->Shared->XK->Aa1
structure Env0 (P:B79)(w:World)(K:Ab1)(mg:Ab0)(base:Heap)(A:Around)(outer:List Env)(s:Shared)(H:Hp):Prop where
 frames:A.frames=some outer
 mod:Mod K mg base
 bs:∀b o,base.get? b=some o->s.heap.get? b=some o/\H b=none
 bsz:base.objs.size<=s.heap.objs.size
 funs:s.heap.FunFrames base outer
 frf:∀b∈frs outer,H b=none
 hok:HOk P w H s.heap
 bare:AllBare s.gens
def CE (outer:List Env)(P:B79)(w:World)(H:Hp)(s:Shared)(Q:VK)(u:Value)(s':Shared):Prop:=
 ∃v H',s'.os=s.os/\AllBare s'.gens/\Un (frs outer) [] H H' s.heap s'.heap/\HOk P w H' s'.heap/\RelV v u/\Q v H'
def CR (CX:CXT)(outer:List Env)(P:B79)(w:World)(H:Hp)(s:Shared)(Q:VK)(E:XK)(r:Result)(s':Shared):Prop:=
 match r with
 |.ok (.ret u)=>CE outer P w H s Q u s'
 |.ok _=>False
 |.error e=>CX outer H s E e s'
structure FnOk (P:B79)(w:World)(K:Ab1)(mg:Ab0)(base:Heap)(CX:CXT)(k:Nat)(f:Addr)(fd:B98)(ps:List Str)(sp:Sp):Prop where
 len:∀vs H Q E,sp vs H Q E->vs.length=ps.length
 run:∀(A:Around) (outer:List Env) (s:Shared) (H:Hp) (args:Args) (us:List Value) (vs:List V) (Q:VK) (E:XK),Room k A->Env0 P w K mg base A outer s H->BindsTo s fd args (ps.zip us)->Vals vs us->sp vs H Q E->
  C16 (model P w) A (.call (.ref f) args) (CR CX outer P w H s Q E) s
section
variable{X:Cx}{Ab:List (Addr×Obj)}{σ:St}{H:Hp}{s s':Shared}
theorem Inv.env0 (I:Inv X Ab σ H s):Env0 X.prog X.w X.K X.mg X.base X.A X.stack s H:=
 ⟨I.ok.frames,I.ok.mod,I.bs,F4 I.ok.bsz I.sz,I.stack,I.stkFree,I.hok,I.bare⟩
theorem Inv.after {Q:VK} {u:Value} (I:Inv X Ab σ H s)(h:CE X.stack X.prog X.w H s Q u s'):EP X Ab σ Q u s':=by
 obtain⟨v,f,os,a,j,e,r,q⟩:=h;obtain⟨i,g,d,t,c⟩:=s';obtain rfl:c=s.os:=os;exact⟨v,f,I.call (h':=i) (g':=g) (d':=d) (t':=t) (ch:=[]) j e a (λb z=>absurd z (by simp)),r,q⟩
end
def qbM (sp:Sp)(dvs:List V)(E:XK)(t:TA):TE:=λσ H Q=>t σ H λvs H1=>sp (vs++dvs) H1 Q E
def Binds (K:Ab1)(fd:B98)(ps:List Str)(ds:List Value):Prop:=
 ∀(s:Shared) (us:List Value),K.In s.heap->(us++ds).length=ps.length->BindsTo s fd ⟨us,[]⟩ (ps.zip (us++ds))
theorem Binds.all {K:Ab1} {a:B98} {ps:List Str} (h:∀us:List Value,us.length=ps.length->C39 a ⟨us,[]⟩=pure (ps.zip us)):Binds K a ps []:=λs us _ b=>by
 rw[P3] at b ⊢;exact .of_eq (h us b)
def qWK (CX:CXT)(X:Cx)(E:XK):Prop:=∀(Ab:List (Addr×Obj)) (σ:St) (H:Hp) (s:Shared) (e:Value) (s':Shared),Inv X Ab σ H s->CX X.stack H s E e s'->X.xe e s'
section
variable{X:Cx}{CX:CXT}{k:Nat}{f C:Addr}{fd:B98}{ps:List Str}{sp:Sp}{dvs:List V}{ds:List Value}{E:XK}{x m:Str}{p pos apos:Pos}{e o:Expr}{es:List Expr}{ta:TE}{t:TA}
theorem qbV {Ab:List (Addr×Obj)} {σ:St} {H:Hp} {Q:VK} {a:List Value} {vs:List V} (F:FnOk X.prog X.w X.K X.mg X.base CX k f fd ps sp)(i:Room k X.A)(l:Binds X.K fd ps ds)(m:Vals dvs ds)(j:qWK CX X E)
  (I:Inv X Ab σ H s) (r:Vals vs a) (h:sp (vs++dvs) H Q E):wpAny (model X.prog X.w) X.A (call (.ref f) a) (EP X Ab σ Q) X.xe s:=by
 have c:Vals (vs++dvs) (a++ds):=r.append m;have g:(a++ds).length=ps.length:=by rw[<- c.length];exact F.len _ _ _ _ h
 refine wpAny_call (C10 (F.run X.A X.stack s H ⟨a,[]⟩ (a++ds) (vs++dvs) Q E i I.env0 (l s a I.kIn g) c h) λr d b=>?_);cases r with
 |error e=>exact j Ab σ H s e d I b
 |ok fl=>
  cases fl with
  |ret u=>exact I.after b
  |next=>exact W5 b
  |brk=>exact W5 b
  |cont=>exact W5 b
theorem qa9 (F:FnOk X.prog X.w X.K X.mg X.base CX k f fd ps sp)(d:Room k X.A)(o:Gl X x)(n:X.mg x=some (.ref f))(u:R3 X.K (.ref f)=true)(i:Binds X.K fd ps ds)(m:Vals dvs ds)(g:qWK CX X E)
  (c:PA X (e::es) t) (b:(x==("__debug__" : Str))=false:=by decide) (l:B84 (e::es) X.env=(false,eval e X.env)::B84 es X.env:=by rfl) (a:(backTo pos (B84 es X.env)).any (·.1)=false:=by rfl):
  PE X (.Call (.Name x p) (e::es) [] pos) (qbM sp dvs E t):=by
 intro j s σ H Q I h;refine C40 (qaI I o n ?_ b);refine PySem.W.callWith_K (h₀:=X.base) I.ok.mod.kin u (thn (c pos j s σ H _ I h) λus s1 ⟨vs,H1,I1,r,q⟩=>⟨I1.kIn,?_⟩) l a;exact qbV F d i m g I1 r q
structure Mk (K:Ab1)(C f:Addr):Prop where
 makes:PySem.W.makesIn K C=true
 init:Q0 K (.ref C) "__init__" = some (some (.ref f))
 fn:B67 K (.ref f)=true
 kp:R3 K (.ref C)=true
end
def PK (X:Cx)(kws:List C41)(t:TA):Prop:=
 ∀(pos:Pos) (Ab:List (Addr×Obj)) (s:Shared) (σ:St) (H:Hp) (Q:List V->Hp->Prop),Inv X Ab σ H s->t σ H Q->wpAny (model X.prog X.w) X.A (evalAll ((backToKw pos (C48 kws X.env)).map (·.2))) (AP X Ab σ Q) X.xe s
section
variable{X:Cx}{CX:CXT}{k:Nat}{f C:Addr}{fd:B98}{ps ks:List Str}{sp:Sp}{E:XK}{x m:Str}{p pos apos kpos:Pos}{e o:Expr}{es:List Expr}{kws:List C41}{te ta:TE}{t tk:TA}{nm:Option Str}
theorem qc1:PK X [] tNil:=λ_ _ _ _ H Q I h=>wpAny_evalAll_nil ⟨[],H,I,.nil,h⟩
theorem qTY (c:PE X e te)(d:PK X kws t):PK X (⟨nm,e,kpos⟩::kws) (qMS te t):=by
 intro a b s σ H Q I h;show wpAny _ _ (evalAll ((do let v <- eval e X.env;standAt a;pure v)::(backToKw a (C48 kws X.env)).map (·.2))) _ _ s
 refine wpAny_evalAll_cons (B75 (thn (c b s σ H _ I h) λu s1 ⟨x,H1,I1,r1,q1⟩=>B75 (C50 (B76 ?_))));exact thn (d a b s1 σ H1 _ I1 q1) λus s2 ⟨xs,H2,I2,r2,q2⟩=>⟨x::xs,H2,I2,.cons r1 r2,q2⟩
structure KBinds (K:Ab1)(fd:B98)(ps ks:List Str)(g:List Value->List Value->List Value)(gV:List V->List V->List V):Prop where
 to:∀(s:Shared) (us ws:List Value),K.In s.heap->(g us ws).length=ps.length->BindsTo s fd ⟨us,ks.zip ws⟩ (ps.zip (g us ws))
 rel:∀{vs:List V} {us:List Value} {zs:List V} {ws:List Value},Vals vs us->Vals zs ws->Vals (gV vs zs) (g us ws)
variable{g:List Value->List Value->List Value}{gV:List V->List V->List V}
end
structure FnScope (N P:List Str)(sc:Scope):Prop where
 kind:sc.kind=.function
 co:sc.isCoroutine=false
 gen:sc.isGenerator=false
 nd:N.Nodup
 pre:N.take P.length=P
 par:∀x∈P,sc.names.lookup x=some .local\/sc.names.lookup x=some .cell
 nofree:∀y∈sc.names,y.2≠.free
theorem qO3 {kindOf:Str->Option C30} {x:Str} :∀{binds:List (Str×Value)} {m:Ab0},(∀v,(x,v)∉binds)->bindL kindOf binds m x=m x
 |[],_,_=>rfl
 |(n,v)::r,m,h=>by
  unfold bindL;rw[qO3 λw hw=>h w (B9 _ hw)]
  split
  ·have:x≠n:=by rintro rfl;exact h v F0
   simp[this]
  ·rfl
theorem qO5 {kindOf:Str->Option C30} {x:Str} :∀{binds:List (Str×Value)} {m:Ab0},(∀v,(x,v)∉binds)->bindC kindOf binds m x=m x
 |[],_,_=>rfl
 |(n,v)::r,m,h=>by
  unfold bindC;rw[qO5 λw hw=>h w (B9 _ hw)]
  split
  ·rfl
  ·have:x≠n:=by rintro rfl;exact h v F0
   simp[this]
theorem qO4 {kindOf:Str->Option C30} {x:Str} {v:Value} :∀{P:List Str} {vs:List Value} {i:Nat} {m:Ab0},P.Nodup->P[i]?=some x->vs[i]?=some v->kindOf x=some .local->
  bindL kindOf (P.zip vs) m x=some v
 |[],_,_,_,_,h,_,_=>by simp at h
 |_::_,[],_,_,_,_,h,_=>by simp at h
 |p::P,w::vs,0,m,nd,h1,h2,hk=>by
  simp at h1 h2;subst h1;subst h2;show bindL kindOf ((p,w)::P.zip vs) m p=_;unfold bindL;rw[qO3 λv hv=>(P4.mp nd).1 (A46 hv).1,if_pos hk];simp
 |p::P,w::vs,i+1,m,nd,h1,h2,hk=>by
  show bindL kindOf ((p,w)::P.zip vs) m x=_;unfold bindL;exact qO4 (i:=i) (P4.mp nd).2 (by simpa using h1) (by simpa using h2) hk
theorem qO6 {kindOf:Str->Option C30} {x:Str} {v:Value} :∀{P:List Str} {vs:List Value} {i:Nat} {m:Ab0},P.Nodup->P[i]?=some x->vs[i]?=some v->kindOf x≠some .local->
  bindC kindOf (P.zip vs) m x=some v
 |[],_,_,_,_,h,_,_=>by simp at h
 |_::_,[],_,_,_,_,h,_=>by simp at h
 |p::P,w::vs,0,m,nd,h1,h2,hk=>by
  simp at h1 h2;subst h1;subst h2;show bindC kindOf ((p,w)::P.zip vs) m p=_;unfold bindC;rw[qO5 λv hv=>(P4.mp nd).1 (A46 hv).1,if_neg hk];simp
 |p::P,w::vs,i+1,m,nd,h1,h2,hk=>by
  show bindC kindOf ((p,w)::P.zip vs) m x=_;unfold bindC;exact qO6 (i:=i) (P4.mp nd).2 (by simpa using h1) (by simpa using h2) hk
noncomputable def start (N:List Str)(vs:List V):St:=vs.map some++D8 (N.length-vs.length) none
noncomputable def cxOf (CX:CXT)(P:B79)(w:World)(K:Ab1)(mg:Ab0)(base:Heap)(N:List Str)(qual:Str)(scope:Scope)(f:Addr)(cd:Value)(A:Around)(outer:List Env)(s:Shared)(H:Hp)(E:XK):Cx where
 prog:=P
 w:=w
 K:=K
 mg:=mg
 base:=base
 A:=A.deeper (envOfC qual scope s.heap.objs.size f cd)
 N:=N
 s₀:=s
 H₀:=H
 env:=envOfC qual scope s.heap.objs.size f cd
 outer:=outer
 stack:=envOfC qual scope s.heap.objs.size f cd::outer
 ex:=[]
 calm:=true
 fn:=λ_=>true
 pn:=[]
 xe:=λe s'=>wpAny (model P w) (A.deeper (envOfC qual scope s.heap.objs.size f cd)) (leaving (envOfC qual scope s.heap.objs.size f cd) e) (λ_ s''=>CX outer H s E e s'') (λe' s''=>CX outer H s E e' s'') s'
theorem qRM {a:Scope} {n:Nat} {x:Str} (h:a.names.lookup x=some .cell):∃c,(cellsFrom n a.names []).lookup x=some c:=by
 have q:=A41 a.names n [] (.inl h);exact Z8.mp q
theorem qV4 {CX:CXT} {K:Ab1} {mg:Ab0} {base:Heap} {N ps:List Str} {j:Str} {d:Scope} {f:Addr} {cd:Value} {g:List Env} {H:Hp} {E:XK} {us:List Value} {vs:List V} 
  (S:FnScope N ps d) (hd:A.handled=none) (m:Env0 P w K mg base A g s H) (hl:vs.length=ps.length) (r:Vals vs us)
  (x:InCallC s s.heap.objs.size (bindL (envOfC j d s.heap.objs.size f cd).kindOf (ps.zip us) λ_=>none) (cellsFrom (s.heap.objs.size+1) d.names []) (bindC (envOfC j d s.heap.objs.size f cd).kindOf (ps.zip us) λ_=>none) s1):
  Inv (cxOf CX P w K mg base N j d f cd A g s H E) [] (start N vs) H s1:=by
 have a0:ps.length<=N.length:=by have:=congrArg V6 S.pre;rw[C5] at this;lia
 obtain⟨h1,tk,rfl,hk⟩:=x.done;have o:∀b:Addr,b∉(cxOf CX P w K mg base N j d f cd A g s H E).ex:=λb z=>absurd (show b∈([]:List Addr) from z) (by simp)
 refine⟨⟨m.mod,S.kind,rfl,rfl,A6 _,λy z c h1 l=>?_,λy hy=>?_,λy c _ h=>?_,λ_=>hd,A60 m.frames,.inr ⟨rfl,rfl⟩,λb z=>absurd z (o b),m.bs,m.bsz,λb _ _=>o b,λb z=>absurd z (o b),m.funs,m.frf⟩,
  rfl,m.bare,Un.kept hk,⟨_,x.toInCall.ns,λi y v h1 l h3=>?_⟩,λy c h=>⟨_,x.cell y c h⟩,m.hok.fresh (A6 _),λy c h=>?_,λp hp=>absurd (show p∈([]:List (Addr×Obj)) from hp) (by simp),m.hok.kept hk,?_⟩
 ·exact name_of_addr x.apart (J7 h1) (J7 l)
 ·have hy:d.names.lookup y=some .cell\/d.names.lookup y=some .free:=hy;rcases hy with hy|hy
  ·exact qRM hy
  ·exact absurd rfl (S.nofree _ (J7 hy))
 ·exact T5 (x.above y c (J7 h))
 ·have hi:i<vs.length:=by
   unfold start at l;by_cases hi:i<vs.length
   ·exact hi
   ·rw[G1 (by simpa using hi)] at l
    rw[List.getElem?_replicate] at l
    split at l<;>cases l
  have ha:vs[i]?=some v:=by
   unfold start at l;rw[J2 (by simpa using hi),B6] at l
   cases e:vs[i]? with
   |none=>rw[e] at l;cases l
   |some a=>rw[e] at l;cases l;rfl
  obtain⟨u,hu,rv⟩:=r.get ha;have hp:ps[i]?=some y:=by
   rw[<- S.pre,Z9 (by lia)];exact h1
  have t:ps.Nodup:=by rw[<- S.pre];exact S.nd.sublist (Y1 _ _)
  refine⟨u,rv,?_⟩;rcases S.par y (B5 hp) with k|k
  ·exact .inl ⟨k,qO4 t hp hu k⟩
  ·obtain⟨c,e⟩:=qRM (n:=s.heap.objs.size+1) k;refine .inr ⟨.inl k,c,e,?_⟩;have q:=x.cell y c e;rw[qO6 t hp hu (by show d.names.lookup y≠_;rw[k];decide)] at q
   exact q
 ·exact m.hok.fresh (T5 (x.above y c (J7 h)))
 ·unfold start;show _=N.length;rw[A8,A0,X5]
  lia
theorem qcV {CX:CXT} {K:Ab1} {mg:Ab0} {base:Heap} {k:Nat} {f:Addr} {name c:Str} {g:C11} {body:List Stmt} {a:Scope} {dV kV m pm d ct oc:Value} {an od:Option Addr} 
  {a2:Array (Option Value)} {N ps:List Str} {sp:Sp} (lk:K.lookup f=some ⟨oc,od,.func (R5 name c g body a dV kV m pm an d ct),a2⟩) (hcd:k5 K d c=true) (S:FnScope N ps a)
  (l:∀vs H Q E,sp vs H Q E->vs.length=ps.length)
  (i:∀ (A:Around) (outer:List Env) (s:Shared) (H:Hp) (vs:List V) (Q:VK) (E:XK),Room k (A.deeper (envOfC c a s.heap.objs.size f d))->sp vs H Q E->
   ∃t,PSs (cxOf CX P w K mg base N c a f d A outer s H E) body t/\t {nx:=λ_ H'=>Q .non H',rt:=Q} (start N vs) H):
  FnOk P w K mg base CX (k+1) f (R5 name c g body a dV kV m pm an d ct) ps sp:=by
 refine⟨l,λA outer s H a3 us vs Q E hr z hb r p=>?_⟩;have hl:=l _ _ _ _ p;have KX:K.In s.heap:=z.mod.kin.keeps λb o e=>(z.bs b o e).1;have a1:s.heap.NoLimit:=z.mod.nolimit.keeps λb o e=>(z.bs b o e).1;have h:∀y∈ps.zip us,a.names.lookup y.1=some .local\/(a.names.lookup y.1=some .cell/\((cellsFrom (s.heap.objs.size+1) a.names []).lookup y.1).isSome=true):=λ⟨n,v⟩ hy=>by
  rcases S.par n (A46 hy).1 with q|q
  ·exact .inl q
  ·exact .inr ⟨q,A41 _ _ _ (.inl q)⟩
 refine codeAny_call_function hr.depth (KX _ _ lk) rfl S.co S.gen rfl (PySem.W.codeRec_of KX hcd) (hb _ _ _ _ ?_);refine wpAny_newFunctionEnv_cells S.kind h λa4 he s1 x=>?_;subst he;refine⟨a1.keeps x.toInCall.keep,codeAny_func ?_⟩;obtain⟨t,ht,hq⟩:=i A outer s H vs Q E (hr.deeper _) p;have I:Inv (cxOf CX P w K mg base N c a f d A outer s H E) [] (start N vs) H s1:=qV4 S hr.hd z hl r x;refine B90 (ht [] s1 (start N vs) H _ I hq) (λfl s' j=>?_) λe s' j=>j;have a0:∀{σ':St} {H':Hp} {v:V} {u:Value},Inv (cxOf CX P w K mg base N c a f d A outer s H E) [] σ' H' s'->RelV v u->Q v H'->CE outer P w H s Q u s':=
  λ{σ' H' v u} J rv q=>⟨v,H',J.os,J.bare,J.base,J.hok,rv,q⟩
 cases fl with
 |ret u=>
  obtain⟨v,σ',H',J,rv,q⟩:=j;exact a0 J rv q
 |next=>
  obtain⟨σ',H',J,q⟩:=j;exact a0 (v:=V.non) (u:=M6) J rfl q
 |brk=>
  obtain⟨_,_,_,q⟩:=j;exact W5 q
 |cont=>
  obtain⟨_,_,_,q⟩:=j;exact W5 q
section
variable{X:Cx}{x:Str}{p pos:Pos}{e:Expr}{es:List Expr}{t:TA}{id T:String}{r:List V->Hp->VK->Prop}
def tCB (r:List V->Hp->VK->Prop)(t:TA):TE:=λσ H Q=>t σ H λvs H1=>r vs H1 Q
theorem qA9 (l:qCF X (.builtin id) r) (k:Gl X x) (j:X.mg x=none) (i:B82 x=some (.builtin id)) (d:PA X (e::es) t) (f:x ≠ "__name__":=by decide) (a:(x==("__debug__" : Str))=false:=by decide)
  (g:B84 (e::es) X.env=(false,eval e X.env)::B84 es X.env:=by rfl) (b:(backTo pos (B84 es X.env)).any (·.1)=false:=by rfl):PE X (.Call (.Name x p) (e::es) [] pos) (tCB r t):=by
 intro c s σ H Q I h;refine C40 (qFR I k j i ?_ f a);exact PyProof.Rows.callWith_builtin1 (thn (d pos c s σ H _ I h) λus s1 ⟨vs,H1,I1,r1,q1⟩=>l c s1 σ H1 vs us Q I1 r1 q1) g b
theorem qAD (l:qCF X (.type T) r) (k:Gl X x) (j:X.mg x=none) (i:B82 x=some (.type T)) (d:PA X (e::es) t) (f:x ≠ "__name__":=by decide) (a:(x==("__debug__" : Str))=false:=by decide)
  (g:B84 (e::es) X.env=(false,eval e X.env)::B84 es X.env:=by rfl) (b:(backTo pos (B84 es X.env)).any (·.1)=false:=by rfl):PE X (.Call (.Name x p) (e::es) [] pos) (tCB r t):=by
 intro c s σ H Q I h;refine C40 (qFR I k j i ?_ f a);exact J3 (thn (d pos c s σ H _ I h) λus s1 ⟨vs,H1,I1,r1,q1⟩=>l c s1 σ H1 vs us Q I1 r1 q1) g b
end
end L2
namespace HT
open PySem PyProof.Rows
noncomputable def lexLt:List Int->List Int->Bool
 |[],[]=>false
 |[],_::_=>true
 |_::_,[]=>false
 |x::xs,y::ys=>if x=y then lexLt xs ys else decide (x<y)
theorem lexLt_cons (x y:Int)(xs ys:List Int):lexLt (x::xs) (y::ys)=if x=y then lexLt xs ys else decide (x<y):=rfl
theorem qLX:lexLt [] []=false:=rfl
theorem qK4 (y:Int)(ys:List Int):lexLt [] (y::ys)=true:=rfl
theorem qK5 (x:Int)(xs:List Int):lexLt (x::xs) []=false:=rfl
theorem eqAt_int (A:Around)(s:Shared)(a:Int)(t:Tok)(c:Int)(u:Tok):∃e,SeqAt.EqAt A s (.int a t) (.int c u) e/\(e=true↔a=c):=
 ⟨(a==c),y8 a t c u,by simp⟩
theorem rcLt_int (A:Around)(s:Shared)(a:Int)(t:Tok)(c:Int)(u:Tok)(prog:B79)(w:World)(E:Aa1)(Q:Aa1)(h:Q (.bool (decide (a<c))) s):
  wpAny (model prog w) A (richCompare .Lt (.int a t) (.int c u)) Q E s:=
 (PyProof.Rows.lt_int h:wpAny (model prog w) A (B95 .Lt (.int a t) (.int c u)) Q E s)
section
open PySem.SeqAt
open PySem.AutoSeq1 (wpAny_loadPart')
open PySem.MeetsSeq PySem.MeetsSeq2 PySem.MeetsSeq3
theorem tuple_lt_ints (l b:Addr)(i f:Array Value)(n n2:Nat)(dd a1:Option Addr)(sl a3:Array (Option Value))(ns ms:List Int)(hi:B85 i.toList ns)(hj:B85 f.toList ms):
  Meets (Builtin.«tuple.__lt__» ⟨[.ref l,.ref b],[]⟩)
   (fun _ R s=>s.heap.get? l=some { cls:=.type "tuple",dict:=dd,data:=.seq i n,slots:=sl }/\s.heap.get? b=some { cls:=.type "tuple",dict:=a1,data:=.seq f n2,slots:=a3 }/\
    R (.ok (.ret (.bool (lexLt ns ms)))) s):=
 .of_wp λo w A R s h=>by
  obtain⟨hp,g,d,tk,os⟩:=s;obtain⟨hl,hb,h⟩:=h;have f2:=A16;have z1:i.size=ns.length:=by rw[<- hi.length];simp
  have z2:f.size=ms.length:=by rw[<- hj.length];simp
  wp_walk using C63 hl,C63 hb,wpAny_forIn_list _ (fun p b s'=>b.1=none/\s'=⟨hp,g,d,tk,os⟩/\∃ (vs ws:List Value) (ns' ms':List Int),p=vs.zip ws/\
   B85 vs ns'/\B85 ws ms'/\ns'.length+f.size=ms'.length+i.size/\R (.ok (.ret (.bool (lexLt ns' ms')))) ⟨hp,g,d,tk,os⟩) _
  case turn=>
   rintro⟨y,x⟩ p b s' ⟨a0,rfl,vs,ws,ns',ms',k,z,m,j,v⟩;cases z with
   |nil=>rw[List.zip_nil_left] at k;cases k
   |cons a t hvi'=>
    cases m with
    |nil=>rw[List.zip_nil_right] at k;cases k
    |cons c u hwi'=>
     rw[z8] at k
     injection k with hyx hrest
     injection hyx with hy hx
     subst hy hx;rw[lexLt_cons] at v;simp only[D3] at j;obtain⟨e,he,r⟩:=eqAt_int A.in1 ⟨hp,g,d,tk,os⟩ a t c u;refine B75 (he o w _ _ ?_);cases e with
     |true=>
      rw[if_pos (r.mp rfl)] at v
      wp_walk
      exact⟨rfl,rfl,_,_,_,_,hrest,hvi',hwi',by lia,v⟩
     |false=>
      rw[if_neg (λq=>absurd (r.mpr q) B4)] at v;have a2:=rcLt_int A.in1 ⟨hp,g,d,tk,os⟩ a t c u o w
      wp_walk using a2
      exact⟨_,rfl,by simpa using v⟩
  case fin=>
   rintro⟨b1,b2⟩ s' ⟨a0,rfl,vs,ws,ns',ms',k,z,m,j,v⟩;simp only at a0;subst a0;have hv:lexLt ns' ms'=decide (i.size<f.size):=by
    cases z with
    |nil=>
     cases m with
     |nil=>
      simp only[O2] at j;rw[qLX];exact(decide_eq_false (by lia)).symm
     |cons c u hw=>
      simp only[O2,D3] at j;rw[qK4];exact(decide_eq_true (by lia)).symm
    |cons a t hv=>
     cases m with
     |nil=>
      simp only[O2,D3] at j;rw[qK5];exact(decide_eq_false (by lia)).symm
     |cons c u hw=>
      rw[z8] at k;cases k
   rw[hv] at v
   wp_walk
   exact⟨_,rfl,by simpa[i0] using v⟩
  case h=>
   exact⟨rfl,rfl,i.toList,f.toList,ns,ms,rfl,hi,hj,by lia,h⟩
end
section
variable{prog:B79}{w:World}{A:Around}{E:Aa1}{s:Shared}
theorem lt_tupInts {l b:Addr} {c a:Array Value} {ns g:List Int} {Q:Aa1} (z:IsTup s.heap l c)(t:IsTup s.heap b a)(hi:B85 c.toList ns)(u:B85 a.toList g)
  (hu:A.units<cLine) (h:Q (.bool (lexLt ns g)) s):wpAny (model prog w) A (B95 .Lt (.ref l) (.ref b)) Q E s:=by
 obtain⟨⟨v,y,m,sl⟩,r,o,n,q⟩:=id z;obtain⟨⟨p,j,i,k⟩,f,d,n2,e⟩:=id t;simp only at o q d e;subst o q d e;exact richCompare_meets_room (op:=.Lt) ⟨_,r,rfl⟩ ⟨_,f,rfl⟩ X6 d6 (b9 _ _) (tuple_lt_ints l b c a n n2 y j sl k ns g hi u)
  ⟨r,f,show R6 (lexLt ns g)≠A61/\Q (.bool (lexLt ns g)) s from⟨(λx=>nomatch x),h⟩⟩ hu
theorem cat_tup {t b:Addr} {vs a:List Value} {Q:Aa1} (ht:IsTup s.heap t vs.toArray)(y:IsTup s.heap b a.toArray)(x:vs≠[])
  (h1:a=[]->Q (.ref t) s) (z:a≠[]->Q (.ref s.heap.objs.size) {s with heap:=s.heap.push {cls:=.type "tuple",data:=.seq (vs++a).toArray}})
  (hsz:vs.length+a.length<=B77):wpAny (model prog w) A (C04 .Add (.ref t) (.ref b)) Q E s:=by
 obtain⟨⟨cls,o,data,r⟩,k,m,n,q⟩:=id ht;obtain⟨⟨p,h,l,i⟩,c,f,u,g⟩:=id y;simp only at m q f g;subst m q f g;have e:vs.toArray++a.toArray=(vs++a).toArray:=by simp
 by_cases j:a=[]
 ·exact concat_meets ⟨_,k,rfl⟩ ⟨_,c,rfl⟩ C54 seq_tuple_add W8 V7 (V0 _ _)
   (tuple_addW1 t b vs.toArray a.toArray n u o h r i (by simpa using x) (by simp[j])) ⟨k,c,h1 j⟩
 ·refine concat_meets ⟨_,k,rfl⟩ ⟨_,c,rfl⟩ C54 seq_tuple_add W8 V7 (V0 _ _)
   (tuple_addW2 t b vs.toArray a.toArray n u o h r i (by simpa using x) (by simpa using j) (by rw[B8,B8];exact hsz)) ⟨k,c,?_⟩
  rw[e];exact z j
noncomputable def sIx (n d:Nat):Option Int->Nat
 |none=>d
 |some v=>if v<0 then(v+(n:Int)).toNat else min v.toNat n
theorem sIx_none (n d:Nat):sIx n d none=d:=rfl
theorem sIx_nat (n d k:Nat):sIx n d (some (k:Int))=min k n:=by
 show(if(k:Int)<0 then((k:Int)+(n:Int)).toNat else min (k:Int).toNat n)=min k n
 rw[if_neg (by lia),D9]
theorem qbU (n d:Nat)(b:d<=n)(o:Option Int):sIx n d o<=n:=by
 cases o with
 |none=>exact b
 |some v=>
  show(if v<0 then(v+(n:Int)).toNat else min v.toNat n)<=n
  by_cases a:v<0
  ·rw[if_pos a];lia
  ·rw[if_neg a];exact Nat.min_le_right _ _
theorem qW4 (v:Int)(n d:Nat):(if v<0 then max (v+(n:Int)) 0 else min v (n:Int))=((sIx n d (some v):Nat):Int):=by
 show(if v<0 then max (v+(n:Int)) 0 else min v (n:Int))=(((if v<0 then(v+(n:Int)).toNat else min v.toNat n):Nat):Int)
 by_cases a:v<0
 ·simp only[if_pos a];lia
 ·simp only[if_neg a];lia
theorem qT3 (lo hi:Option Int)(n:Nat):Y8 lo hi 1 (n:Int)=(((sIx n 0 lo:Nat):Int),((sIx n n hi:Nat):Int)):=by
 have a:¬((1:Int)<0):=by lia
 unfold Y8;simp only[a,if_false];refine Prod.ext ?_ ?_
 ·cases lo with
  |none=>rfl
  |some v=>exact qW4 v n 0
 ·cases hi with
  |none=>rfl
  |some v=>exact qW4 v n n
theorem qS7 (i j:Nat):U2 (i:Int) (j:Int) 1=j-i:=by
 unfold U2;have a:(1:Int)>0:=by lia
 simp only[a,if_true,Int.ediv_one]
 split<;>lia
theorem qKF {v:Value} {o:Option Int} {Q:Option Int->Shared->Prop} (p:IsPart v o)(h:Q o s):wpAny (model prog w) A (Builtin.Slice.slicePartIndex v) Q E s:=by
 cases p with
 |none=>exact slicePart_none h
 |int i t=>exact slicePart_int h
theorem qEG {e:Addr} {d c:Value} {lo hi:Option Int} {n:Nat} {Q:Int×Int×Nat->Shared->Prop} (j:s.heap.IsSliceOf e d c .none)(i:IsPart d lo)(g:IsPart c hi)
  (h:Q (((sIx n 0 lo:Nat):Int),1,sIx n n hi-sIx n 0 lo) s):wpAny (model prog w) A (w6 (.ref e) (pure (n:Int))) Q E s:=by
 obtain⟨k,a,f,b⟩:=id j;unfold w6 Builtin.Slice.sliceFields;refine B75 (B75 (B94 a b (x:=d) rfl (B75 (B94 a b (x:=c) rfl (B75 (B94 a b (x:=.none) rfl (B76 ?_)))))));refine B75 (slicePart_none ?_);show wpAny _ _ (if((1:Int)==0)=true then _ else _) _ _ s
 rw[if_neg (by decide)]
 refine B75 (qKF i (B75 (qKF g (B75 (B76 ?_)))));show wpAny _ _ (match Y8 lo hi 1 (n:Int) with|(lo,hi)=>pure (lo,(1:Int),U2 lo hi 1)) _ _ s
 rw[qT3 lo hi n];show wpAny _ _ (pure (((sIx n 0 lo:Nat):Int),(1:Int),U2 ((sIx n 0 lo:Nat):Int) ((sIx n n hi:Nat):Int) 1)) _ _ s;rw[qS7];exact B76 h
theorem qXF (xs:Array Value)(i k:Nat):((E6 k).filterMap λ(m:Nat)=>xs[((i:Int)+(m:Int)*1).toNat]?).toArray=((xs.toList.drop i).take k).toArray:=by
 have e:(λ(m:Nat)=>xs[((i:Int)+(m:Int)*1).toNat]?)=λm=>xs[i+m]?:=by
  funext m
  have:((i:Int)+(m:Int)*1).toNat=i+m:=by lia
  rw[this]
 rw[e];have:=pick_run xs i k;rw[A91] at this;have a:((λx=>xs[x]?) ∘ λx=>i+x)=λm=>xs[i+m]?:=rfl;rw[a] at this;rw[this]
theorem getItem_tuple_cut {t g:Addr} {a:Array Value} {j k:Value} {lo hi:Option Int} {Q:Aa1} (c:IsTup s.heap t a)(l:s.heap.IsSliceOf g j k .none)(n:IsPart j lo)(o:IsPart k hi)
  (u:¬(sIx a.size 0 lo=0/\sIx a.size a.size hi=a.size))
  (h:Q (.ref s.heap.objs.size) {s with heap:=s.heap.push {cls:=.type "tuple",data:=.seq ((a.toList.drop (sIx a.size 0 lo)).take (sIx a.size a.size hi-sIx a.size 0 lo)).toArray}})
  (hsz:a.size<=B77):wpAny (model prog w) A (C42 (.ref t) (.ref g)) Q E s:=by
 have b:sizeOk (.seq ((a.toList.drop (sIx a.size 0 lo)).take (sIx a.size a.size hi-sIx a.size 0 lo)).toArray):=by
  show((a.toList.drop (sIx a.size 0 lo)).take (sIx a.size a.size hi-sIx a.size 0 lo)).toArray.size<=B77;rw[B8,C5,G0,C0]
  lia
 have v:sIx a.size a.size hi<=a.size:=qbU _ _ (A6 _) hi;obtain⟨r,f,e,p⟩:=id l;have i:s.TypeIs (.ref g) "slice":=⟨r,f,e⟩;unfold C42
 try with_reducible refine B83 ?_
 first|refine B75 (B76 ?_)|skip
 refine B75 (wpAny_sequenceKey c.typeIs (by decide) ?_)
 refine B75 (wpAny_callSpecial?_slot (name:=D0 "__getitem__") c.typeIs G5
  (B87 G5 c.typeIs entry_tuple_getitem ?_ (args_tuple_getitem _ _)))
 show wpAny _ _ (Y4 (.ref t) >>= _) _ _ s;refine B75 (tupleItemsOf_ c ?_);refine B75 (C14 i ?_);rw[if_pos (by decide)]
 refine B75 (qEG l n o ?_);have d:¬((((sIx a.size 0 lo:Nat):Int)==0&&(1:Int)==1&&(sIx a.size a.size hi-sIx a.size 0 lo)==a.size)=true):=by
  intro q;rw[J9,J9] at q;have y:((sIx a.size 0 lo:Nat):Int)=0:=eq_of_beq q.1.1;have x:sIx a.size a.size hi-sIx a.size 0 lo=a.size:=eq_of_beq q.2;exact u ⟨by lia,by lia⟩
 show wpAny _ _ (if(((sIx a.size 0 lo:Nat):Int)==0&&(1:Int)==1&&(sIx a.size a.size hi-sIx a.size 0 lo)==a.size)=true then _ else _) _ _ s
 rw[if_neg d,qXF]
 first
  |exact B75 (m:=O7 _) (B86 (B76 ⟨_,rfl,B76 h⟩) b)
  |exact B75 (m:=O7 _) (B86 (B75 (B76 (B76 ⟨_,rfl,B76 h⟩))) b)
  |exact B75 (B75 (m:=O7 _) (B86 (B76 (B76 ⟨_,rfl,B76 h⟩)) b))
  |exact B75 (B75 (m:=O7 _) (B86 (B76 ⟨_,rfl,B76 h⟩) b))
end
end HT
namespace L2
open PySem PySem.Spec PyProof.Rows
abbrev TO:=St->Hp->(Option Int->Hp->Prop)->Prop
def PO (X:Cx)(e:Option Expr)(t:TO):Prop:=
 ∀(Ab:List (Addr×Obj)) (s:Shared) (σ:St) (H:Hp) (Q:Option Int->Hp->Prop),Inv X Ab σ H s->t σ H Q->
  wpAny (model X.prog X.w) X.A (evalPart e X.env) (λu s'=>∃o H',Inv X Ab σ H' s'/\IsPart u o/\Q o H') X.xe s
def qZS:TO:=λ_ H Q=>Q none H
def qdE (t:TE):TO:=λσ H Q=>t σ H λx H1=>∃i,x=.int i/\Q (some i) H1
theorem qFG {ns:List Int} :∀{us:List Value},Vals (ns.map V.int) us->B85 us ns:=by
 induction ns with
 |nil=>intro us r;rw[z9] at r;cases r;exact .nil
 |cons n ns ih=>
  intro us r;rw[C7] at r;cases r with
  |cons r1 r2=>
   obtain⟨t,e⟩:=r1;subst e;exact .cons n t (ih r2)
section
variable{X:Cx}{e:Expr}{te:TE}{lo hi:Option Expr}{tl th:TO}{pos p2:Pos}
theorem qFW:PO X none qZS:=by
 intro a s σ H Q I h;rw[evalPart_none];exact B76 ⟨none,H,I,.none,h⟩
theorem qFV (h:PE X e te):PO X (some e) (qdE te):=by
 intro a s σ H Q I b;rw[evalPart_some];refine thn (h a s σ H _ I b) λu s1 ⟨x,H1,I1,r1,q1⟩=>?_;obtain⟨i,rfl,q⟩:=q1;obtain⟨t,rfl⟩:=r1;exact⟨some i,H1,I1,.int i t,q⟩
def SlR (X:Cx)(r:V->Option Int->Option Int->Hp->VK->Prop):Prop:=
 ∀(Ab:List (Addr×Obj)) (s:Shared) (σ:St) (H:Hp) (x:V) (v vl vu:Value) (lo hi:Option Int) (sl:Addr) (Q:VK),Inv X Ab σ H s->RelV x v->s.heap.IsSliceOf sl vl vu .none->IsPart vl lo->IsPart vu hi->r x lo hi H Q->
  ∃T id,typeLookup (.type T) "__getitem__" = pure (some (.builtin id))/\s.TypeIs v T/\wpAny (model X.prog X.w) X.A (C42 v (.ref sl)) (EP X Ab σ Q) X.xe s
def tSl (r:V->Option Int->Option Int->Hp->VK->Prop)(te:TE)(tl th:TO):TE:=λσ H Q=>te σ H λx H1=>tl σ H1 λl H2=>th σ H2 λu H3=>r x l u H3 Q
theorem qE6 {r:V->Option Int->Option Int->Hp->VK->Prop} (d:SlR X r)(i:PE X e te)(c:PO X lo tl)(m:PO X hi th):PE X (.Subscript e (.Slice lo hi none p2) pos) (tSl r te tl th):=by
 intro a s σ H Q I h;refine Subscript_ (thn (i a s σ H _ I h) λv s1 ⟨x,H1,I1,r1,q1⟩=>?_);refine wpAny_Slice (thn (c a s1 σ H1 _ I1 q1) λvl s2 ⟨l,H2,I2,pl,q2⟩=>thn (m a s2 σ H2 _ I2 q2) λvu s3 ⟨u,H3,I3,pu,q3⟩=>?_);rw[evalPart_none];refine B76 ?_;have g:Inv X a σ H3 {s3 with heap:=s3.heap.push {cls:=.type "slice",data:=.fields #[vl,vu,.none]}}:=I3.kept (t':=s3.toks) λb o q=>A3 _ q;obtain⟨T,n,j,f,k⟩:=d a {s3 with heap:=s3.heap.push {cls:=.type "slice",data:=.fields #[vl,vu,.none]}} σ H3 x v vl vu l u s3.heap.objs.size Q g r1 (B74 ..) pl pu q3;show wpAny (model X.prog X.w) X.A (subscriptTail e (.Slice lo hi none p2) v (.ref s3.heap.objs.size)) (EP X a σ Q) X.xe {s3 with heap:=s3.heap.push {cls:=.type "slice",data:=.fields #[vl,vu,.none]}};exact tail_any (ops:=[.ref s3.heap.objs.size,v]) f j k (by with_unfolding_all rfl)
noncomputable def cutV (xs:List V)(lo hi:Option Int):List V:=(xs.drop (HT.sIx xs.length 0 lo)).take (HT.sIx xs.length xs.length hi-HT.sIx xs.length 0 lo)
theorem qJO (xs:List V)(lo hi:Option Int):(cutV xs lo hi).length<=xs.length:=by
 unfold cutV;rw[C5,G0]
 lia
def rSlT (K:Ab1):V->Option Int->Option Int->Hp->VK->Prop:=λx lo hi H Q=>∃a xs,x=.ref a/\SqT K H a xs/\
 ¬(HT.sIx xs.length 0 lo=0/\HT.sIx xs.length xs.length hi=xs.length)/\∀p,H p=none->Q (.ref p) (Ag H p (.tup (cutV xs lo hi)))
theorem qQD:SlR X (rSlT X.K):=by
 intro w s σ H x v vl u e g y Q I p t m l h;obtain⟨a,d,rfl,k,n,q⟩:=h;cases p;obtain⟨f,r,j,i⟩:=I.tuple k;have c:f.toArray.size=d.length:=by rw[B8];exact r.length.symm
 refine⟨"tuple",_,G5.lookup,j.typeIs,?_⟩;refine HT.getItem_tuple_cut j t m l (by rw[c];exact n) ?_ (by rw[c];exact i)
 rw[c];refine⟨.ref s.heap.objs.size,_,I.laid (t':=s.toks) (o:=.tup (cutV d e g)) (λb z q=>A3 _ q) (A6 _) ?_,rfl,q _ (I.hok.fresh (A6 _))⟩;exact⟨F4 (qJO d e g) i,_,(r.drop (HT.sIx d.length 0 e)).take (HT.sIx d.length d.length g-HT.sIx d.length 0 e),IsTup.new _ _⟩
def qdW (K:Ab1):R2:=λx y H Q=>∃a b xs ys,x=.ref a/\y=.ref b/\SqT K H a xs/\SqT K H b ys/\xs≠[]/\xs.length+ys.length<=B77/\
 (ys=[]->Q (.ref a) H)/\(ys≠[]->∀p,H p=none->Q (.ref p) (Ag H p (.tup (xs++ys))))
theorem Vals.nil_iff {xs:List V} {a:List Value} (r:Vals xs a):a=[]↔xs=[]:=by
 cases r with
 |nil=>simp
 |cons _ _=>simp
theorem qUF:OpR X (C04 .Add) (qdW X.K):=by
 intro Ab s σ H x y v u Q I t k h;obtain⟨a,b,r,i,rfl,rfl,g,m,l,e,p,n⟩:=h;cases t;cases k;obtain⟨j,d,p1,_⟩:=I.tuple g;obtain⟨f,c,p2,_⟩:=I.tuple m;refine HT.cat_tup p1 p2 (λz=>l (d.nil_iff.mp z)) (λz=>⟨.ref a,H,I,rfl,p (c.nil_iff.mp z)⟩) (λz=>?_) (by rw[<- d.length,<- c.length];exact e)
 refine⟨.ref s.heap.objs.size,_,I.laid (t':=s.toks) (o:=.tup (r++i)) (λb ob q=>A3 _ q) (A6 _) ?_,rfl,n (λw=>z (c.nil_iff.mpr w)) _ (I.hok.fresh (A6 _))⟩;exact⟨by rw[A8];exact e,_,d.append c,IsTup.new _ _⟩
end
noncomputable def ixN (n:Nat)(i:Int):Option Nat:=if 0<=i then(if i<n then some i.toNat else none) else if -(n:Int)<=i then some (i+n).toNat else none
noncomputable def atI {α:Type}(xs:List α)(i:Int):Option α:=(ixN xs.length i).bind λj=>xs[j]?
theorem qV0 {n:Nat} {i:Int} {j:Nat} (h:ixN n i=some j):seqIndex? i n=some j/\j<n/\-(n:Int)<=i/\i<n:=by
 unfold ixN at h;by_cases b:0<=i
 ·rw[if_pos b] at h;by_cases a:i<n
  ·rw[if_pos a] at h;have e:i.toNat=j:=D7 h;exact⟨by rw[seqIndex_of b a,e],by lia,by lia,a⟩
  ·rw[if_neg a] at h;cases h
 ·rw[if_neg b] at h;by_cases a : -(n:Int)<=i
  ·rw[if_pos a] at h;have e:(i+n).toNat=j:=D7 h;exact⟨by rw[seqIndex_neg (by lia) a,e],by lia,a,by lia⟩
  ·rw[if_neg a] at h;cases h
theorem qWH {α:Type} {xs:List α} {i:Int} {v:α} (h:atI xs i=some v):∃j,seqIndex? i xs.length=some j/\xs[j]?=some v/\j<xs.length/\-(xs.length:Int)<=i/\i<xs.length:=by
 unfold atI at h;cases e:ixN xs.length i with
 |none=>rw[e] at h;cases h
 |some j=>
  rw[e] at h;obtain⟨a,c,d,b⟩:=qV0 e;exact⟨j,a,h,c,d,b⟩
theorem qWG {α:Type} {xs:List α} {j:Nat} {v:α} (h:xs[j]?=some v):atI xs (j:Int)=some v:=by
 have a:j<xs.length:=(A5.mp h).1;have e:ixN xs.length (j:Int)=some j:=by
  unfold ixN;rw[if_pos (by lia),if_pos (by lia)];simp
 unfold atI;rw[e];exact h
theorem qRR {α:Type} (xs:List α)(v:α):atI (xs++[v]) (-1)=some v:=by
 have a:(xs++[v]).length=xs.length+1:=by simp
 have e:ixN (xs++[v]).length (-1)=some xs.length:=by
  unfold ixN;rw[a,if_neg (by decide),if_pos (by lia)]
  congr 1
  lia
 unfold atI;rw[e];show(xs++[v])[xs.length]?=some v;simp
def qb7 (b:Expr):Prop:=∀o i,subscripted b false o i=operate [o,i] (C42 o i)
def IxR (X:Cx)(r:R2):Prop:=
 ∀(value slice:Expr) (Ab:List (Addr×Obj)) (s:Shared) (σ:St) (H:Hp) (x y:V) (v u:Value) (Q:VK),Inv X Ab σ H s->RelV x v->RelV y u->r x y H Q->
  subscripted slice false v u=operate [v,u] (C42 v u)->wpAny (model X.prog X.w) X.A (subscriptTail value slice v u) (EP X Ab σ Q) X.xe s
def MtR (X:Cx)(id:String)(r:V->List V->Hp->VK->Prop):Prop:=
 ∀(Ab:List (Addr×Obj)) (s:Shared) (σ:St) (H:Hp) (x:V) (xs:List V) (v:Value) (us:List Value) (Q:VK),Inv X Ab σ H s->RelV x v->Vals xs us->r x xs H Q->
  wpAny (model X.prog X.w) X.A (call (.builtin id) (v::us)) (EP X Ab σ Q) X.xe s
section
variable{X:Cx}{a b:Expr}{ta tb:TE}{pos:Pos}
theorem qB7 {r:R2} (d:IxR X r)(c:PE X a ta)(i:PE X b tb)(m:qb7 b):PE X (.Subscript a b pos) (tOp r ta tb):=by
 intro j s σ H Q I h;exact Subscript_ (binT c i I h λv u g x y l f k e q=>d a b j g σ l x y v u Q f k e q (m _ _))
def rIxL (K:Ab1):R2:=λx y H Q=>∃p xs i v,x=.ref p/\y=.int i/\SqL K H p xs/\atI xs i=some v/\Q v H
def rIxT (K:Ab1):R2:=λx y H Q=>∃p xs i v,x=.ref p/\y=.int i/\SqT K H p xs/\atI xs i=some v/\Q v H
theorem qCD:IxR X (rIxL X.K):=by
 intro g k n s σ H x y v u Q I rx ry h o;obtain⟨p,xs,i,z,rfl,rfl,hq,he,q⟩:=h;cases rx;obtain⟨t,rfl⟩:=ry;obtain⟨f,r,c,hz⟩:=I.list hq;obtain⟨j,b,h2,h3,h4,h5⟩:=qWH he;obtain⟨w,m,e⟩:=r.get h2;have hl:=r.length;have hn:=qND;have a:EP X n σ Q w s:=⟨z,H,I,e,q⟩;by_cases l:0<=i
 ·have d:i.toNat=j:=by
   rw[seqIndex_of l h5] at b;exact D7 b
  exact item_listR c.isList l (by lia) (by rw[d];simpa using m) a o
 ·have d:(i+(f.toArray.size:Int)).toNat=j:=by
   rw[seqIndex_neg (by lia) h4] at b
   rw[B8,<- hl];exact D7 b
  exact subscriptTail_builtinR (x:=w) c.isList.typeIs slot_list_getitem.lookup
   (wpAny_getItem_list_neg (Q:=λr s'=>r=w/\EP X n σ Q r s') c.isList (by lia) (by rw[B8]<;>lia) (by lia) (by rw[d];simpa using m) ⟨rfl,a⟩) o
theorem qB9:IxR X (rIxT X.K):=by
 intro c d f s σ H x y v u Q I k g h hs;obtain⟨p,xs,i,z,rfl,rfl,hq,he,q⟩:=h;cases k;obtain⟨t,rfl⟩:=g;obtain⟨m,r,e,hz⟩:=I.tuple hq;obtain⟨j,o,n,h3,h4,h5⟩:=qWH he;obtain⟨w,ew,a⟩:=r.get n;have l:=r.length;have hn:=qND;have b:EP X f σ Q w s:=⟨z,H,I,a,q⟩;exact subscriptTail_builtinR (x:=w) e.typeIs slot_tuple_getitem.lookup
  (getItem_tuple (j:=j) (Q:=λr s'=>r=w/\EP X f σ Q r s') e (by lia) (by lia) (by rw[B8,<- l];exact o) (by simpa using ew) ⟨rfl,b⟩) hs
theorem qSD (a:List Value) (n j:Nat) (u:Value):P7 (·.setIfInBounds j u) {cls:=.type "list",data:=.seq a.toArray n}={cls:=.type "list",data:=.seq (a.set j u).toArray n}:=by
 simp[P7]
theorem Inv.lst {Ab:List (Addr×Obj)} {σ:St} {H:Hp} {p:Addr} {xs:List V} (I:Inv X Ab σ H s)(h:H p=some (.lst xs)):
  ∃(its:List Value) (n:Nat),Vals xs its/\s.heap.get? p=some {cls:=.type "list",data:=.seq its.toArray n}/\xs.length<=B77:=by
 obtain⟨z,its,n,r,e⟩:=I.hok p _ h;exact⟨its,n,r,e,z⟩
theorem Inv.lstUpd {Ab:List (Addr×Obj)} {σ:St} {H:Hp} {p:Addr} {xs ys:List V} {a its':List Value} {n c:Nat} {f:Obj->Obj} (I:Inv X Ab σ H s)(h:H p=some (.lst xs))
  (i:s.heap.get? p=some {cls:=.type "list",data:=.seq a.toArray n}) (d:f {cls:=.type "list",data:=.seq a.toArray n}={cls:=.type "list",data:=.seq its'.toArray c}) (r:Vals ys its') (g:ys.length<=B77) (t:Nat):
  Inv X Ab σ (Ag H p (.lst ys)) {s with heap:=s.heap.update p f,toks:=t}:=by
 have e:(s.heap.update p f).get? p=some {cls:=.type "list",data:=.seq its'.toArray c}:=by
  rw[L5 f i (by rw[d]<;>rfl),d]
 refine I.write (x:=p) (e:=p) (by rw[h];trivial) (.inl rfl) (λb u j q=>(F3 _ _ (F5 j)).trans q) ⟨_,e⟩ ?_
 exact⟨g,its',c,r,e⟩
def qdU:V->V->V->Hp->(Hp->Prop)->Prop:=λo i v H Q=>∃p xs k j,o=.ref p/\i=.int k/\H p=some (.lst xs)/\ixN xs.length k=some j/\Q (Ag H p (.lst (xs.set j v)))
theorem qLF:PSet X qdU:=by
 intro Ab s σ H o i v ov iv u Q I z ri rv h;obtain⟨p,y,k,j,rfl,rfl,w,x,q⟩:=h;cases z;obtain⟨t,rfl⟩:=ri;obtain⟨a,n,r,e,hz⟩:=I.lst w;obtain⟨b,h2,m,g⟩:=qV0 x;have d:=r.length;have hn:=qND;have l:Inv X Ab σ (Ag H p (.lst (y.set j v))) {s with heap:=s.heap.update p (P7 (·.setIfInBounds j u))}:=
  I.lstUpd w e (qSD a n j u) (r.set rv j) (by rw[A47];exact hz) s.toks
 by_cases f:0<=k
 ·have c:k.toNat=j:=by
   rw[seqIndex_of f g] at b;exact D7 b
  exact PySem.W.ki_setAt e f (by lia) (by rw[B8,<- d];exact g) (by rw[c];exact⟨_,l,q⟩)
 ·have c:(k+(a.toArray.size:Int)).toNat=j:=by
   rw[seqIndex_neg (by lia) m] at b
   rw[B8,<- d];exact D7 b
  exact PySem.W.ki_setBack e (by lia) (by rw[B8,<- d];exact m) (by lia) (by rw[c];exact⟨_,l,q⟩)
theorem qN0 (lo hi:Option Int)(n:Nat):(C34 lo hi none n).1=((HT.sIx n 0 lo:Nat):Int)/\(C34 lo hi none n).2.1=((HT.sIx n n hi:Nat):Int)/\(C34 lo hi none n).2.2=1:=by
 refine⟨?_,?_,rfl⟩
 ·cases lo with
  |none=>simp[C34,HT.sIx]
  |some i=>
   simp only[C34,HT.sIx,B22,show(1:Int)>0 by decide,if_true]
   by_cases h:i<0
   ·simp only[h,if_true]<;>lia
   ·simp only[h,if_false]<;>lia
 ·cases hi with
  |none=>simp[C34,HT.sIx]
  |some i=>
   simp only[C34,HT.sIx,B22,show(1:Int)>0 by decide,if_true]
   by_cases h:i<0
   ·simp only[h,if_true]<;>lia
   ·simp only[h,if_false]<;>lia
theorem qLE (a:List Value)(lo hi:Option Int):slicePick a.toArray lo hi none=((a.drop (HT.sIx a.length 0 lo)).take (HT.sIx a.length a.length hi-HT.sIx a.length 0 lo)).toArray:=by
 obtain⟨b,c,d⟩:=qN0 lo hi a.toArray.size;unfold slicePick;rw[b,c,d];simp only[sliceRange_one,pick_run,B8]<;>rfl
def rSlL (K:Ab1):V->Option Int->Option Int->Hp->VK->Prop:=λx lo hi H Q=>∃a xs,x=.ref a/\SqL K H a xs/\∀p,H p=none->Q (.ref p) (Ag H p (.lst (cutV xs lo hi)))
theorem qOL:SlR X (rSlL X.K):=by
 intro u s σ H x v z t e f w Q I n p m l h;obtain⟨a,c,rfl,k,q⟩:=h;cases n;obtain⟨j,r,g,i⟩:=I.list k;have d:=r.length;refine⟨"list",_,slot_list_getitem.lookup,g.isList.typeIs,?_⟩;refine wpAny_getItem_list_slice g.isList p m l .none (by simp) ?_ (by rw[B8]<;>lia)
 rw[qLE,<- d];refine⟨.ref s.heap.objs.size,_,I.laid (t':=s.toks) (o:=.lst (cutV c e f)) (λb y q=>A3 _ q) (A6 _) ?_,rfl,q _ (I.hok.fresh (A6 _))⟩;exact⟨F4 (qJO c e f) i,_,0,(r.drop (HT.sIx c.length 0 e)).take (HT.sIx c.length c.length f-HT.sIx c.length 0 e),A9 _ rfl⟩
noncomputable def qM0:V->Bool
 |.non=>true
 |.bl _=>true
 |.int _=>true
 |.str _=>true
 |_=>false
noncomputable def eqV:V->V->Bool
 |.non,.non=>true
 |.bl a,.bl b=>a==b
 |.bl a,.int b=>(if a then 1 else 0)==b
 |.int a,.bl b=>a==(if b then 1 else 0)
 |.int a,.int b=>a==b
 |.str a,.str b=>a==b
 |_,_=>false
theorem qcX {y x:V} {u v:Value} (e:RelV y u)(c:RelV x v)(g:qM0 y=true)(f:qM0 x=true):SeqAt.EqAt A s u v (eqV y x):=by
 cases y with
 |non=>
  cases e;cases x with
  |non=>cases c;exact B36 _
  |bl b=>cases c;exact SeqAt.EqAt.none_bool b
  |int b=>obtain⟨t,rfl⟩:=c;exact SeqAt.EqAt.none_int b t
  |str b=>obtain⟨t,rfl⟩:=c;exact SeqAt.EqAt.none_str b t
  |_=>exact absurd (show false=true from f) B4
 |bl a=>
  cases e;cases x with
  |non=>cases c;exact SeqAt.EqAt.bool_none a
  |bl b=>cases c;exact SeqAt.EqAt.bool_bool a b
  |int b=>obtain⟨t,rfl⟩:=c;exact SeqAt.EqAt.bool_int a b t
  |str b=>obtain⟨t,rfl⟩:=c;exact SeqAt.EqAt.bool_str a b t
  |_=>exact absurd (show false=true from f) B4
 |int a=>
  obtain⟨d,rfl⟩:=e;cases x with
  |non=>cases c;exact SeqAt.EqAt.int_none a d
  |bl b=>cases c;exact SeqAt.EqAt.int_bool a d b
  |int b=>obtain⟨t,rfl⟩:=c;exact y8 a d b t
  |str b=>obtain⟨t,rfl⟩:=c;exact A86 a d b t
  |_=>exact absurd (show false=true from f) B4
 |str a=>
  obtain⟨d,rfl⟩:=e;cases x with
  |non=>cases c;exact SeqAt.EqAt.str_none a d
  |bl b=>cases c;exact SeqAt.EqAt.str_bool a d b
  |int b=>obtain⟨t,rfl⟩:=c;exact A87 a d b t
  |str b=>obtain⟨t,rfl⟩:=c;exact SeqAt.EqAt.str_str a d b t
  |_=>exact absurd (show false=true from f) B4
 |_=>exact absurd (show false=true from g) B4
noncomputable def eqU (x:V)(u:Value):Bool:=match u with
 |.none=>eqV .non x
 |.bool b=>eqV (.bl b) x
 |.int i _=>eqV (.int i) x
 |.str z _=>eqV (.str z) x
 |_=>false
theorem qZG {x y:V} {u:Value} (r:RelV y u)(f:qM0 y=true):eqU x u=eqV y x:=by
 cases y with
 |non=>cases r;rfl
 |bl b=>cases r;rfl
 |int i=>obtain⟨t,rfl⟩:=r;rfl
 |str z=>obtain⟨t,rfl⟩:=r;rfl
 |_=>exact absurd (show false=true from f) B4
theorem qJV {x:V} :∀{xs:List V} {us:List Value},Vals xs us->xs.all qM0=true->us.any (eqU x)=xs.any λy=>eqV y x
 |_,_,.nil,_=>rfl
 |y::xs,u::us,.cons r t,f=>by
  rw[B57,J9] at f;rw[V8,V8,qZG r f.1,qJV t f.2]
theorem qGJ {x:V} {v:Value} (rx:RelV x v)(fx:qM0 x=true):∀{xs:List V} {us:List Value},Vals xs us->xs.all qM0=true->∀u∈us,SeqAt.EqAt A s u v (eqU x u)
 |_,_,.nil,_=>λu hu=>by cases hu
 |y::xs,u::us,.cons r t,f=>λu' hu=>by
  rw[B57,J9] at f;rcases B7.mp hu with rfl|hu
  ·rw[qZG r f.1];exact qcX r rx f.1 fx
  ·exact qGJ rx fx t f.2 u' hu
noncomputable def inV (x:V)(xs:List V):Bool:=xs.any λy=>eqV y x
def rIn (K:Ab1)(neg:Bool):R2:=λx y H Q=>∃p xs,y=.ref p/\(SqL K H p xs\/SqT K H p xs)/\qM0 x=true/\xs.all qM0=true/\Q (.bl (if neg then !inV x xs else inV x xs)) H
theorem qDX:OpR X (B95 .In) (rIn X.K false):=by
 intro j s σ H x y v u Q I f i h;obtain⟨p,k,rfl,hq,e,b,q⟩:=h;cases i;rcases hq with hq|hq
 ·obtain⟨a,r,c,g⟩:=I.list hq;refine SeqAt.in_listAt (eqU x) c.isList (λw d=>qGJ f e r b w (by simpa using d)) ⟨.bl _,H,I,rfl,?_⟩
  rw[show a.toArray.any (eqU x)=a.any (eqU x) by simp,qJV r b]
  exact q
 ·obtain⟨a,r,c,g⟩:=I.tuple hq;refine SeqAt.in_tupleAt (eqU x) c (λw d=>qGJ f e r b w (by simpa using d)) ⟨.bl _,H,I,rfl,?_⟩
  rw[show a.toArray.any (eqU x)=a.any (eqU x) by simp,qJV r b]
  exact q
theorem qNA:OpR X (B95 .NotIn) (rIn X.K true):=by
 intro j s σ H x y v u Q I f i h;obtain⟨p,k,rfl,hq,e,b,q⟩:=h;cases i;rcases hq with hq|hq
 ·obtain⟨a,r,c,g⟩:=I.list hq;refine A92 (eqU x) c.isList (λw d=>qGJ f e r b w (by simpa using d)) ⟨.bl _,H,I,rfl,?_⟩
  rw[show a.toArray.any (eqU x)=a.any (eqU x) by simp,qJV r b]
  exact q
 ·obtain⟨a,r,c,g⟩:=I.tuple hq;refine SeqAt.notIn_tupleAt (eqU x) c (λw d=>qGJ f e r b w (by simpa using d)) ⟨.bl _,H,I,rfl,?_⟩
  rw[show a.toArray.any (eqU x)=a.any (eqU x) by simp,qJV r b]
  exact q
theorem qAC:qCF X (.builtin "len") (λxs H Q=>∃p ys,xs=[.ref p]/\(SqL X.K H p ys\/SqT X.K H p ys)/\Q (.int ys.length) H):=by
 intro i s σ H xs j Q I r h;obtain⟨p,ys,rfl,hq,q⟩:=h;obtain⟨u,rfl,f⟩:=qDQ r;cases f;have g:=qND;rcases hq with hq|hq
 ·obtain⟨c,b,d,e⟩:=I.list hq;have a:=b.length;exact Calls.call_len_list d.isList (by simp only[B8]<;>lia) ⟨.int ys.length,H,I.tok _,⟨s.toks+1,by rw[B8,a]⟩,q⟩
 ·obtain⟨c,b,d,e⟩:=I.tuple hq;have a:=b.length;exact len_tuple d (by simp only[B8]<;>lia) ⟨.int ys.length,H,I.tok _,⟨s.toks+1,by rw[B8,a]⟩,q⟩
theorem qHO:qCF X (.type "list") (λxs H Q=>∃p ys,xs=[.ref p]/\(SqL X.K H p ys\/SqT X.K H p ys)/\∀l,H l=none->Q (.ref l) (Ag H l (.lst ys))):=by
 intro t s σ H xs x Q I r h;obtain⟨p,ys,rfl,hq,q⟩:=h;obtain⟨u,rfl,v⟩:=qDQ r;cases v;have f:∀(its:List Value),Vals ys its->ys.length<=B77->∀(h':Heap) (c':Nat),(∀b o',s.heap.get? b=some o'->h'.get? b=some o')->
   h'.get? s.heap.objs.size=some {cls:=.type "list",dict:=none,data:=.seq its.toArray c',slots:=#[]}->EP X t σ Q (.ref s.heap.objs.size) {s with heap:=h'}:=λits a c h' c' g e=>
  ⟨.ref s.heap.objs.size,_,I.laid (t':=s.toks) g (A6 _) (show ObjOk X.prog X.w _ h' _ (.lst ys) from⟨c,its,c',a,e⟩),rfl,q _ (I.hok.fresh (A6 _))⟩
 rcases hq with hq|hq
 ·obtain⟨its,a,j,c⟩:=I.list hq;have d:=a.length;obtain⟨o,i,m,n,k⟩:=j.isList;exact call_list_seq p (.inl rfl) i m k (λh' c' g e=>f its a c h' c' g e) (by simp only[B8]<;>lia)
 ·obtain⟨its,a,j,c⟩:=I.tuple hq;have d:=a.length;obtain⟨o,i,m,n,k⟩:=j;exact call_list_seq p (.inr rfl) i m k (λh' c' g e=>f its a c h' c' g e) (by simp only[B8]<;>lia)
theorem qAF:qCF X (.type "tuple") (λxs H Q=>∃p ys,xs=[.ref p]/\((SqL X.K H p ys/\∀l,H l=none->Q (.ref l) (Ag H l (.tup ys)))\/(SqT X.K H p ys/\Q (.ref p) H))):=by
 intro k s σ H xs x Q I r h;obtain⟨p,ys,rfl,h⟩:=h;obtain⟨u,rfl,t⟩:=qDQ r;cases t;rcases h with⟨g,q⟩|⟨g,q⟩
 ·obtain⟨a,d,f,i⟩:=I.list g;have j:=d.length;refine call_tuple_list f.isList (λc v=>?_) (by simp only[B8]<;>lia)
  have m:Inv X k σ H {s with heap:=c}:=I.kept (t':=s.toks) v;have n:Inv X k σ (Ag H c.objs.size (.tup ys)) {s with heap:=c.push {cls:=.type "tuple",data:=.seq a.toArray}}:=
   m.laid (t':=s.toks) (λb o e=>A3 _ e) (A6 _) (show ObjOk X.prog X.w _ _ _ (.tup ys) from⟨i,a,d,IsTup.new _ _⟩)
  exact⟨.ref c.objs.size,_,n,rfl,q _ (m.hok.fresh (A6 _))⟩
 ·obtain⟨a,d,f,i⟩:=I.tuple g;exact call_tuple_same f ⟨.ref p,H,I,rfl,q⟩
def tyV (K:Ab1)(T:String)(x:V)(H:Hp):Prop:=match x with
 |.str _=>T = "str"
 |.int _=>T = "int"
 |.ref p=>(T = "list"/\∃xs,SqL K H p xs)\/(T = "tuple"/\∃o,K.lookup p=some o/\o.cls=.type "tuple"/\o.dict=none)\/
   (T = "dict"/\((∃Af,H p=some (.dK Af))\/∃Af,H p=some (.dT Af)))\/(T = "set"/\∃S n,H p=some (.set S n))
 |_=>False
theorem qYQ {Ab:List (Addr×Obj)} {σ:St} {H:Hp} {T:String} {x:V} {v:Value} (I:Inv X Ab σ H s)(r:RelV x v)(f:tyV X.K T x H):
  s.TypeIs v T/\∀a,v=.ref a->∃ob,s.heap.get? a=some ob/\ob.dict=none:=by
 cases x with
 |str z=>
  obtain⟨t,rfl⟩:=r;cases(show T = "str" from f);exact⟨typeIs_str s z t,λ_ e=>nomatch e⟩
 |int i=>
  obtain⟨t,rfl⟩:=r;cases(show T = "int" from f);exact⟨typeIs_int s i t,λ_ e=>nomatch e⟩
 |ref p=>
  cases r;rcases f with⟨rfl,u,m⟩|⟨rfl,o,b,q,h⟩|⟨rfl,b⟩|⟨rfl,S,n,b⟩
  ·obtain⟨l,_,j,_⟩:=I.list m;refine⟨j.isList.typeIs,λa e=>?_⟩;cases e;obtain⟨o,n,e,c,h,_⟩:=j;exact⟨o,e,h⟩
  ·refine⟨⟨o,I.kIn p o b,q⟩,λa e=>?_⟩;cases e;exact⟨o,I.kIn _ o b,h⟩
  ·have z:∃o,s.heap.get? p=some o/\o.ExactDict:=by
    rcases b with⟨k,b⟩|⟨k,b⟩
    ·obtain⟨_,_,_,_,o,_,_,e,d,_⟩:=I.hok p _ b;exact⟨o,e,d⟩
    ·obtain⟨_,_,_,_,o,_,_,e,d,_⟩:=I.hok p _ b;exact⟨o,e,d⟩
   obtain⟨o,e,d⟩:=z;refine⟨⟨o,e,d.1⟩,λa g=>?_⟩;cases g;exact⟨o,e,d.2.1⟩
  ·obtain⟨o,_,_,_,e,d,_⟩:=I.hok p _ b;refine⟨⟨o,e,d.1⟩,λa g=>?_⟩;cases g;exact⟨o,e,d.2.1⟩
 |_=>exact W5 f
def tBM0 (K:Ab1)(T:String)(r:V->List V->Hp->VK->Prop)(to:TE):TE:=λσ H Q=>to σ H λx H1=>tyV K T x H1/\r x [] H1 Q
def tBM (K:Ab1)(T:String)(r:V->List V->Hp->VK->Prop)(to:TE)(t:TA):TE:=λσ H Q=>to σ H λx H1=>tyV K T x H1/\t σ H1 λxs H2=>r x xs H2 Q
variable{o e:Expr}{es:List Expr}{to:TE}{t:TA}{name:Str}{apos cpos:Pos}{T id:String}{r:V->List V->Hp->VK->Prop}
theorem qUA (j:PlainAttrs T) (c:Slot T name id) (d:typeOf (.builtin id)=pure (.type "method_descriptor")) (k:MtR X id r) (f:PE X o to)
  (b:C51 o name X.env (eval o X.env)=eval o X.env:=by rfl) (a:(apos.endLine==cpos.line)=true:=by rfl):PE X (.Call (.Attribute o name apos) [] [] cpos) (tBM0 X.K T r to):=by
 intro e s σ H Q I h;refine wpAny_Call_method0_late b a (thn (f e s σ H _ I h) λv s1 ⟨x,H1,I1,r1,ty,q1⟩=>?_);obtain⟨i,g⟩:=qYQ I1 r1 ty;exact⟨T,id,j,c,d,i,g,d7 rfl (PySem.evalArgs_none (k e s1 σ H1 x [] v [] Q I1 r1 .nil q1))⟩
theorem qLS (p:PlainAttrs T) (f:Slot T name id) (g:typeOf (.builtin id)=pure (.type "method_descriptor")) (q:MtR X id r) (l:PE X o to) (k:PA X (e::es) t)
  (c:C51 o name X.env (eval o X.env)=eval o X.env:=by rfl)
  (d:((backTo cpos (B84 (e::es) X.env)).all (fun x=>!x.1) && (backToKw cpos (C48 [] X.env)).all (fun x=>x.1.isSome)
   && decide ((e::es).length+([]:List C41).length+(if([]:List C41).isEmpty then 0 else 1)<30))=true:=by rfl)
  (b:(apos.endLine==cpos.line)=true:=by rfl) (u:B84 (e::es) X.env=(false,eval e X.env)::B84 es X.env:=by rfl) (a:(backTo cpos (B84 es X.env)).any (·.1)=false:=by rfl):
  PE X (.Call (.Attribute o name apos) (e::es) [] cpos) (tBM X.K T r to t):=by
 intro i s σ H Q I h;refine wpAny_Call_method_late c d b rfl (thn (l i s σ H _ I h) λv s1 ⟨x,H1,I1,r1,ty,q1⟩=>?_);obtain⟨n,m⟩:=qYQ I1 r1 ty;refine⟨T,id,p,f,g,n,m,?_⟩;have j:=k cpos i s1 σ H1 _ I1 q1;rw[u] at j ⊢;refine d7 (by show(false||(backTo cpos (B84 es X.env)).any (·.1))=false;rw[a]<;>rfl) (A62 ?_)
 exact thn j λus s2 ⟨vs,H2,I2,r2,q2⟩=>q i s2 σ H2 x vs v us Q I2 r1 r2 q2
end
def MtM (X:Cx)(id:String)(r:V->List V->Hp->VK->Prop):Prop:=
 ∀(Ab:List (Addr×Obj)) (s:Shared) (σ:St) (H:Hp) (x:V) (xs:List V) (v:Value) (us:List Value) (Q:VK),Inv X Ab σ H s->RelV x v->Vals xs us->r x xs H Q->
  wpAny (model X.prog X.w) X.A (call (.builtin id) (v::us)) (EP X Ab σ Q) X.xe s
theorem Vals.one:∀{x:V} {us:List Value},Vals [x] us->∃u,us=[u]/\RelV x u
 |_,_,.cons r .nil=>⟨_,rfl,r⟩
theorem Vals.two:∀{x y:V} {us:List Value},Vals [x,y] us->∃u v,us=[u,v]/\RelV x u/\RelV y v
 |_,_,_,.cons r (.cons q .nil)=>⟨_,_,rfl,r,q⟩
theorem Vals.zero:∀{us:List Value},Vals [] us->us=[]
 |_,.nil=>rfl
theorem Vals.reverse {xs:List V} {a:List Value} (h:Vals xs a):Vals xs.reverse a.reverse:=by
 induction h with
 |nil=>exact .nil
 |cons r t ih=>rw[i8,i8];exact Vals.append ih (.cons r .nil)
theorem Vals.rep {xs:List V} {us:List Value} (h:Vals xs us):∀k:Nat,Vals (D8 k xs).flatten (D8 k us).flatten
 |0=>.nil
 |k+1=>by
  rw[P8,P8,Y2,Y2];exact Vals.append h (Vals.rep h k)
theorem qNQ (its:List Value):∀(k:Nat) (acc:List Value),
  B51 (λx1 x2=>x1++x2) acc.toArray (D8 k its.toArray)=(acc++(D8 k its).flatten).toArray
 |0,acc=>by simp
 |k+1,acc=>by
  have e:acc.toArray++its.toArray=(acc++its).toArray:=by simp
  have e2:(acc++its)++(D8 k its).flatten=acc++(D8 (k+1) its).flatten:=by
   rw[P8,Y2,M7]
  rw[<- e2,<- qNQ its k (acc++its),<- e,P8,V1]
section
variable{X:Cx}{Ab:List (Addr×Obj)}{σ:St}{H:Hp}{s:Shared}{l b:Addr}{xs ys zs:List V}
theorem Inv.lset {a its':List Value} {n:Nat} {f:Array Value->Array Value} {t':Nat} (I:Inv X Ab σ H s)(g:H l=some (.lst xs))
  (e:s.heap.get? l=some {cls:=.type "list",data:=.seq a.toArray n}) (c:f a.toArray=its'.toArray) (h:Vals ys its') (b:ys.length<=B77):
  Inv X Ab σ (Ag H l (.lst ys)) {s with heap:=s.heap.update l (P7 f),toks:=t'}:=by
 have q:=PySem.IsL.update e f;rw[c] at q;refine I.write (x:=l) (e:=l) (by rw[g];exact trivial) (.inl rfl) (λj u d i=>(F3 s.heap (P7 f) (F5 d)).trans i) ⟨_,q⟩ ?_
 exact⟨b,its',_,h,q⟩
theorem Inv.lnew {a:List Value} {t':Nat} (I:Inv X Ab σ H s)(c:Vals ys a)(b:ys.length<=B77):
  Inv X Ab σ (Ag H s.heap.objs.size (.lst ys)) {s with heap:=s.heap.push {cls:=.type "list",data:=.seq a.toArray},toks:=t'}:=
 I.laid (λ_ _ q=>A3 _ q) (A6 _) ⟨b,a,0,c,A9 _ rfl⟩
theorem Inv.fresh (I:Inv X Ab σ H s):H s.heap.objs.size=none:=I.hok.fresh (A6 _)
theorem Inv.lstM (I:Inv X Ab σ H s) (a:H l=some (.lst xs)):xs.length<=B77/\∃(its:List Value) (n:Nat),Vals xs its/\xs.length=its.length/\s.heap.get? l=some {cls:=.type "list",data:=.seq its.toArray n}:=by
 obtain⟨z,its,n,r,e⟩:=I.hok l _ a;exact⟨z,its,n,r,r.length,e⟩
theorem qXN {n:Nat} (h:n<=B77):a8 n=false:=by
 unfold a8;exact decide_eq_false (by lia)
end
section
variable{X:Cx}
def qa4:V->List V->Hp->VK->Prop:=λx vs H Q=>∃l xs y,x=.ref l/\vs=[y]/\H l=some (.lst xs)/\xs.length<B77/\Q .non (Ag H l (.lst (xs++[y])))
theorem qC3:MtM X "list.append" qa4:=by
 intro j s σ H x k v m Q I d c h;obtain⟨l,o,y,rfl,rfl,b,g,q⟩:=h;cases d;obtain⟨u,rfl,f⟩:=c.one;obtain⟨z,a,n,r,i,e⟩:=I.lstM b;refine C43 F.slot_list_append ⟨_,e,rfl⟩ F.entry_list_append (F.args_list_append_2 _ _) (PySem.list_append l a.toArray n u (by rw[B8];lia)) ⟨e,?_⟩
 refine⟨.non,_,I.lset (its':=a++[u]) b e (by simp) (r.append (.cons f .nil)) ?_,rfl,q⟩
 rw[A8,C1]
 lia
def qX9:V->List V->Hp->VK->Prop:=λx vs H Q=>∃l xs,x=.ref l/\vs=[]/\H l=some (.lst xs)/\Q .non (Ag H l (.lst xs.reverse))
theorem qS9:MtM X "list.reverse" qX9:=by
 intro i s σ H x j v k Q I f d h;obtain⟨l,m,rfl,rfl,c,q⟩:=h;cases f;have b:=d.zero;subst b;obtain⟨z,a,n,r,g,e⟩:=I.lstM c;refine C43 F.slot_list_reverse ⟨_,e,rfl⟩ F.entry_list_reverse (F.args_list_reverse_1 _) (AutoSeq1.list_reverse_list_0 l a.toArray n (by rw[B8];lia)) ⟨e,?_⟩
 refine⟨.non,_,I.lset (its':=a.reverse) c e (by simp) r.reverse ?_,rfl,q⟩
 rw[A78]
 lia
def qbY:V->List V->Hp->VK->Prop:=λx vs H Q=>∃l xs,x=.ref l/\vs=[]/\H l=some (.lst xs)/\Q .non (Ag H l (.lst []))
theorem qR3:MtM X "list.clear" qbY:=by
 intro i s σ H x j v k Q I f d h;obtain⟨l,m,rfl,rfl,c,q⟩:=h;cases f;have b:=d.zero;subst b;obtain⟨z,a,n,r,g,e⟩:=I.lstM c;refine C43 F.slot_list_clear ⟨_,e,rfl⟩ F.entry_list_clear (F.args_list_clear_1 _) (AutoSeq1.list_clear_list_0 l a.toArray n (by rw[B8];lia)) ⟨e,?_⟩
 exact⟨.non,_,I.lset (its':=[]) (ys:=[]) c e rfl .nil (E7 _),rfl,q⟩
def rCat:R2:=λx y H Q=>∃l b xs zs,x=.ref l/\y=.ref b/\H l=some (.lst xs)/\H b=some (.lst zs)/\xs.length+zs.length<=B77/\∀p,H p=none->Q (.ref p) (Ag H p (.lst (xs++zs)))
theorem qQY:OpR X (C04 .Add) rCat:=by
 intro Ab s σ H x y v u Q I k f h;obtain⟨l,b,xs,t,rfl,rfl,j,i,p,q⟩:=h;cases k;cases f;obtain⟨z,c,n,r,w,e⟩:=I.lstM j;obtain⟨z2,a,n2,o,d,g⟩:=I.lstM i;refine PySem.P.add_list e g ?_ (by rw[B8,B8];lia)
 have m:c.toArray++a.toArray=(c++a).toArray:=by simp
 rw[m];exact⟨.ref _,_,I.lnew (t':=s.toks) (r.append o) (by rw[A8];lia),rfl,q _ I.fresh⟩
def rRep:R2:=λx y H Q=>∃l k xs,x=.ref l/\y=.int k/\H l=some (.lst xs)/\-(2^63)<=k/\k<2^63/\xs.length*k.toNat<=B77/\
 ∀p,H p=none->Q (.ref p) (Ag H p (.lst (D8 k.toNat xs).flatten))
theorem qaG {α:Type} (xs:List α)(k:Nat):(D8 k xs).flatten.length=k*xs.length:=by
 induction k with
 |zero=>simp
 |succ k ih=>rw[P8,Y2,A8,ih,Nat.succ_mul,A00]
theorem qUC:OpR X (C04 .Mult) rRep:=by
 intro Ab s σ H x y v u Q I rx w h;obtain⟨l,k,xs,rfl,rfl,hH,h1,h2,p,q⟩:=h;cases rx;obtain⟨t,rfl⟩:=w;obtain⟨z,b,n,r,hl,e⟩:=I.lstM hH;have g:b.toArray.size*k.toNat<=B77:=by rw[B8,<- hl];exact p
 have d:¬b.toArray.size*k.toNat>(2^63-1)/8:=by
  have:(B77:Nat)<=(2^63-1)/8:=by decide
  lia
 have i:¬(!Builtin.List.listFitsIndex k)=true:=by
  rw[fitsIndex_both h1 h2];exact B4
 have c:¬a8 (b.toArray.size*k.toNat)=true:=by
  rw[qXN g];exact B4
 have f:B51 (λj o=>j++o) #[] (D8 (if b.toArray.isEmpty=true then 0 else k.toNat) b.toArray)=(D8 k.toNat b).flatten.toArray:=by
  have f0:∀m:Nat,B51 (λj o=>j++o) #[] (D8 m b.toArray)=(D8 m b).flatten.toArray:=λm=>by
   have:=qNQ b m [];rw[A48] at this;exact this
  rw[f0];cases b with
  |nil=>simp
  |cons a r'=>rw[if_neg (by simp)]
 refine wpAny_binaryOp_repeat_ref (T:="list") (U:="int") (by decide) ⟨_,e,rfl⟩ (λs'=>typeIs_int s' k t) noFill_list_mul F.fills_int_mul F.slot_int_rmul repeat_list F.slot_int_index.lookup
  (C43 F.slot_int_rmul (typeIs_int s k t) F.entry_int_rmul (F.args_int_rmul_2 _ _) (int___rmul___int_list k t l b.toArray n)
   ⟨e,rfl,⟨_,e,rfl⟩,C43 F.slot_list_mul ⟨_,e,rfl⟩ F.entry_list_mul (F.args_list_mul_2 _ _) (AutoListH.list___mul___list_int_3 l b.toArray n k t i d c) ⟨e,?_⟩⟩)
 rw[f];exact⟨.ref _,_,I.lnew (t':=s.toks) (r.rep k.toNat) (by rw[qaG,V5];exact p),rfl,q _ I.fresh⟩
end
section
variable{prog:B79}{w:World}{A:Around}{E:Aa1}{s:Shared}
set_option maxRecDepth 100000 in
end
section
variable{X:Cx}
end
end L2
namespace Att
open PySem PySem.W PySem.Calls PyProof.Rows
theorem qJ8 {P:Params} {h:Heap} :∀(ns:List Int) (vs:List Value),WellAll P h vs (ns.map WData.int)->B85 vs ns:=by
 intro ns
 induction ns with
 |nil=>
  intro vs w;rw[z9] at w;cases w;exact .nil
 |cons n ns ih=>
  intro vs w;rw[C7] at w;cases w with
  |cons a b=>
   cases a;exact .cons _ _ (ih _ b)
theorem qTQ {l:OpenLaw} {n:Nat} (s:l.most=some n){P:Params}{h:Heap}{args:List WData}{b:List Value}
  (c:l.row.toRowW.claim.pre args=true) (j:WellAll P h b args):
  ∃a vs ns,b=[C8 a]/\args=[WData.list (ns.map WData.int)]/\h.get? a=some {cls:=.type "list",data:=.seq vs.toArray}/\B85 vs ns/\ns.length<=n:=by
 have i:WShape.hasAll [] args [.list .int]=true:=(pre_splitW c).1;have k:l.pre.holds [] {args:=args}=true:=(pre_splitW c).2;obtain⟨d,r,rfl,p,o⟩:=hasAllW_cons i;obtain rfl:=hasAllW_nil o;obtain⟨u,rfl,t⟩:=hasW_list p;obtain⟨ns,rfl⟩:=items_int t;have e:ns.length<=n:=by
  unfold OpenLaw.pre at k;have g:(WTm.not (.lt (.lit (.int (n:Int))) (.len (.arg 0)))).holds [] {args:=[.list (ns.map .int)]}=true:=by
   have g:=(holds_andW k).1;rw[s] at g;exact g
  have f:=condW_of g (w_not (w_lt w_lit (w_len_list (w_arg rfl))));rw[A0] at f;refine Z3 λq=>?_;have m:(n:Int)<((ns.length:Nat):Int):=by lia
  first
   |(rw[decide_eq_true m] at f;exact absurd f (by decide))
   |(simp at f;lia)
 cases j with
 |cons w1 w2=>
  cases w2;cases w1 with
  |list ho hall=>exact⟨_,_,ns,rfl,rfl,ho,qJ8 ns _ hall,e⟩
theorem qTX (l:OpenLaw)(args:List WData):l.row.toRowW.claim.post args (.bool true) args=true:=
 postW_of (r:=l.row.toRowW) (X:=(true==true))
  (show WShape.has [] (.bool true) .bool=true by first|rfl|decide|simp[WShape.has,WShape.arms,WShape.armsAll])
  (show(WTm.eq .res (.lit (.bool true))).value [] {args:=args,res:=some (.bool true),after:=args}=some (.bool (true==true)) from w_eq_bool (w_res rfl) w_lit) rfl
theorem attach_call {l:OpenLaw} {n:Nat} {b:List Str} {XP:(Ab0)->Heap->Prop} {YP:World->Heap->Prop} {d:DefRec} 
  (hn:l.most=some n) (m:d.params.defaults=[])
  (h:∀ (w:World) (s₀ s₁:Shared) (mg mb:Ab0) (fa:Addr) (o:Obj) (pm cd doc:Value) (a:Addr) (vs:List Value) (ns:List Int),
   Ground q b [] XP w s₀ mg mb s₁.heap->YP w s₁.heap->
   s₁.heap.get? fa=some o->o.data=.func (docDef d.name d.params d.body d.scope pm cd doc)->s₁.heap.CodeRec cd d.name->mg d.name=some (.ref fa)->
   s₁.heap.get? a=some {cls:=.type "list",data:=.seq vs.toArray}->B85 vs ns->ns.length<=n->s₁.gens=#[]->
   C16 (model l.prog w) callerA (.call (.ref fa) ⟨[.ref a],[]⟩) (λr s'=>r=.ok (.ret (.bool true))/\OldK s₁.heap s'.heap/\s'.os=s₁.os/\AllBare s'.gens) s₁):
  WalkO q b XP YP l.row.toRowW d [] (λf vs=>B52 f vs):=by
 intro w s₀ s₁ mg mb G Y fa o pm cd doc z x ho hd p v j hg s u as e t y k a0;obtain rfl:z=.none:=Dflts.none v m;obtain rfl:x=.none:=Dflts.noKw v;obtain⟨a,vs,ns,rfl,rfl,g,c,i⟩:=qTQ hn e k;refine enter_call (C10 (h w s₀ s₁ mg mb fa o pm cd doc a vs ns G Y ho (fd_plain hd) p j g c i hg) λr s' hq=>?_);obtain⟨rfl,h2,h3,h4⟩:=hq;exact⟨.inl ⟨.bool true,.bool true,[],rfl,λ_=>rfl,.bool true,qTX l _,λ_=>⟨List.Pairwise.nil,λ_ hm=>(nomatch hm)⟩⟩,h2,h3,h4⟩
section
variable{prog:B79}{w:World}{A:Around}{E:Aa1}{s:Shared}{K:Frag}
end
end Att
namespace L2
open PySem PySem.Spec PyProof.Rows
theorem qIG:∀{vs:List Value} {ns:List Int},B85 vs ns->Vals (ns.map V.int) vs
 |_,_,.nil=>.nil
 |_,_,.cons n t h=>.cons ⟨t,rfl⟩ (qIG h)
noncomputable def qEC (s:Stmt):C11:=match s with
 |.FunctionDef _ a _ _ _ _ _ _ _ _=>a
 |_=>{posonlyargs:=[],args:=[],vararg:=none,kwonlyargs:=[],kw_defaults:=[],kwarg:=none,defaults:=[]}
noncomputable def qBF (s:Stmt):List Stmt:=match s with
 |.FunctionDef _ _ b _ _ _ _ _ _ _=>b
 |_=>[]
noncomputable def qAB (s:Stmt):Scope:=match s with
 |.FunctionDef _ _ _ _ _ _ sc _ _ _=>sc
 |_=>{kind:=.function,names:=[],isGenerator:=false,isCoroutine:=false}
abbrev CX0:CXT:=λ_ _ _ _ _ _=>False
abbrev E0:XK:=λ_ _ _=>False
theorem qe1 {X:Cx} :qWK CX0 X E0:=λ_ _ _ _ _ _ _ h=>h.elim
structure Fun (K:Ab1)(x qual:Str)(st:Stmt)(f:Addr)(fd:B98):Prop where
 ex:∃(oc:Value) (od:Option Addr) (kV doc pm:Value) (an:Option Addr) (cdv ct:Value) (osl:Array (Option Value)),
  fd=R5 x qual (qEC st) (qBF st) (qAB st) .none kV doc pm an cdv ct/\K.lookup f=some ⟨oc,od,.func fd,osl⟩/\k5 K cdv qual=true
 kp:R3 K (.ref f)=true
section
variable{P:B79}{w:World}{K:Ab1}{mg:Ab0}{base:Heap}
theorem Fun.ok {x a:Str} {st:Stmt} {f:Addr} {g:B98} {N ps:List Str} {k:Nat} {sp:Sp} (F:Fun K x a st f g)(S:FnScope N ps (qAB st))(c:∀vs H Q E,sp vs H Q E->vs.length=ps.length)
  (b:∀ (cdv:Value) (A:Around) (outer:List Env) (s:Shared) (H:Hp) (vs:List V) (Q:VK) (E:XK),Room k (A.deeper (envOfC a (qAB st) s.heap.objs.size f cdv))->sp vs H Q E->
   ∃t,PSs (cxOf CX0 P w K mg base N a (qAB st) f cdv A outer s H E).nox (qBF st) t/\t {nx:=λ_ H'=>Q .non H',rt:=Q} (start N vs) H):FnOk P w K mg base CX0 (k+1) f g ps sp:=by
 obtain⟨v,u,o,m,r,n,cdv,p,j,rfl,i,e⟩:=F.ex;refine qcV i e S c λA outer s H vs Q E l d=>?_;obtain⟨t,h,q⟩:=b cdv A outer s H vs Q E l d;exact⟨t,h.nox,q⟩
theorem Fun.binds {x a:Str} {st:Stmt} {f:Addr} {b:B98} {ps:List Str} (F:Fun K x a st f b)
  (h:∀(kV doc pm:Value) (an:Option Addr) (cdv ct:Value) (us:List Value),us.length=ps.length->C39 (R5 x a (qEC st) (qBF st) (qAB st) .none kV doc pm an cdv ct) ⟨us,[]⟩=pure (ps.zip us)):Binds K b ps []:=by
 obtain⟨i,g,kV,doc,pm,an,cdv,ct,c,rfl,e,d⟩:=F.ex;exact .all (h kV doc pm an cdv ct)
theorem fun_mk {x a:Str} {st:Stmt} {f:Addr} {n:Value} {m g:Option Addr} {e:Array (Option Value)} {h d j b i:Value} (l:K.lookup f=some ⟨n,m,.func (R5 x a (qEC st) (qBF st) (qAB st) .none h d j g b i),e⟩)
  (c:k5 K b a=true) (k:R3 K (.ref f)=true):Fun K x a st f (R5 x a (qEC st) (qBF st) (qAB st) .none h d j g b i):=⟨⟨n,m,h,d,j,g,b,i,e,rfl,l,c⟩,k⟩
end
theorem qH9 {k:Nat} (a:Room k A):A.units+1<cLine:=X3 (Nat.add_le_add_left (by decide:1<=64) _) a.units
theorem qAH {n:Nat} (h:n<=1000):n<B77:=X3 h (by decide)
section
variable{X:Cx}
theorem pv (i:Nat) {x:Str} {pos:Pos} (b:X.N[i]?=some x:=by rfl) (c:Vis X.env.scope x:=by first|exact E2 rfl|exact q9 (E2 rfl)|exact q9 (q9 rfl)) (a:(x==("__debug__" : Str))=false:=by decide)
  (hcd:(x==("__classdict__" : Str))=false:=by decide):PE X (.Name x pos) (tVar i):=qc5 b c a hcd
end
theorem iteF {A B:Prop} (h:B):if false=true then A else B:=by
 rw[if_neg B4];exact h
theorem iteT {A B:Prop} (h:A):if true=true then A else B:=by
 rw[if_pos rfl];exact h
theorem ite2 {c A B:Prop} [Decidable c](a:c->A)(b:¬c->B):if c then A else B:=by
 by_cases h:c
 ·rw[if_pos h];exact a h
 ·rw[if_neg h];exact b h
def Same (H H':Hp):Prop:=∀b o,H b=some o->H' b=some o
theorem Same.refl (H:Hp):Same H H:=λ_ _ h=>h
theorem Same.trans {H H1 H2:Hp} (a:Same H H1)(b:Same H1 H2):Same H H2:=λc o h=>b c o (a c o h)
theorem Same.free {H H':Hp} (e:Same H H'){l:Addr}(h:H' l=B72):H l=B72:=by
 cases q:H l with
 |none=>rfl
 |some o=>
  rw[e l o q] at h;cases h
section
variable{κ:Type}[DecidableEq κ]
noncomputable def valV (Af:List (κ×V))(k:κ):Option V:=(Af.find? λkv=>decide (kv.1=k)).map (·.2)
noncomputable def putK (Af:List (κ×V))(k:κ)(v:V):List (κ×V):=
 if(Af.any λkv=>decide (kv.1=k))=true then Af.map (λkv=>if kv.1=k then(kv.1,v) else kv) else Af++[(k,v)]
theorem qBQ {p:κ×V} {r:List (κ×V)} {k:κ} (e:p.1=k):valV (p::r) k=some p.2:=by simp[valV,V2,e]
theorem qBR {p:κ×V} {r:List (κ×V)} {k:κ} (e:¬p.1=k):valV (p::r) k=valV r k:=by simp[valV,V2,e]
theorem qF7 (k:κ):∀Af:List (κ×V),(Af.any λkv=>decide (kv.1=k))=(valV Af k).isSome
 |[]=>rfl
 |p::r=>by
  rw[V8];by_cases e:p.1=k
  ·simp only[qBQ e,decide_eq_true e,Bool.true_or,Option.isSome_some]
  ·rw[qBR e,decide_eq_false e,Bool.false_or];exact qF7 k r
theorem qQ1 (k j:κ)(y:V):∀Af:List (κ×V),valV (Af.map λkv=>if kv.1=k then(kv.1,y) else kv) j=(valV Af j).map λx=>if j=k then y else x
 |[]=>rfl
 |p::r=>by
  have ih:=qQ1 k j y r;rw[C7];by_cases h:p.1=k
  ·rw[if_pos h];by_cases e:p.1=j
   ·rw[qBQ (p:=(p.1,y)) e,qBQ e,R8,if_pos (e.symm.trans h)]
   ·rw[qBR (p:=(p.1,y)) e,qBR e,ih]
  ·rw[if_neg h];by_cases e:p.1=j
   ·rw[qBQ (p:=p) e,qBQ e,R8,if_neg (λz=>h (e.trans z))]
   ·rw[qBR (p:=p) e,qBR e,ih]
theorem qMP (k j:κ)(y:V):∀Af:List (κ×V),valV Af k=none->valV (Af++[(k,y)]) j=if j=k then some y else valV Af j
 |[],_=>by
  by_cases e:k=j
  ·rw[if_pos e.symm];exact qBQ (p:=(k,y)) e
  ·rw[if_neg (λz=>e z.symm)];exact qBR (p:=(k,y)) e
 |p::r,hn=>by
  rw[B23];have hk:¬p.1=k:=λz=>by rw[qBQ z] at hn;cases hn
  rw[qBR hk] at hn;have ih:=qMP k j y r hn;by_cases e:p.1=j
  ·rw[qBQ e,qBQ e,if_neg (λz=>hk (e.trans z))]
  ·rw[qBR e,qBR e,ih]
theorem qHZ (Af:List (κ×V))(k j:κ)(y:V):valV (putK Af k y) j=if j=k then some y else valV Af j:=by
 unfold putK;by_cases a:(Af.any λb=>decide (b.1=k))=true
 ·rw[if_pos a,qQ1];rw[qF7] at a;by_cases e:j=k
  ·obtain⟨x,c⟩:=Z8.mp a;rw[if_pos e,e,c,R8,if_pos rfl]
  ·rw[if_neg e];cases valV Af j with
   |none=>rfl
   |some x=>rw[R8,if_neg e]
 ·rw[if_neg a];refine qMP k j y Af ?_;rw[qF7] at a;cases q:valV Af k with
  |none=>rfl
  |some x=>rw[q] at a;exact(a rfl).elim
theorem qC8 (Af:List (κ×V))(k:κ)(v:V):(putK Af k v).length<=Af.length+1:=by
 unfold putK
 split
 ·rw[A0];lia
 ·rw[A8,D3,O2];lia
theorem qQK {Af:List (κ×V)} {k:κ} (v:V)(h:valV Af k=none):putK Af k v=Af++[(k,v)]:=by
 unfold putK;rw[qF7,h];exact if_neg (by decide)
theorem RelO.isSome_eq {o:Option V} {u:Option Value} (r:RelO o u):o.isSome=u.isSome:=by
 cases o with
 |none=>cases u with
  |none=>rfl
  |some _=>exact(show False from r).elim
 |some _=>cases u with
  |none=>exact(show False from r).elim
  |some _=>rfl
theorem KV.val {Af:List (κ×V)} {vs:List (κ×Value)} (r:KV Af vs)(k:κ):RelO (valV Af k) (valueAt vs k):=by
 unfold KV at r
 induction r with
 |nil=>exact U9
 |@cons p q ps qs h t ih=>
  obtain⟨c,d⟩:=h;by_cases e:p.1=k
  ·have a:q.1=k:=c.symm.trans e;have b:valueAt (q::qs) k=some q.2:=by simp[valueAt,V2,a]
   rw[qBQ e,b];exact d
  ·have a:¬q.1=k:=λz=>e (c.trans z);have b:valueAt (q::qs) k=valueAt qs k:=by simp[valueAt,V2,a]
   rw[qBR e,b];exact ih
theorem KV.any {Af:List (κ×V)} {vs:List (κ×Value)} (r:KV Af vs)(k:κ):(Af.any λkv=>decide (kv.1=k))=vs.any λkv=>decide (kv.1=k):=by
 unfold KV at r
 induction r with
 |nil=>rfl
 |cons h t ih=>rw[V8,V8,ih,h.1]
theorem KV.repl {Af:List (κ×V)} {vs:List (κ×Value)} (r:KV Af vs)(k:κ){y:V}{u:Value}(c:RelV y u):
  KV (Af.map λkv=>if kv.1=k then(kv.1,y) else kv) (vs.map λkv=>if kv.1=k then(kv.1,u) else kv):=by
 unfold KV at r ⊢
 induction r with
 |nil=>exact .nil
 |@cons p q ps qs h t ih=>
  rw[C7,C7];refine .cons ?_ ih;obtain⟨a,b⟩:=h;by_cases e:p.1=k
  ·rw[if_pos e,if_pos (a.symm.trans e)];exact⟨a,c⟩
  ·rw[if_neg e,if_neg (λz=>e (a.trans z))];exact⟨a,b⟩
theorem KV.put {Af:List (κ×V)} {vs:List (κ×Value)} (r:KV Af vs)(k:κ){y:V}{u:Value}(a:RelV y u):KV (putK Af k y) (stored vs k u):=by
 unfold putK stored;rw[r.any k];by_cases e:(vs.any λb=>decide (b.1=k))=true
 ·rw[if_pos e,if_pos e];exact r.repl k a
 ·rw[if_neg e,if_neg e];exact R9 r ⟨rfl,a⟩
theorem KV.keys {Af:List (κ×V)} {vs:List (κ×Value)} (r:KV Af vs):Af.map (·.1)=vs.map (·.1):=by
 unfold KV at r
 induction r with
 |nil=>rfl
 |cons h t ih=>rw[C7,C7,ih,h.1]
theorem KV.length {Af:List (κ×V)} {vs:List (κ×Value)} (r:KV Af vs):Af.length=vs.length:=C2 r
end
theorem qSJ {k:Key} {u:Value} (r:RelV (kV k) u):(qB3 P w).is k u=true:=by
 cases k with
 |inl i=>obtain⟨t,e⟩:=(show∃t,u=U8 i t from r);subst e;exact qP7 P w i t
 |inr x=>obtain⟨t,e⟩:=(show∃t,u=B34 x t from r);subst e;exact qP6 P w x t
theorem qNH :∀{ks:List Key} {us:List Value},Vals (ks.map kV) us->ItemsAre (qB3 P w) ks us
 |[],_,r=>by rw[z9] at r;cases r;exact .nil
 |k::ks,_,r=>by
  rw[C7] at r;cases r with
  |cons h t=>exact .cons (qSJ h) (qNH t)
abbrev KT (H:Hp):List (List Key×V)->List (List Key×Addr×Value)->Prop:=Paired λp q=>p.1=q.1/\H q.2.1=some (.tup (p.1.map kV))/\RelV p.2 q.2.2
theorem KT.val {H:Hp} {Af:List (List Key×V)} {xs:List (List Key×Addr×Value)} (r:KT H Af xs)(k:List Key):RelO (valV Af k) ((atKey xs k).map (·.2)):=by
 induction r with
 |nil=>exact U9
 |@cons p q ps qs h t ih=>
  obtain⟨c,_,d⟩:=h;by_cases e:p.1=k
  ·have a:q.1=k:=c.symm.trans e;have b:atKey (q::qs) k=some q.2:=by simp[atKey,V2,a]
   rw[qBQ e,b];exact d
  ·have a:¬q.1=k:=λz=>e (c.trans z);have b:atKey (q::qs) k=atKey qs k:=by simp[atKey,V2,a]
   rw[qBR e,b];exact ih
theorem KT.repl {H:Hp} {Af:List (List Key×V)} {xs:List (List Key×Addr×Value)} (r:KT H Af xs)(k:List Key){y:V}{u:Value}(d:RelV y u):
  KT H (Af.map λkv=>if kv.1=k then(kv.1,y) else kv) (xs.map (putAt k u)):=by
 induction r with
 |nil=>exact .nil
 |@cons p q ps qs h t ih=>
  rw[C7,C7];refine .cons ?_ ih;obtain⟨a,b,c⟩:=h;unfold putAt;by_cases e:p.1=k
  ·rw[if_pos e,if_pos (a.symm.trans e)];exact⟨a,b,d⟩
  ·rw[if_neg e,if_neg (λz=>e (a.trans z))];exact⟨a,b,c⟩
theorem KT.put {H:Hp} {Af:List (List Key×V)} {xs:List (List Key×Addr×Value)} (r:KT H Af xs)(k:List Key){b:Addr}{y:V}{u:Value}(c:H b=some (.tup (k.map kV)))(a:RelV y u):
  KT H (putK Af k y) (C44 xs k b u):=by
 have e:(Af.any λd=>decide (d.1=k))=(atKey xs k).isSome:=by
  rw[qF7,(r.val k).isSome_eq,i9]
 unfold putK C44;rw[e];by_cases q:(atKey xs k).isSome=true
 ·rw[if_pos q,if_pos q];exact r.repl k a
 ·rw[if_neg q,if_neg q];exact R9 r ⟨rfl,c,a⟩
theorem KT.keeps {H H':Hp} {Af:List (List Key×V)} {xs:List (List Key×Addr×Value)} (r:KT H Af xs)(a:∀b ys,H b=some (.tup ys)->H' b=some (.tup ys)):KT H' Af xs:=
 Paired.mapP r λ_ _ z=>⟨z.1,a _ _ z.2.1,z.2.2⟩
section
variable{P:B79}{w:World}{H:Hp}{h:Heap}{a:Addr}
theorem qbX {u:HO} (ok:HOk P w H h)(e:Rd H a u):ObjOk P w H h a u:=e.ok ok
theorem qVT {Af:List (Key×V)} (b:HOk P w H h)(e:Rd H a (.dK Af)):Af.length<=B77/\(a==C02)=false/\∃vs,KV Af vs/\h.DictOf (qB3 P w) a vs:=
 show ObjOk P w H h a (.dK Af) from qbX b e
theorem qaX {Af:List (Key×V)} (b:HOk P w H h)(e:H a=some (.dK Af)):Af.length<=B77/\(a==C02)=false/\∃vs,KV Af vs/\h.DictOf (qB3 P w) a vs:=qVT b (.inl e)
theorem qJ6 {ks:List Key} (g:HOk P w H h)(e:H a=some (.tup (ks.map kV))):(C36 (qB3 P w)).is h ks a:=by
 obtain⟨_,b,r,o,d,c,n,f⟩:=(show ObjOk P w H h a (.tup (ks.map kV)) from g a _ e);exact⟨o,b.toArray,n,d,c,f,by simpa using qNH r⟩
theorem qVR {Af:List (List Key×V)} (c:HOk P w H h)(e:Rd H a (.dT Af)):Af.length<=B77/\(a==C02)=false/\
  ∃xs,KT H Af xs/\h.DictOfH (C36 (qB3 P w)) a xs:=by
 obtain⟨z,y,xs,r,o,k,d,i,f,n,j,g⟩:=(show ObjOk P w H h a (.dT Af) from qbX c e);refine⟨z,y,xs,r,o,k,d,i,f,n,j,λx hx=>?_,g⟩;have b:∀{l:List (List Key×V)} {m:List (List Key×Addr×Value)},KT H l m->∀x∈m,(C36 (qB3 P w)).is h x.1 x.2.1:=by
  intro l m q
  induction q with
  |nil=>intro x hx;exact nomatch hx
  |@cons p q ps qs hq t ih=>
   intro x hx;rcases B7.mp hx with e|hx
   ·subst e;exact qJ6 c (by rw[<- hq.1];exact hq.2.1)
   ·exact ih x hx
 exact b r x hx
theorem qcY {Af:List (List Key×V)} (b:HOk P w H h)(e:H a=some (.dT Af)):Af.length<=B77/\(a==C02)=false/\
  ∃xs,KT H Af xs/\h.DictOfH (C36 (qB3 P w)) a xs:=qVR b (.inl e)
end
def DGet (H:Hp)(a:Addr)(y:V)(r:Option V):Prop:=
 (∃Af k,Rd H a (.dK Af)/\y=kV k/\r=valV Af k)\/∃Af k b,Rd H a (.dT Af)/\y=.ref b/\H b=some (.tup (k.map kV))/\r=valV Af k
def DPut (H:Hp)(a:Addr)(y v:V)(H':Hp):Prop:=
 (∃Af k,H a=some (.dK Af)/\y=kV k/\Af.length<B77/\H'=Ag H a (.dK (putK Af k v)))\/
 ∃Af k b,H a=some (.dT Af)/\y=.ref b/\H b=some (.tup (k.map kV))/\Af.length<B77/\H'=Ag H a (.dT (putK Af k v))
theorem DGet.k {H:Hp} {a:Addr} {Af:List (Key×V)} {k:Key} (e:H a=some (.dK Af)):DGet H a (kV k) (valV Af k):=.inl ⟨Af,k,.inl e,rfl,rfl⟩
theorem DPut.k {H:Hp} {a:Addr} {Af:List (Key×V)} {k:Key} {v:V} (e:H a=some (.dK Af))(b:Af.length<B77):DPut H a (kV k) v (Ag H a (.dK (putK Af k v))):=.inl ⟨Af,k,e,rfl,b,rfl⟩
section
variable{X:Cx}{Ab:List (Addr×Obj)}{σ:St}{H:Hp}{s:Shared}{a:Addr}{y v:V}{u r:Value}{o:Option V}{A:Around}{E:Aa1}
theorem Inv.big (I:Inv X Ab σ H s):C02<s.heap.objs.size:=by
 have h:B89<s.heap.objs.size:=(I.mod.glob.keeps I.bk).lt;exact T6 (by decide) h
theorem qW1 {Q:Aa1} (hu:A.units+1<cLine)(I:Inv X Ab σ H s)(g:DGet H a y (some v))(n:RelV y u)(h:∀w' s',Inv X Ab σ H s'->RelV v w'->Q w' s'):
  wpAny (model X.prog X.w) A (C42 (.ref a) u) Q E s:=by
 rcases g with⟨q,k,e,j,l⟩|⟨q,k,b,e,j,t,l⟩
 ·subst j;obtain⟨z,hd,x,c,f⟩:=qVT I.hok e;obtain⟨w',m,d⟩:=RelO.some_of (v:=v) (o:=valueAt x k) (by rw[l];exact c.val k)
  exact wpAny_getItem_of (qSJ n) f.mapOf m (h w' _ (I.tok _) d)
 ·subst j;cases(show u=C8 b from n);obtain⟨z,hd,xs,c,f⟩:=qVR I.hok e;obtain⟨w',m,d⟩:=RelO.some_of (v:=v) (o:=(atKey xs k).map (·.2)) (by rw[l];exact c.val k)
  obtain⟨p,r,i⟩:=A42.mp m;refine wpAny_getItem_heap (C25 hu) (qJ6 I.hok t) f r ?_;rw[i];exact h w' _ (I.tok _) d
theorem d_in {Q:Aa1} (p:A.units+1<cLine)(I:Inv X Ab σ H s)(g:DGet H a y o)(j:RelV y u)(h:∀s',Inv X Ab σ H s'->Q (.bool o.isSome) s'):
  wpAny (model X.prog X.w) A (B95 .In u (.ref a)) Q E s:=by
 rcases g with⟨m,k,e,i,l⟩|⟨m,k,b,e,i,n,l⟩
 ·subst i;obtain⟨z,f,r,c,d⟩:=qVT I.hok e;refine wpAny_in_of (qSJ j) f d.mapOf ?_;rw[<- (c.val k).isSome_eq,<- l];exact h _ (I.tok _)
 ·subst i;cases(show u=C8 b from j);obtain⟨z,f,t,c,d⟩:=qVR I.hok e;refine wpAny_in_heap (C25 p) (qJ6 I.hok n) f d ?_;have q:=(c.val k).isSome_eq;rw[i9] at q;rw[<- q,<- l];exact h _ (I.tok _)
theorem qaZ {Q:Aa1} (p:A.units+1<cLine)(I:Inv X Ab σ H s)(g:DGet H a y o)(j:RelV y u)(h:∀s',Inv X Ab σ H s'->Q (.bool (!o.isSome)) s'):
  wpAny (model X.prog X.w) A (B95 .NotIn u (.ref a)) Q E s:=by
 rcases g with⟨m,k,e,i,l⟩|⟨m,k,b,e,i,n,l⟩
 ·subst i;obtain⟨z,f,r,c,d⟩:=qVT I.hok e;refine wpAny_notIn_of (qSJ j) f d.mapOf ?_;rw[<- (c.val k).isSome_eq,<- l];exact h _ (I.tok _)
 ·subst i;cases(show u=C8 b from j);obtain⟨z,f,t,c,d⟩:=qVR I.hok e;refine wpAny_notIn_heap (C25 p) (qJ6 I.hok n) f d ?_;have q:=(c.val k).isSome_eq;rw[i9] at q;rw[<- q,<- l];exact h _ (I.tok _)
theorem qMC {h':Heap} {t':Nat} {d:HO} (I:Inv X Ab σ H s)(h:Mut (H a))(i:Heap.SameBut a s.heap h')(g:∃q,h'.get? a=some q)(c:ObjOk X.prog X.w (Ag H a d) h' a d):
  Inv X Ab σ (Ag H a d) {s with heap:=h',toks:=t'}:=
 I.write (x:=a) (e:=a) h (.inl rfl) (λb q f z=>(i.2 b f).trans z) g c
theorem qVU {H':Hp} {h':Heap} {Af:List (Key×V)} {vs:List (Key×Value)} (z:Af.length<=B77)(d:(a==C02)=false)(b:KV Af vs)(c:h'.DictOf (qB3 P w) a vs):
  ObjOk P w H' h' a (.dK Af):=⟨z,d,vs,b,c⟩
theorem qW0 {H':Hp} {Q:Unit->Shared->Prop} (hu:A.units+1<cLine)(I:Inv X Ab σ H s)(g:DPut H a y v H')(ry:RelV y u)(rv:RelV v r)(h:∀s',Inv X Ab σ H' s'->Q () s'):
  wpAny (model X.prog X.w) A (setItem (.ref a) u r) Q E s:=by
 rcases g with⟨i,k,e,p,l,t⟩|⟨i,k,b,e,p,eb,l,t⟩
 ·subst p t;obtain⟨z,o,vs,d,j⟩:=qaX I.hok e;have m:vs.length<=B77:=by rw[<- d.length];exact z
  have n:(putK i k v).length<=B77:=by have:=qC8 i k v;lia
  refine wpAny_setItem_pairs (hsz:=m) (qSJ ry) j λh' f x=>h _ ?_;have he:∃q,h'.get? a=some q:=let⟨q,_,_,hq,_⟩:=f;⟨q,hq⟩
  exact qMC I (by rw[e];exact U9) x he (qVU n o (d.put k rv) f)
 ·subst p t;cases(show u=C8 b from ry);obtain⟨z,o,xs,d,j⟩:=qcY I.hok e;have m:xs.length<=B77:=by rw[<- C2 d];exact z
  have n:(putK i k v).length<=B77:=by have:=qC8 i k v;lia
  refine wpAny_setItem_heap (hsz:=m) (C25 hu) (qJ6 I.hok eb) j λh' f x=>h _ ?_;obtain⟨q,es,ep,hq,h2,h3,h4,_,h5⟩:=f;refine qMC I (by rw[e];exact U9) x ⟨q,hq⟩ ⟨n,o,_,(d.put k eb rv).keeps λc ys ec=>?_,q,es,ep,hq,h2,h3,h4,h5⟩
  rw[qA8 (qCA ec e (λz=>nomatch z))];exact ec
end
section
variable{X:Cx}{Ab:List (Addr×Obj)}{σ:St}{H:Hp}{s:Shared}{a:Addr}{Af:List (Key×V)}{k:Key}{u:Value}{A:Around}{E:Aa1}
end
def NoSl (i:Expr):Prop:=∀ov iv,subscripted i false ov iv=operate [ov,iv] (C42 ov iv)
theorem qZV {env:Env} {b a:Expr} {pos:Pos} {T id:String} {Q:Aa1} 
  (g:typeLookup (.type T) "__getitem__" = pure (some (.builtin id))) (l:NoSl a)
  (h:wpAny (model prog w) A (eval b env) (λo s₁=>wpAny (model prog w) A (eval a env) (λi s₂=>s₂.TypeIs o T/\wpAny (model prog w) A (C42 o i) Q E s₂) E s₁) E s):
  wpAny (model prog w) A (eval (.Subscript b a pos) env) Q E s:=by
 refine Subscript_ (B90 h (λo s₁ k=>B90 k (λi s₂ d=>?_) λ_ _ x=>x) λ_ _ x=>x);obtain⟨f,d⟩:=d;unfold subscriptTail;refine B75 ?_;rw[getitemInPython_of_ne f.not_modules];refine B75 (wpAny_specialOf f g ?_);have c:wpAny (model prog w) A (subscripted a false o i) (λr e=>wpAny (model prog w) A (letTemporaryGo b o r >>= λ_=>pure r) Q E e) E s₂:=by
  rw[l o i];exact wpAny_operating (B90 d (λr e j=>B75 (wpAny_letTemporaryGo (B76 j))) λ_ _ x=>x)
 first
  |exact B76 (B75 c)
  |exact B75 (B76 (B75 c))
  |exact B75 c
theorem qPQ {X:Cx} {Ab:List (Addr×Obj)} {σ:St} {H:Hp} {a:Addr} {y:V} {o:Option V} (I:Inv X Ab σ H s) (g:DGet H a y o):s.TypeIs (.ref a) "dict":=by
 rcases g with⟨d,k,e,_,_⟩|⟨d,k,b,e,_,_,_⟩
 ·obtain⟨_,_,f,_,c⟩:=qVT I.hok e;exact c.typeIs
 ·obtain⟨_,_,h,_,c⟩:=qVR I.hok e;exact c.typeIs
def qdM (td ty:TE):TE:=λσ H Q=>td σ H λx H1=>ty σ H1 λy H2=>∃a v,x=.ref a/\DGet H2 a y (some v)/\Q v H2
def tDIn (ty td:TE):TE:=λσ H Q=>ty σ H λy H1=>td σ H1 λx H2=>∃a o,x=.ref a/\DGet H2 a y o/\Q (.bl o.isSome) H2
def qZU (ty td:TE):TE:=λσ H Q=>ty σ H λy H1=>td σ H1 λx H2=>∃a o,x=.ref a/\DGet H2 a y o/\Q (.bl (!o.isSome)) H2
def qdP (td ty tv:TE):TS:=λD σ H=>tv σ H λv H1=>td σ H1 λx H2=>ty σ H2 λy H3=>∃a H4,x=.ref a/\DPut H3 a y v H4/\D.nx σ H4
section
variable{X:Cx}{o i e value:Expr}{pos pos' tpos:Pos}{td ty tv:TE}
theorem qDB (j:X.A.units+1<cLine)(d:PE X o td)(hi:PE X i ty)(f:NoSl i):PE X (.Subscript o i pos) (qdM td ty):=by
 intro c s σ H Q I h;refine qZV PySem.F.slot_dict_getitem.lookup f (thn (d c s σ H _ I h) λu s1 ⟨x,H1,I1,rx,q1⟩=>thn (hi c s1 σ H1 _ I1 q1) λiv s2 ⟨y,H2,I2,ry,a,v,ex,g,q2⟩=>?_);subst ex;obtain rfl:u=C8 a:=rx;exact⟨qPQ I2 g,qW1 j I2 g ry λk l e b=>⟨v,H2,e,b,q2⟩⟩
theorem qQR (e:X.A.units+1<cLine)(hi:PE X i ty)(c:PE X o td):PC X .In i o (tDIn ty td):=by
 intro b s σ H Q I h;refine thn (hi b s σ H _ I h) λiv s1 ⟨y,H1,I1,ry,q1⟩=>thn (c b s1 σ H1 _ I1 q1) λu s2 ⟨x,H2,I2,rx,a,ov,ex,g,q2⟩=>?_;subst ex;obtain rfl:u=C8 a:=rx;exact d_in e I2 g ry λf d=>⟨.bl ov.isSome,H2,d,rfl,q2⟩
theorem qER (e:X.A.units+1<cLine)(hi:PE X i ty)(c:PE X o td):PC X .NotIn i o (qZU ty td):=by
 intro b s σ H Q I h;refine thn (hi b s σ H _ I h) λiv s1 ⟨y,H1,I1,ry,q1⟩=>thn (c b s1 σ H1 _ I1 q1) λu s2 ⟨x,H2,I2,rx,a,ov,ex,g,q2⟩=>?_;subst ex;obtain rfl:u=C8 a:=rx;exact qaZ e I2 g ry λf d=>⟨.bl (!ov.isSome),H2,d,rfl,q2⟩
theorem qEQ (j:X.A.units+1<cLine)(c:PE X o td)(hi:PE X i ty)(e:PE X value tv)(f:swapsWith value (some (.Subscript o i pos')) pos.line X.env=pure false):
  PS X (.Assign [.Subscript o i pos'] value pos) (qdP td ty tv):=by
 intro b s σ H D I h;refine wpAny_Assign_Subscript (thn (e b s σ H _ I h) λr s1 ⟨v,H1,I1,rv,q1⟩=>thn (c b s1 σ H1 _ I1 q1) λu s2 ⟨x,H2,I2,rx,q2⟩=>thn (hi b s2 σ H2 _ I2 q2) λiv s3 ⟨y,H3,I3,ry,a,H4,ex,g,q3⟩=>?_) f;subst ex;obtain rfl:u=C8 a:=rx;exact qW0 j I3 g ry rv λk d=>⟨σ,H4,d,q3⟩
end
theorem qRL {H:Hp} (h:Heap) (a:C02<h.objs.size):ObjOk P w H (h.push {cls:=.type "dict",data:=.dict #[]}) h.objs.size (.dK []):=
 ⟨E7 _,beq_eq_false_iff_ne.mpr (F5 (C4 a)),[],.nil,B37 h⟩
theorem qYG {H:Hp} (h:Heap) (a:C02<h.objs.size):ObjOk P w H (h.push {cls:=.type "dict",data:=.dict #[]}) h.objs.size (.dT []):=
 ⟨E7 _,beq_eq_false_iff_ne.mpr (F5 (C4 a)),[],.nil,_,#[],0,A9 _ rfl,⟨rfl,rfl,rfl⟩,rfl,rfl,List.nodup_nil⟩
def qbL:TE:=λ_ H Q=>∀p,H p=none->Q (.ref p) (Ag H p (.dK []))
section
variable{X:Cx}{pos:Pos}
theorem qLR:PE X (.Dict [] [] pos) qbL:=λb s σ H Q I h=>
 wpAny_Dict_empty ⟨.ref s.heap.objs.size,_,I.laid (a:=s.heap.objs.size) (o:=.dK []) (t':=s.toks) (λ_ _ q=>A3 _ q) (A6 _) (qRL s.heap I.big),rfl,h _ (I.hok.fresh (A6 _))⟩
end
def qTD:List (TE×TE)->St->Hp->(List (V×V)->Hp->Prop)->Prop
 |[],_,H,Q=>Q [] H
 |(tk,tv)::r,σ,H,Q=>tk σ H λx H1=>tv σ H1 λy H2=>qTD r σ H2 λps H3=>Q ((x,y)::ps) H3
abbrev VV:List (V×V)->List (Value×Value)->Prop:=Paired λp q=>RelV p.1 q.1/\RelV p.2 q.2
def PPs (X:Cx)(pos:Pos)(keys:List (Option Expr))(values:List Expr)(trs:List (TE×TE)):Prop:=
 ∀(Ab:List (Addr×Obj)) (s:Shared) (σ:St) (H:Hp) (Q:List (V×V)->Hp->Prop),Inv X Ab σ H s->qTD trs σ H Q->
  wpAny (model X.prog X.w) X.A (evalPairs (pairTrees keys values X.env pos)) (λvs s'=>∃ps H',Inv X Ab σ H' s'/\VV ps vs/\Q ps H') X.xe s
theorem qTW {X:Cx} {pos:Pos} :PPs X pos [] [] []:=λa s σ H Q I h=>pairTrees_nil_walk ⟨[],H,I,.nil,h⟩
theorem qLP {X:Cx} {pos:Pos} {k v:Expr} {ks:List (Option Expr)} {vs:List Expr} {tk d:TE} {a:List (TE×TE)} (i:PE X k tk)(g:PE X v d)(f:PPs X pos ks vs a):
  PPs X pos (some k::ks) (v::vs) ((tk,d)::a):=λc s σ H Q I h=>
 pairTrees_cons_walk (thn (i c s σ H _ I h) fun u s1 ⟨x,H1,I1,rx,q1⟩=>thn (g c s1 σ H1 _ I1 q1) fun w2 s2 ⟨y,H2,I2,ry,q2⟩=>
  thn (f c s2 σ H2 _ I2 q2) λws s3 ⟨ps,H3,I3,rel,q3⟩=>⟨(x,y)::ps,H3,I3,.cons ⟨rx,ry⟩ rel,q3⟩)
noncomputable def qFQ (Af more:List (Key×V)):List (Key×V):=more.foldl (λb e=>putK b e.1 e.2) Af
theorem KV.merge:∀{more:List (Key×V)} {rs:List (Key×Value)} {Af:List (Key×V)} {vs:List (Key×Value)},KV more rs->KV Af vs->KV (qFQ Af more) (merged vs rs):=by
 intro more rs Af vs r;unfold KV at r
 induction r generalizing Af vs with
 |nil=>intro q;exact q
 |@cons p q ps qs h t ih=>
  intro a;have e:KV (putK Af p.1 p.2) (stored vs q.1 q.2):=by
   have:=a.put p.1 h.2;rw[<- h.1];exact this
  exact ih e
theorem qGK:∀(more Af:List (Key×V)),(qFQ Af more).length<=Af.length+more.length
 |[],Af=>by show Af.length<=Af.length+0;lia
 |p::r,Af=>by
  have h1:=qGK r (putK Af p.1 p.2);have h2:=qC8 Af p.1 p.2;show(qFQ (putK Af p.1 p.2) r).length<=_;rw[D3];lia
theorem qL0 :∀{Af:List (Key×V)} {ws:List (Value×Value)},VV (Af.map λkv=>(kV kv.1,kv.2)) ws->∃rs,Carries (qB3 P w) ws rs/\KV Af rs
 |[],_,r=>by rw[z9] at r;cases r;exact⟨[],U9,.nil⟩
 |p::Af,_,r=>by
  rw[C7] at r;cases r with
  |@cons a b as bs h t=>
   obtain⟨rs,c,q⟩:=qL0 (P:=P) (w:=w) t;obtain⟨b1,b2⟩:=b;exact⟨(p.1,b2)::rs,⟨qSJ h.1,rfl,c⟩,.cons ⟨rfl,h.2⟩ q⟩
def qdL (trs:List (TE×TE)):TE:=λσ H Q=>∀p,H p=none->qTD trs σ (Ag H p (.dK [])) λps H2=>H2 p=some (.dK [])/\∃Af:List (Key×V),ps=Af.map (λkv=>(kV kv.1,kv.2))/\Af.length<=15/\Q (.ref p) (Ag H2 p (.dK (qFQ [] Af)))
theorem qU9 {X:Cx} {pos:Pos} {b:List (Option Expr)} {d:List Expr} {f:List (TE×TE)} (h:PPs X pos b d f)(i:b.all (·.isSome)=true)(u:b.length=d.length)(m:b≠[])
  (j:b.length<=15):PE X (.Dict b d pos) (qdL f):=by
 intro Ab s σ H Q I q;have n:=I.hok.fresh (A6 s.heap.objs.size);have r:=I.laid (a:=s.heap.objs.size) (o:=.dK []) (h':=s.heap.push {cls:=.type "dict",data:=.dict #[]}) (t':=s.toks) (λ_ _ q=>A3 _ q) (A6 _) (qRL s.heap I.big);refine wpAny_Dict_walk (knd:=qB3 X.prog X.w) i u m j (thn (h Ab _ σ _ _ r (q _ n)) λws s2 ⟨ps,H2,I2,rel,e,Af,ep,lk,q2⟩=>?_);subst ep;obtain⟨k,c,rk⟩:=qL0 (P:=X.prog) (w:=X.w) rel;obtain⟨z,y,a0,l,p⟩:=qaX I2.hok e;cases l;refine⟨k,c,p,λh' g hs=>⟨.ref s.heap.objs.size,_,?_,rfl,q2⟩⟩;have t:(qFQ [] Af).length<=B77:=by
  have v:=qGK Af [];rw[O2] at v;rw[B88];lia
 have x:∃q,h'.get? s.heap.objs.size=some q:=let⟨q,_,_,hq,_⟩:=g;⟨q,hq⟩
 exact qMC I2 (by rw[e];exact U9) hs x (qVU t y (rk.merge .nil) g)
structure M1 (X:Cx)(o:Expr)(m:Str)(apos:Pos)(e:Expr)(cpos:Pos):Prop where
 base:C51 o m X.env (eval o X.env)=eval o X.env
 few:((backTo cpos (B84 [e] X.env)).all (fun x=>!x.1) && (backToKw cpos (C48 [] X.env)).all (fun x=>x.1.isSome)
  && decide (([e]:List Expr).length+([]:List C41).length+(if([]:List C41).isEmpty then 0 else 1)<30))=true
 line:(apos.endLine==cpos.line)=true
 trees:backTo cpos (B84 [e] X.env)=[(false,eval e X.env)]
structure M2 (X:Cx)(o:Expr)(m:Str)(apos:Pos)(e f:Expr)(cpos:Pos):Prop where
 base:C51 o m X.env (eval o X.env)=eval o X.env
 few:((backTo cpos (B84 [e,f] X.env)).all (fun x=>!x.1) && (backToKw cpos (C48 [] X.env)).all (fun x=>x.1.isSome)
  && decide (([e,f]:List Expr).length+([]:List C41).length+(if([]:List C41).isEmpty then 0 else 1)<30))=true
 line:(apos.endLine==cpos.line)=true
 trees:backTo cpos (B84 [e,f] X.env)=[(false,eval e X.env),(false,eval f X.env)]
section
variable{X:Cx}{Ab:List (Addr×Obj)}{σ:St}{H:Hp}{s:Shared}{a:Addr}{y d:V}{u r:Value}{o:Option V}{A:Around}{E:Aa1}
end
section
variable{X:Cx}{o e f:Expr}{apos cpos:Pos}{td ty tx:TE}
end
section
variable{X:Cx}{Ab:List (Addr×Obj)}{σ:St}{H:Hp}{s:Shared}{a:Addr}{Af:List (Key×V)}{A:Around}{E:Aa1}
end
section
variable{X:Cx}{Ab:List (Addr×Obj)}{σ:St}{H:Hp}{s:Shared}{a:Addr}{y:V}{u:Value}{A:Around}{E:Aa1}
end
section
variable{X:Cx}
end
section
variable{κ:Type}[DecidableEq κ]
theorem qH5:∀{l:List κ} {k:κ},l.Nodup->¬k∈l->(l++[k]).Nodup
 |[],k,_,_=>by simp
 |a::r,k,h,hk=>by
  obtain⟨h1,h2⟩:=P4.mp h;show(a::(r++[k])).Nodup;refine P4.mpr ⟨λm=>?_,qH5 h2 λm=>hk (B7.mpr (q9 m))⟩;rcases B0.mp m with q|q
  ·exact h1 q
  ·exact hk (B7.mpr (E2 (A7.mp q).symm))
end
def noX:Aa1:=λ_ _=>False
noncomputable def qGV (env:Env):List (Str×C30)->List (Str×Addr)->List (Str×Addr)
 |[],acc=>acc
 |(n,k)::r,acc=>qGV env r (if(k==J8)=true then(n,(env.cells.lookup n).getD 0)::acc else acc)
theorem qF3 {env:Env} :∀{names:List (Str×C30)} {acc:List (Str×Addr)},(∀x,(x,J8)∈names->∃c,env.cells.lookup x=some c)->(∀x c,acc.lookup x=some c->env.cells.lookup x=some c)->
  ∀x c,(qGV env names acc).lookup x=some c->env.cells.lookup x=some c
 |[],acc,_,ha,x,c,h=>ha x c h
 |(n,k)::r,acc,hf,ha,x,c,h=>by
  refine qF3 (names:=r) (λy hy=>hf y (B9 _ hy)) (λy d hd=>?_) x c h
  split at hd
  ·rename_i hk
   have hk':k=J8:=by simpa using hk
   subst hk';obtain⟨e,he⟩:=hf n F0;by_cases hyn:y=n
   ·subst hyn;rw[Q2,he] at hd;rw[he];exact hd
   ·rw[Z4,beq_eq_false_iff_ne.mpr hyn] at hd;exact ha y d hd
  ·exact ha y d hd
theorem qF4 {env:Env} :∀{names:List (Str×C30)} {acc:List (Str×Addr)} {x:Str},((x,J8)∈names\/∃c,acc.lookup x=some c)->∃c,(qGV env names acc).lookup x=some c
 |[],acc,x,h=>by
  rcases h with h|h
  ·exact absurd h (by simp)
  ·exact h
 |(n,k)::r,acc,x,h=>by
  refine qF4 (names:=r) ?_;rcases h with h|⟨c,h⟩
  ·rcases B7.mp h with e|h
   ·cases e;refine .inr ⟨(env.cells.lookup n).getD 0,?_⟩;rw[if_pos (by rfl),Q2]
   ·exact .inl h
  ·refine .inr ?_
   split
   ·by_cases hyn:x=n
    ·subst hyn;exact⟨_,Q2⟩
    ·refine⟨c,?_⟩;rw[Z4,beq_eq_false_iff_ne.mpr hyn];exact h
   ·exact⟨c,h⟩
theorem qJP {env:Env} (f:Str×C30->List (Str×Addr)->Sem (ForInStep (List (Str×Addr))))
  (hf:∀n k c,f (n,k) c=(if(k==J8)=true then(do let a <- cellOf env n;pure (O3 ((n,a)::c))) else pure (O3 c))):
  ∀(names:List (Str×C30)) (acc:List (Str×Addr)),(∀x,(x,J8)∈names->∃c,env.cells.lookup x=some c)->forIn names acc f=(pure (qGV env names acc):Sem _)
 |[],acc,_=>rfl
 |(n,k)::r,acc,h=>by
  have ih:=λacc=>qJP f hf r acc λx hx=>h x (B9 _ hx);rw[Q3,hf];by_cases hk:(k==J8)=true
  ·have hk':k=J8:=by simpa using hk
   subst hk';obtain⟨c,hc⟩:=h n F0;rw[if_pos hk];unfold cellOf qGV;rw[hc,if_pos hk];exact ih _
  ·rw[if_neg hk];unfold qGV;rw[if_neg hk];exact ih _
theorem qHF {a:Scope} {env:Env} (h:∀x,(x,J8)∈a.names->∃c,env.cells.lookup x=some c):closureFor a env=pure (qGV env a.names []):=by
 unfold closureFor;dsimp only;rw[qJP (env:=env) _ (λn k c=>?_) a.names [] h]
 ·rfl
 ·rfl
theorem qDR {env:Env} {x:Str} :∀{names:List (Str×C30)},
  (names.map λ(n,k)=>if(k==J8&&env.scope.kind == .function&&env.kindOf n==some .cell)=true then(n,B58) else(n,k)).lookup x =
   (names.lookup x).map λk=>if(k==J8&&env.scope.kind == .function&&env.kindOf x==some .cell)=true then B58 else k
 |[]=>rfl
 |(n,k)::r=>by
  have ih:=@qDR env x r;rw[C7];by_cases hx:x=n
  ·subst hx;dsimp only;rw[Q2 (b:=k),R8]
   split
   ·rw[Q2]
   ·rw[Q2]
  ·have hb:(x==n)=false:=beq_eq_false_iff_ne.mpr hx;dsimp only;rw[Z4 (k:=n) (b:=k),hb];dsimp only;rw[<- ih]
   split
   ·rw[Z4,hb]
   ·rw[Z4,hb]
structure LcZ where
 L:Addr
 cl:List (Str×Addr)
 ex:List Addr
 s₀:Shared
 H₀:Hp
noncomputable def lcCx (X:Cx)(scope:Scope)(own:List Str)(fv:List Nat)(z:LcZ):Cx where
 prog:=X.prog
 w:=X.w
 K:=X.K
 mg:=X.mg
 base:=X.base
 A:=X.A
 N:=own++fv.map λi=>X.N.getD i Q5
 s₀:=z.s₀
 H₀:=z.H₀
 env:=compEnvC scope z.cl z.L X.env
 outer:=X.stack
 stack:=X.stack
 ex:=z.ex
 fn:=λ_=>false
 calm:=X.calm
 pn:=[]
 xe:=noX
structure LcScope (X:Cx)(scope:Scope)(own:List Str)(fv:List Nat):Prop where
 kind:scope.kind=.function
 nocell:∀y∈scope.names,y.2≠.cell
 names:∀y∈scope.names,y.2=.local->scope.names.lookup y.1=some .local
 free:∀y∈scope.names,y.2=.free->X.env.kindOf y.1=some .cell\/X.env.kindOf y.1=some .free
 nd:(own++fv.map λi=>X.N.getD i Q5).Nodup
 fvs:∀i∈fv,i<X.N.length/\scope.names.lookup (X.N.getD i Q5)=some .free
noncomputable def qJ5 (own:List Str)(fv:List Nat)(σ:St):St:=(own.map λ_=>none)++fv.map λi=>(σ[i]?).join
theorem qNZ {R:Result->Shared->Prop} {g a e:Expr} {f:List Expr} {d:Scope} {pos:Pos} {j acc:Value} {env:Env} (I:Nat->Shared->Prop)
  (i:∀ n s,I n s->wpAny (model prog w) A (pyNext j) (fun r s₁=>match r with
   |none=>R (.ok .next) s₁
   | some v=>wpAny (model prog w) A (C62 a j v) (fun _ s₁=>wpAny (model prog w) A (assign a env v) (fun _ s₂=>
     wpAny (model prog w) A (forIn f true fun c r=>if r=true then do let ok <- isTrue c env (eval c env);pure (O3 ok) else pure (O3 r)) (fun ok s₃=>
      if ok=true then wpAny (model prog w) A (eval g env) (fun x s₄=>
       wpAny (model prog w) A (call (.builtin "list.append") [acc,x]) (λ_ s₅=>∃m,m<n/\I m s₅) noX s₄) noX s₃
      else∃m,m<n/\I m s₃) noX s₂) noX s₁) noX s₁) noX s)
  (n:Nat) (h:I n s):
  C16 (model prog w) A (.compLoop (.ListComp g [⟨a,e,f,0⟩] d pos) 0 j acc env) R s:=by
 refine codeAny_loop rfl I (λn s p=>?_) n h;show wpAny _ A ((compTurn (.ListComp g [⟨a,e,f,0⟩] d pos) 0 j acc env).onRaise (λx=>do noteFrame x env;theTreesLotGoes x)) _ _ s
 refine wpAny_noted ?_;rw[compTurn_list];refine B75 (C50 (B75 (B90 (i n s p) (λr s₁ k=>?_) λ_ _ b=>b.elim)));cases r with
 |none=>exact B76 k
 |some v=>
  refine B75 (B90 k (λ_ s₁ k=>?_) λ_ _ b=>b.elim);refine B75 (B90 k (λ_ s₂ t=>B75 (B90 t (λok s₃ l=>?_) λ_ _ b=>b.elim)) λ_ _ b=>b.elim);cases ok with
  |false=>exact B76 ⟨rfl,l⟩
  |true=>
   exact B75 (B75 (B90 l (λx s₄ o=>B75 (B90 o (λ_ s₅ q=>B76 (B76 ⟨rfl,q⟩)) λ_ _ b=>b.elim)) λ_ _ b=>b.elim))
section
variable{X:Cx}{Ab:List (Addr×Obj)}{σ:St}{H:Hp}{s:Shared}
theorem Inv.other {h':Heap} {L:Addr} {n:Nat} (I:Inv X Ab σ H s)(a:X.s₀.heap.objs.size<=L)(d:H L=none)(g:L≠X.env.locals)(f:∀x c,X.env.cells.lookup x=some c->c≠L)(h:∀p∈X.pn++Ab,p.1≠L)
  (k:Heap.SameBut L s.heap h'):Inv X Ab σ H {s with heap:=h'}:=
 I.turned (t':=s.toks) (λb o a e=>(k.2 b a).trans e) d g (.inr a) f h
theorem qcD {a:Scope} {own:List Str} {fv:List Nat} {m:List Addr} (I:Inv X Ab σ H s)(S:LcScope X a own fv)(i:∀b∈m,FpOk X Ab H b)(hsz:∀b∈m,b<s.heap.objs.size):
  (lcCx X a own fv ⟨s.heap.objs.size,qGV X.env a.names [],m,s,H⟩).Ok:=by
 have j:∀x,(x,J8)∈a.names->∃c,X.env.cells.lookup x=some c:=λx h=>I.ok.has x (S.free _ h rfl);have g:=qF3 (env:=X.env) (names:=a.names) (acc:=[]) j (λx c z=>by simp at z)
 refine⟨I.ok.mod,S.kind,I.ok.glob,I.ok.blt,A6 _,λx y c r p=>I.ok.inj x y c (g _ _ r) (g _ _ p),λx h=>?_,λx c h=>?_,I.ok.hd,I.ok.frames,.inl rfl,λb f=>⟨?_,λx c e=>?_⟩,I.bs,F4 I.ok.bsz I.sz,λb o e f=>?_,λb f l=>?_,I.stack,I.stkFree⟩
 ·refine qF4 (.inl ?_);have d:(relabel a X.env).names.lookup x=some .cell\/(relabel a X.env).names.lookup x=some .free:=h;unfold relabel at d;rw[qDR] at d;cases e:a.names.lookup x with
  |none=>rw[e] at d;simp at d
  |some k=>
   have n:=J7 e;have q:=S.nocell _ n;rw[e] at d;simp only[R8,Option.some.injEq] at d;cases k with
   |free=>exact n
   |cell=>exact absurd rfl q
   |_=>simp at d
 ·cases h
 ·exact C4 (hsz b f)
 ·exact(i b f).2.2.2.2.1 x c (g _ _ e)
 ·rcases(i b f).2.2.2.1 with z|z
  ·exact I.ok.noex b o e z
  ·exact absurd (E1 (B1 (I.ok.bs b o e).1) z) (Q9 _)
 ·rcases B7.mp (I.stkSub b l) with z|z
  ·exact(i b f).2.1 z
  ·exact(i b f).2.2.1 z
theorem qXT {a:Scope} {own:List Str} {fv:List Nat} {fp:List Addr} {h₁:Heap} {tk:Nat} (I:Inv X Ab σ H s)(S:LcScope X a own fv)(hf:∀b∈fp,FpOk X Ab H b)(hsz:∀b∈fp,b<s.heap.objs.size)
  (a0:h₁.Ns s.heap.objs.size (λ_=>none)) (t:∀b o,s.heap.get? b=some o->h₁.get? b=some o):
  Inv (lcCx X a own fv ⟨s.heap.objs.size,qGV X.env a.names [],fp,s,H⟩) [] (qJ5 own fv σ) H {s with heap:=h₁,toks:=tk}:=by
 have w:∀x,(x,J8)∈a.names->∃c,X.env.cells.lookup x=some c:=λx hx=>I.ok.has x (S.free _ hx rfl);have h:=qF3 (env:=X.env) (names:=a.names) (acc:=[]) w (λx c z=>by simp at z)
 refine⟨qcD I S hf hsz,rfl,I.bare,Un.kept t,⟨_,a0,λi x v f d h3=>?_⟩,λx c e=>?_,I.hok.fresh (A6 _),λx c e=>I.freeC x c (h _ _ e),λp hp=>absurd (show p∈([]:List (Addr×Obj)) from hp) (by simp),I.hok.kept t,?_⟩
 ·have f:(own++fv.map λi=>X.N.getD i Q5)[i]?=some x:=f;unfold qJ5 at d;have r:own.length<=i:=by
   apply Z3;intro r;rw[J2 (by simpa using r),B6] at d
   cases e:own[i]? with
   |none=>rw[e] at d;cases d
   |some z=>rw[e] at d;cases d
  rw[G1 (by simpa using r),A0,B6] at d
  rw[G1 r,B6] at f;cases e:fv[i-own.length]? with
  |none=>rw[e] at f;cases f
  |some j=>
   rw[e] at f d;have hj:=S.fvs j (B5 e);have f:X.N.getD j Q5=x:=D7 f;have d:(σ[j]?).join=some v:=D7 d;have a1:σ[j]?=some (some v):=by
    cases q:σ[j]? with
    |none=>rw[q] at d;cases d
    |some y=>rw[q] at d;exact congrArg some d
   have hx:X.N[j]?=some x:=by
    rw[Y5] at f;rw[A4 hj.1] at f ⊢;exact congrArg some f
   have n:a.names.lookup x=some .free:=f ▸ hj.2;have g:=J7 n;obtain ⟨m,hn,hl⟩:=id I.loc;have k:=S.free _ g rfl;obtain ⟨u,ru,lk⟩:=hl j x v hx a1 (by
    rcases k with z|z
    ·exact .inr (.inl z)
    ·exact .inr (.inr z))
   refine⟨u,ru,?_⟩;rcases lk with⟨z,_⟩|⟨_,c,e1,z⟩
   ·rcases k with y|y
    ·have l:X.env.kindOf x=some .cell:=y;rw[z] at l;cases l
    ·have l:X.env.kindOf x=some .free:=y;rw[z] at l;cases l
   ·obtain⟨c',e2⟩:=qF4 (env:=X.env) (names:=a.names) (acc:=[]) (x:=x) (.inl g);have e3:=h _ _ e2;rw[e1] at e3;cases e3;obtain⟨o,ho,hd⟩:=z;refine .inr ⟨?_,c,e2,o,t _ _ ho,hd⟩;show(relabel a X.env).names.lookup x=some .cell\/(relabel a X.env).names.lookup x=some .free;unfold relabel;rw[qDR,n,R8]
    split
    ·exact .inl rfl
    ·exact .inr rfl
 ·obtain⟨v,o,ho,hd⟩:=I.cell x c (h _ _ e);exact⟨v,o,t _ _ ho,hd⟩
 ·unfold qJ5;show _=(own++fv.map λi=>X.N.getD i Q5).length;rw[A8,A8,A0,A0,A0]
theorem qaK {c:Scope} {own:List Str} {fv:List Nat} {f:List Addr} {a:List (Addr×Obj)} {σ':St} {H':Hp} {h:List (Str×Addr)} (I:Inv X Ab σ H s)(d:∀b∈f,FpOk X Ab H b)
  (J:Inv (lcCx X c own fv ⟨s.heap.objs.size,h,f,s,H⟩) a σ' H' g):Inv X Ab σ H' g:=
 I.call' (ch:=f) J.os J.base J.hok J.bare λb e=>⟨(d b e).2.2.2.1,(d b e).2.1,(d b e).2.2.2.2.1,(d b e).2.2.2.2.2⟩
end
def PTs (X:Cx)(ifs:List Expr)(t:TT):Prop:=
 ∀(Ab:List (Addr×Obj)) (s:Shared) (σ:St) (H:Hp) (Q:Bool->Hp->Prop),Inv X Ab σ H s->t σ H Q->
  wpAny (model X.prog X.w) X.A (forIn ifs true λc r=>if r=true then do let ok <- isTrue c X.env (eval c X.env);pure (O3 ok) else pure (O3 r)) (TP X Ab σ Q) X.xe s
def qdD:TT:=λ_ H Q=>Q true H
theorem qB0 {X:Cx} :PTs X [] qdD:=λa s σ H Q I h=>wpAny_tests_nil ⟨H,I,h⟩
theorem qDS {X:Cx} {c:Expr} {t:TT} (h:PT X c t):PTs X [c] t:=λa s σ H Q I b=>wpAny_tests_one (h a s σ H Q I b)
def qcE (own:List Str)(fv:List Nat)(wi:TI)(g:TG)(tc:TT)(te:TE)(K:Addr->Hp->Prop):St->Hp->Prop:=λσ H=>wi σ H λJ H1=>∀p,H1 p=none->
 ∃W:Nat->Nat->St->Hp->Prop,(∃m,W 0 m (qJ5 own fv σ) (Ag H1 p (.lst [])))/\∀i m σ H,W i m σ H->
  (J.stop i H/\K p H)\/(J.go i H/\∃ N:St->Hp->Prop,(∀ σ' H',N σ' H'->∃ m',m'<m/\W (i+1) m' σ' H')/\∀ x H',J.yld i H x H'->g x σ H' fun σ2 H2=>tc σ2 H2 fun b H3=>
   if b=true then te σ2 H3 λy H4=>∃ys,H4 p=some (.lst ys)/\ys.length<B77/\N σ2 (Ag H4 p (.lst (ys++[y])))
   else N σ2 H3)
def tLc (own:List Str)(fv:List Nat)(wi:TI)(g:TG)(tc:TT)(te:TE):TE:=λσ H Q=>qcE own fv wi g tc te (λp H'=>Q (.ref p) H') σ H
section
variable{X:Cx}{tg iter elt:Expr}{ifs:List Expr}{scope:Scope}{pos:Pos}{own:List Str}{fv:List Nat}{wi:TI}{g:TG}{tc:TT}{te:TE}
theorem qUQ {Ab:List (Addr×Obj)} {σ:St} {H:Hp} {K:Addr->Hp->Prop} {use:Option (Value->Sem Unit)} {Q:Aa1} (hc:X.calm=true)(S:LcScope X scope own fv)(hi:PI X tg iter wi)
  (hg:∀z,PG (lcCx X scope own fv z) tg g) (ht:∀z,PTs (lcCx X scope own fv z) ifs tc) (he:∀z,PE (lcCx X scope own fv z) elt te)
  (I:Inv X Ab σ H s) (h:qcE own fv wi g tc te K σ H) (ag:∀e s,X.xe e s->E e s)
  (al:∀ (p:Addr) (L:Addr) (H':Hp) (s':Shared) (m:Ab0),Inv X Ab σ H' s'->K p H'->s'.heap.Ns L m->X.s₀.heap.objs.size<=L->H' L=none->L ≠ X.env.locals->(∀ x c,X.env.cells.lookup x=some c->c ≠ L)->(∀ q ∈ X.pn++Ab,q.1 ≠ L)->
   compPost (model X.prog X.w) X.A E use Q (.ref p) L (.ok .next) s') (hs:∀x,C46 iter X.env x=pure x:=by intro _;rfl):
  wpAny (model X.prog X.w) X.A (comprehension (.ListComp elt [⟨tg,iter,ifs,0⟩] scope pos) scope X.env (firstIterPos [⟨tg,iter,ifs,0⟩] pos) (newList []) false (eval iter X.env) use) Q E s:=by
 have aj:∀x,(x,J8)∈scope.names->∃c,X.env.cells.lookup x=some c:=λx hx=>I.ok.has x (S.free _ hx rfl);refine wpAny_comprehension_free rfl hs (qHF aj) S.kind S.names (B90 (hi Ab s σ H _ I h) (λv s1 h1=>B90 h1 (λap j h2=>?_) ag) ag);obtain⟨it,k,tn,J,H2,e,I2,T,ad,f2,q2⟩:=h2;subst e
 -- the list
 refine B86 ?_;have a3:H2 j.heap.objs.size=none:=I2.hok.fresh (A6 _);have I3:Inv X Ab σ (Ag H2 j.heap.objs.size (.lst [])) {j with heap:=j.heap.push {cls:=.type "list",dict:=none,data:=.seq ([]:List Value).toArray}}:=
  I2.laid (t':=j.toks) (λb u e=>A3 _ e) (A6 _) ⟨E7 _,[],0,.nil,A9 _ rfl⟩
 obtain⟨W,⟨m0,w0⟩,ac⟩:=q2 j.heap.objs.size a3;have aa:∀b∈k,b<j.heap.objs.size:=λb a=>by
  obtain⟨o,e,_⟩:=T.obj 0 _ ad b a;exact B1 e
 have f3:∀b∈k,FpOk X Ab (Ag H2 j.heap.objs.size (.lst [])) b:=λb a=>⟨by rw[qA8 (C4 (aa b a))];exact(f2 b a).1,(f2 b a).2⟩
 generalize hp:j.heap.objs.size=p at *;generalize hH3:Ag H2 p (.lst [])=H3 at *;have an:tn 0 (j.heap.push {cls:=.type "list",dict:=none,data:=.seq ([]:List Value).toArray}):=T.keep _ _ _ ad λb _ o e=>A3 _ e;have am:∀b∈k,b<(j.heap.push {cls:=.type "list",dict:=none,data:=.seq ([]:List Value).toArray}).objs.size:=λb a=>by
  rw[J6];have:=aa b a;rw[hp];exact O8 this
 generalize hs3:({j with heap:=j.heap.push {cls:=.type "list",dict:=none,data:=.seq ([]:List Value).toArray}}:Shared)=f at *;have ae:tn 0 f.heap:=by rw[<- hs3];exact an
 have a6:∀b∈k,b<f.heap.objs.size:=by rw[<- hs3];exact am
 -- the block's frame
 refine wpAny_newFunctionEnv S.nocell (by intro y hy;simp at hy) (λh₁ a9 ab=>?_) S.kind
 have l:∀b o,f.heap.get? b=some o->h₁.get? b=some o:=λb o e=>ab.extBut b o (C4 (B1 e)) (A3 _ e);have J0:Inv (lcCx X scope own fv ⟨f.heap.objs.size,qGV X.env scope.names [],k,f,H3⟩) [] (qJ5 own fv σ) H3 {f with heap:=h₁,toks:=f.toks+([]:List (Str×Value)).length}:=qXT I3 S f3 a6 a9 l;have a7:=qcD I3 S f3 a6;generalize hz:(⟨f.heap.objs.size,qGV X.env scope.names [],k,f,H3⟩:LcZ)=z at *;have t:tn 0 h₁:=T.keep _ _ _ ae λb _ o e=>l b o e;have a4:∀b∈k,H3 b=none:=λb a=>(f3 b a).1;have a0:∀{H':Hp},(∀b∈k,H' b=none)->∀b∈k,FpOk (lcCx X scope own fv z) [] H' b:=λhn b a=>by
  subst hz;refine⟨hn b a,(a7.exf b a).1,a7.exfs b a,.inl a,(a7.exf b a).2,λq hq=>absurd (show q∈([]:List (Addr×Obj)) from hq) (by simp)⟩
 have af:({newEnv scope f.heap.objs.size X.env.globals (qGV X.env scope.names []) X.env.qual none .none (some X.env) C60 with scope:=relabel scope X.env}:Env)=(lcCx X scope own fv z).env:=by
  subst hz
  rfl
 have a5:∀sA:Shared,sA={f with heap:=h₁,toks:=f.toks+([]:List (Str×Value)).length}->C16 (model X.prog X.w) X.A (.compLoop (.ListComp elt [⟨tg,iter,ifs,0⟩] scope pos) 0 (.ref it) (.ref p) (lcCx X scope own fv z).env)
   (compPost (model X.prog X.w) X.A E use Q (.ref p) f.heap.objs.size) sA:=by
  rintro sA rfl;refine qNZ (λn s'=>∃i σ' H',Inv (lcCx X scope own fv z) [] σ' H' s'/\tn i s'.heap/\(∀b∈k,H' b=none)/\W i n σ' H') ?_ m0 ⟨0,_,H3,J0,t,a4,w0⟩;rintro n s4 ⟨i,σ4,H4,I4,t,a4,w4⟩;rcases ac i n σ4 H4 w4 with⟨ah,qn⟩|⟨go,Nx,a8,ai⟩
  ·refine thn (T.done (lcCx X scope own fv z) rfl rfl rfl hc i [] s4 σ4 H4 noX I4 (a0 a4) t ah) λr s5 ⟨hr,I5⟩=>?_;subst hr;subst hz;have I6:Inv X Ab σ H4 s5:=qaK I3 f3 I5;obtain⟨m,hn,_⟩:=id I5.loc;have a2:=I3.fpOk (H':=H4) (b:=f.heap.objs.size) (A6 _) I5.free;refine al p f.heap.objs.size H4 s5 m I6 qn hn I3.sz a2.1 a2.2.1 a2.2.2.2.2.1 a2.2.2.2.2.2
  ·refine thn (T.item (lcCx X scope own fv z) rfl rfl rfl hc i [] s4 σ4 H4 noX I4 (a0 a4) t go) λr s5 ⟨u,hr,h5⟩=>?_;subst hr;refine thn h5 λ_ s6 ⟨x,H6,I6,r6,y6,st6,fr6⟩=>?_;have ak:=I6.pinned (a0 fr6) (T.obj _ _ st6);have a1:∀{σ7:St} {H7:Hp} {s7:Shared} {m':Nat},m'<n->Inv (lcCx X scope own fv z) ([]++qN8 k s6.heap) σ7 H7 s7->W (i+1) m' σ7 H7->
     ∃m,m<n/\∃i σ' H',Inv (lcCx X scope own fv z) [] σ' H' s7/\tn i s7.heap/\(∀b∈k,H' b=none)/\W i m σ' H':=λ{σ7 H7 s7 m'} hm I7 w7=>by
    refine⟨m',hm,i+1,σ7,H7,I7.unpinned,T.keep _ _ _ st6 λb a o e=>(I7.pin (b,o) (G2 _ (G2 _ (qFF a e)))).1,λb a=>?_,w7⟩;obtain⟨o,e,d⟩:=T.obj _ _ st6 b a;exact(I7.pin (b,o) (G2 _ (G2 _ (qFF a e)))).2.1
   refine thn (hg z _ s6 σ4 H6 x u _ ak r6 (ai x H6 y6)) λ_ s7 ⟨σ7,H7,I7,q7⟩=>?_;refine thn (ht z _ s7 σ7 H7 _ I7 q7) λb s8 ⟨H8,I8,q8⟩=>?_;cases b with
   |false=>
    obtain⟨m',hm,w8⟩:=a8 _ _ q8;exact a1 hm I8 w8
   |true=>
    refine thn (he z _ s8 σ7 H8 _ I8 q8) λv s9 ⟨y,H9,I9,r9,ys,ep,hl,w9⟩=>?_;refine thn (qC3 (X:=lcCx X scope own fv z) _ s9 σ7 H9 (.ref p) [y] (.ref p) [v] (λ_ H'=>Nx σ7 H') I9 rfl (.cons r9 .nil) ⟨p,ys,y,rfl,rfl,ep,hl,w9⟩) λ_ s10 ⟨_,H10,I10,_,q10⟩=>?_;obtain⟨m',hm,ao⟩:=a8 _ _ q10;exact a1 hm I10 ao
 rw[af];exact codeAny_compStart_list (a5 _ rfl) (T.self _ _ _ _ _ t (a5 _ rfl))
theorem qC9 (t:X.calm=true)(S:LcScope X scope own fv)(hi:PI X tg iter wi)(r:∀z,PG (lcCx X scope own fv z) tg g)(o:∀z,PTs (lcCx X scope own fv z) ifs tc)(l:∀z,PE (lcCx X scope own fv z) elt te)
  (u:∀x,C46 iter X.env x=pure x:=by intro _;rfl):PE X (.ListComp elt [⟨tg,iter,ifs,0⟩] scope pos) (tLc own fv wi g tc te):=by
 intro w s σ H Q I h;rw[eval_ListComp];refine qUQ (use:=none) (K:=λp b=>Q (.ref p) b) t S hi r o l I h (λ_ _ q=>q) (λp L b v m c q i f d k j e=>?_) u;exact⟨m,i,λy a=>⟨.ref p,b,c.other (n:=0) f d k j e a,rfl,q⟩⟩
theorem qOT {i:Nat} {x:Str} {b c:Pos} (hN:X.N.Nodup)(hx:X.N[i]?=some x)(r:X.env.scope.names.lookup x=some .local)(u:X.calm=true)(S:LcScope X scope own fv)(hi:PI X tg iter wi)(hg:∀z,PG (lcCx X scope own fv z) tg g)
  (ht:∀z,PTs (lcCx X scope own fv z) ifs tc) (he:∀z,PE (lcCx X scope own fv z) elt te) (j:swapsWith (.ListComp elt [⟨tg,iter,ifs,0⟩] scope pos) (some (.Name x b)) c.line X.env=pure true)
  (hs:∀x,C46 iter X.env x=pure x:=by intro _;rfl):PS X (.Assign [.Name x b] (.ListComp elt [⟨tg,iter,ifs,0⟩] scope pos) c) (tAsg (tLc own fv wi g tc te) (qVD i)):=by
 intro Ab s σ H D I h;rw[exec_Assign_Name_used _ _ _ _ j];refine B75 (C50 (B75 ?_));show wpAny _ X.A (do let _ <- comprehension (.ListComp elt [⟨tg,iter,ifs,0⟩] scope pos) scope X.env _ (newList []) false (eval iter X.env) (some (assign (.Name x b) X.env))) _ _ s
 refine B75 (B90 (qUQ (use:=some (assign (.Name x b) X.env)) (K:=fun p k=>D.nx (σ.set i (some (.ref p))) k) (Q:=fun _ l=>SP X Ab D .next l) (E:=X.xe) u S hi hg ht he I h (fun _ _ q=>q) (fun p L k l m I' q w h1 h2 t o h5=>?_) hs)
  (λ_ l hq=>B76 (B76 hq)) λ_ _ e=>e)
 show wpAny _ X.A (assign (.Name x b) X.env (.ref p)) _ _ _;refine wpAny_assign_Name (qMU (v:=.ref p) I' hN hx (.inl r) rfl (λs2 I2 ⟨a,hsb,ha⟩=>?_) (.inr r));have f:L≠a:=by
  rcases ha with z|z
  ·rw[z];exact t
  ·exactλy=>o x a z y.symm
 exact⟨m,w.sameBut hsb f,λh' d=>⟨_,k,I2.other (n:=0) h1 h2 t o h5 d,q⟩⟩
end
abbrev LcG (I:It)(g:TG)(tc:TT)(te:TE)(Kf:Hp->Prop)(σ0:St)(H0:Hp)(p:Addr):Prop:=∃W:Nat->Nat->St->Hp->Prop,(∃m,W 0 m σ0 H0)/\∀i m σ H,W i m σ H->(I.stop i H/\Kf H)\/(I.go i H/\∃N:St->Hp->Prop,(∀σ' H',N σ' H'->∃m',m'<m/\W (i+1) m' σ' H')/\∀x H',I.yld i H x H'->g x σ H' λσ2 H2=>tc σ2 H2 λb H3=>if b=true then te σ2 H3 λy H4=>∃ys,H4 p=some (.lst ys)/\ys.length<B77/\N σ2 (Ag H4 p (.lst (ys++[y]))) else N σ2 H3)
theorem qDM {lo:Int} {n:Nat} {g:TG} {d:TT} {c:TE} {Kf:Hp->Prop} {σ0:St} {H0:Hp} {p:Addr} (Pv:Nat->St->Hp->Prop)(f:Pv 0 σ0 H0)
  (l:∀i σ H,i<n->Pv i σ H->g (.int (lo+i)) σ H λσ2 H2=>d σ2 H2 λb H3=>if b=true then c σ2 H3 λy H4=>∃ys,H4 p=some (.lst ys)/\ys.length<B77/\Pv (i+1) σ2 (Ag H4 p (.lst (ys++[y]))) else Pv (i+1) σ2 H3)
  (k:∀σ H,Pv n σ H->Kf H):
  LcG (Itr lo n) g d c Kf σ0 H0 p:=by
 refine⟨λi m σ H=>m=n-i/\i<=n/\Pv i σ H,⟨n,by simp,E7 _,f⟩,?_⟩
 rintro i m σ H ⟨rfl,hi,q⟩;by_cases a:i<n
 ·refine .inr ⟨a,Pv (i+1),λσ' h j=>⟨n-(i+1),by omega,rfl,a,j⟩,λx h y=>?_⟩
  obtain⟨e,y⟩:=y;subst e y;exact l i σ _ a q
 ·have e:i=n:=by omega
  subst e;exact .inl ⟨A6 _,k σ H q⟩
theorem qEW {K:Ab1} {a:Addr} {xs:List V} {g:TG} {h:TT} {f:TE} {Kf:Hp->Prop} {σ0:St} {H0:Hp} {p:Addr} (Pv:Nat->St->Hp->Prop)(j:Pv 0 σ0 H0)(k:∀i σ H,i<=xs.length->Pv i σ H->SqL K H a xs)
  (r:∀i x σ H,xs[i]?=some x->Pv i σ H->g x σ H λσ2 H2=>h σ2 H2 λb H3=>if b=true then f σ2 H3 λy H4=>∃ys,H4 p=some (.lst ys)/\ys.length<B77/\Pv (i+1) σ2 (Ag H4 p (.lst (ys++[y]))) else Pv (i+1) σ2 H3)
  (o:∀σ H,Pv xs.length σ H->Kf H):
  LcG (Itl K a) g h f Kf σ0 H0 p:=by
 refine⟨λi m σ H=>m=xs.length-i/\i<=xs.length/\Pv i σ H,⟨xs.length,by simp,E7 _,j⟩,?_⟩
 rintro i m σ H ⟨rfl,hi,q⟩;have d:=k i σ H hi q;by_cases c:i<xs.length
 ·refine .inr ⟨⟨xs,xs[i],d,by simp[c]⟩,Pv (i+1),λσ' l n=>⟨xs.length-(i+1),by omega,rfl,c,n⟩,λx l y=>?_⟩
  obtain⟨e,y⟩:=y;subst e;exact r i x σ _ (y xs d) q
 ·have e:i=xs.length:=by omega
  subst e;exact .inl ⟨⟨xs,d,A6 _⟩,o σ H q⟩
theorem qDL {K:Ab1} {a:Addr} {xs:List V} {g:TG} {h:TT} {f:TE} {Kf:Hp->Prop} {σ0:St} {H0:Hp} {p:Addr} (Pv:Nat->St->Hp->Prop)(j:Pv 0 σ0 H0)(k:∀i σ H,i<=xs.length->Pv i σ H->SqT K H a xs)
  (r:∀i x σ H,xs[i]?=some x->Pv i σ H->g x σ H λσ2 H2=>h σ2 H2 λb H3=>if b=true then f σ2 H3 λy H4=>∃ys,H4 p=some (.lst ys)/\ys.length<B77/\Pv (i+1) σ2 (Ag H4 p (.lst (ys++[y]))) else Pv (i+1) σ2 H3)
  (o:∀σ H,Pv xs.length σ H->Kf H):
  LcG (Itt K a) g h f Kf σ0 H0 p:=by
 refine⟨λi m σ H=>m=xs.length-i/\i<=xs.length/\Pv i σ H,⟨xs.length,by simp,E7 _,j⟩,?_⟩
 rintro i m σ H ⟨rfl,hi,q⟩;have d:=k i σ H hi q;by_cases c:i<xs.length
 ·refine .inr ⟨⟨xs,xs[i],d,by simp[c]⟩,Pv (i+1),λσ' l n=>⟨xs.length-(i+1),by omega,rfl,c,n⟩,λx l y=>?_⟩
  obtain⟨e,y⟩:=y;subst e;exact r i x σ _ (y xs d) q
 ·have e:i=xs.length:=by omega
  subst e;exact .inl ⟨⟨xs,d,A6 _⟩,o σ H q⟩
noncomputable def qUR (scope:Scope)(own:List Str)(fv:List Nat)(osc:Scope)(N:List Str):Bool:=
 decide (scope.kind=.function)&&scope.names.all (λy=>decide (y.2≠.cell))&&scope.names.all (λy=>decide (y.2≠.local)||decide (scope.names.lookup y.1=some .local)) &&
 scope.names.all (λy=>decide (y.2≠.free)||(decide (osc.names.lookup y.1=some .cell)||decide (osc.names.lookup y.1=some .free)))&&decide ((own++fv.map λi=>N.getD i Q5).Nodup) &&
 fv.all λi=>decide (i<N.length)&&decide (scope.names.lookup (N.getD i Q5)=some .free)
theorem lcs {X:Cx} {a:Scope} {own:List Str} {fv:List Nat} (h:qUR a own fv X.env.scope X.N=true):LcScope X a own fv:=by
 unfold qUR at h;simp only[J9,decide_eq_true_eq,K0,c5] at h;obtain⟨⟨⟨⟨⟨f,c⟩,i⟩,g⟩,d⟩,j⟩:=h;exact⟨f,c,λy b e=>(i y b).resolve_left λz=>z e,λy b e=>(g y b).resolve_left λz=>z e,d,j⟩
theorem qe4 {N:List Str} (h:decide N.Nodup=true):N.Nodup:=of_decide_eq_true h
theorem qH2 {X:Cx} {K:Ab1} {es:List Expr} {k n:Nat} {t:TGs} {pos:Pos} (c:X.K=K)(d:X.calm=true)(h:PGs X es t)(b:(C29 es X.env).length=n)(a:(C29 es X.env).findIdx? (·.1)=none):PG X (.Tuple es k pos) (gTup K n t):=by
 subst c b;exact qKJ d h rfl a
theorem qLQ {X:Cx} {K:Ab1} {d l:Expr} {a:TE} (b:X.K=K)(c:PE X l a):PI X d l (iTup K a):=by subst b;exact qCT c
theorem qH8 {X:Cx} {K:Ab1} (a:X.K=K):IxR X (rIxT K):=by subst a;exact qB9
theorem qRA {X:Cx} {K:Ab1} (a:X.K=K):IxR X (rIxL K):=by subst a;exact qCD
theorem qKM {X:Cx} {K:Ab1} (a:X.K=K):OpR X (B95 .In) (rIn K false):=by subst a;exact qDX
theorem qEE {X:Cx} {K:Ab1} (a:X.K=K):qCF X (.type "tuple") (λxs H Q=>∃p ys,xs=[.ref p]/\((SqL K H p ys/\∀l,H l=none->Q (.ref l) (Ag H l (.tup ys)))\/(SqT K H p ys/\Q (.ref p) H))):=by subst a;exact qAF
theorem qMH {xs:Array Nat} {j:Nat} (up:∀a b,a<b->b<xs.size->xs.getD a j<xs.getD b j):∀(fuel lo hi:Nat),lo<=hi->hi<=xs.size->hi-lo<=fuel->(∀i,i<lo->xs.getD i j<j)->(∀i,hi<=i->i<xs.size->j<=xs.getD i j)->
  j4 xs j fuel lo hi<=xs.size/\(∀i,i<j4 xs j fuel lo hi->xs.getD i j<j)/\(∀i,j4 xs j fuel lo hi<=i->i<xs.size->j<=xs.getD i j)
 |0,lo,hi,h1,h2,h3,a,b=>by
  have e:lo=hi:=by lia
  subst e;exact⟨h2,a,b⟩
 |fuel+1,lo,hi,h1,h2,h3,a,b=>by
  unfold j4;by_cases hlt:lo<hi
  ·rw[if_pos hlt];dsimp only;have hm1:lo<=(lo+hi)/2:=by lia
   have hm2:(lo+hi)/2<hi:=by lia
   by_cases hc:xs.getD ((lo+hi)/2) j<j
   ·rw[if_pos hc];refine qMH up fuel _ _ (by lia) h2 (by lia) (λi hi'=>?_) b
    by_cases e:i=(lo+hi)/2
    ·rw[e];exact hc
    ·exact T6 (up i ((lo+hi)/2) (by lia) (by lia)) hc
   ·rw[if_neg hc];refine qMH up fuel _ _ (by lia) (by lia) (by lia) a (λi hi' hs=>?_)
    by_cases e:i=(lo+hi)/2
    ·rw[e];lia
    ·have:=up ((lo+hi)/2) i (by lia) hs
     lia
  ·rw[if_neg hlt];have e:lo=hi:=by lia
   subst e;exact⟨h2,a,b⟩
theorem qZP {xs:Array Nat} (j:Nat)(h:xs.toList.Pairwise (·<·)):∀a b,a<b->b<xs.size->xs.getD a j<xs.getD b j:=λa b c d=>by
 have:=G3.mp h a b (by simpa using T6 c d) (by simpa using d) c
 rw[E9,E9,C3 (T6 c d),C3 d];simpa using this
theorem qHG {xs:Array Nat} {j:Nat} (h:xs.toList.Pairwise (·<·)):E5 xs j<=xs.size/\(∀i,i<E5 xs j->xs.getD i j<j)/\(∀i,E5 xs j<=i->i<xs.size->j<=xs.getD i j):=by
 unfold E5;exact qMH (qZP j h) xs.size 0 xs.size (E7 _) (A6 _) (by lia) (λi a=>absurd a (by lia)) (λi a b=>absurd b (by lia))
theorem qDF {α:Type} (xs:Array α)(p:Nat)(x:α):(F6 xs p x).toList=xs.toList.take p++x::xs.toList.drop p:=by
 unfold F6;simp[Array.toList_extract,C6]
structure T7 (byText:Bool)(t:C06)(n:Nat):Prop where
 mask:t.mask=7
 dum:t.dummies=#[]
 plain:t.plain=true
 led:t.led=!byText
 size:t.place.size=n
 up:t.place.toList.Pairwise (·<·)
 le:∀j∈t.place.toList,j<=7
section
variable{byText:Bool}{t:C06}{n:Nat}
end
theorem qKZ {α:Type} :∀(l:List α) (i:Nat) (h:i<l.length),(l[i]::l.eraseIdx i).Perm l
 |[],i,h=>absurd h (by simp)
 |a::r,0,h=>.refl _
 |a::r,i+1,h=>by
  have hi:i<r.length:=by simpa using h
  have ih:=qKZ r i hi;show(r[i]::a::r.eraseIdx i).Perm (a::r);exact(List.Perm.swap _ _ _).trans (ih.cons a)
theorem qU0 {α:Type} (next:Nat->Nat):∀(fuel k:Nat) (left:List α) (out:Array α),fuel=left.length->(B16 next fuel k left out).toList.Perm (out.toList++left)
 |0,k,left,out,h=>by
  have:left=[]:=M8.mp h.symm;subst this;unfold B16;simp
 |fuel+1,k,left,out,h=>by
  have hl:0<left.length:=by lia
  have hm:next k%left.length<left.length:=a9 _ hl;unfold B16;rw[A4 hm];dsimp only;refine(qU0 next fuel (k+1) _ _ (by rw[List.length_eraseIdx_of_lt hm];lia)).trans ?_
  rw[V3,M7];exact k8 _ (qKZ left _ hm)
theorem qTZ {α:Type} (next:Nat->Nat)(xs:Array α):(pickOrder next xs).toList.Perm xs.toList:=by
 unfold pickOrder;have:=qU0 next xs.size 0 xs.toList #[] (by simp)
 simpa using this
abbrev Ents:List Int->List (Int×Value)->Prop:=Paired λk e=>∃tk,e=(hashInt k,U8 k tk)
theorem Ents.perm:∀{es es':List (Int×Value)} {ks:List Int},Ents ks es->es'.Perm es->∃ks',Ents ks' es'/\ks'.Perm ks:=by
 intro es es' ks h p;have e:∀{a b:List (Int×Value)},a.Perm b->∀ks,Ents ks b->∃ks',Ents ks' a/\ks'.Perm ks:=by
  intro a b p
  induction p with
  |nil=>intro ks h;exact⟨ks,h,.refl _⟩
  |cons x p ih=>
   intro ks h;cases h with
   |cons r t=>
    obtain⟨ks',d,c⟩:=ih _ t;exact⟨_::ks',.cons r d,c.cons _⟩
  |swap x y l=>
   intro ks h;cases h with
   |cons r t=>
    cases t with
    |cons r' t'=>exact⟨_,.cons r' (.cons r t'),.swap _ _ _⟩
  |trans p q ih1 ih2=>
   intro ks h;obtain⟨j,d,c⟩:=ih2 ks h;obtain⟨g,i,f⟩:=ih1 j d;exact⟨g,i,f.trans c⟩
 exact e p ks h
theorem Ents.elems {es:List (Int×Value)} {ks:List Int} (h:Ents ks es):ElemsOf (C27 prog w) es:=by
 intro e a;have b:∀{ks:List Int} {es:List (Int×Value)},Ents ks es->∀e∈es,∃k tk,e=(hashInt k,U8 k tk):=by
  intro ks es h
  induction h with
  |nil=>intro e a;cases a
  |cons r t ih=>
   intro e a;rcases B7.mp a with z|z
   ·subst z;obtain⟨tk,e⟩:=r;exact⟨_,tk,e⟩
   ·exact ih e z
 obtain⟨k,tk,rfl⟩:=b h e a;exact⟨⟨k,by simp[C27,A25],rfl⟩,rfl⟩
theorem Ents.find {k:Int} :∀{es:List (Int×Value)} {ks:List Int},Ents ks es->((B59 (λe=>(C27 prog w).is k e.2) es).isSome=true↔k∈ks)
 |_,_,.nil=>by simp
 |_,_,.cons r t=>by
  obtain⟨tk,rfl⟩:=r
  rename_i k' ks' es'
  have ih:=Ents.find (prog:=prog) (w:=w) (k:=k) t;rw[List.findIdx?_cons,B7];have hi:(C27 prog w).is k (U8 k' tk)=decide (k=k'):=by
   by_cases e:k=k'
   ·simp[C27,A25,e]
   ·have e':¬k'=k:=λz=>e z.symm;simp[C27,A25,e,e']
  dsimp only;rw[hi];by_cases e:k=k'
  ·simp[e]
  ·simp only[e,decide_false,G7,if_false,false_or,i9];exact ih
noncomputable def byT (w:World):Bool:=w.params.followText "set-order"
def SetI (w:World)(a:Addr)(zs:List Int)(h:Heap):Prop:=
 ∃(es:Array (Int×Value)) (ep:Nat) (t:C06) (ks:List Int),h.get? a=some {cls:=.type "set",data:=.set es ep t}/\T7 (byT w) t es.size/\Ents ks es.toList/\ks.Perm zs/\zs.Nodup/\zs.length<=4
noncomputable def addI (zs:List Int)(k:Int):List Int:=if k∈zs then zs else zs++[k]
section
variable{prog:B79}{w:World}{A:Around}{E:Aa1}{s:Shared}
theorem SetI.size {a:Addr} {zs:List Int} {h:Heap} {es:Array (Int×Value)} {ks:List Int} (b:Ents ks es.toList)(c:ks.Perm zs):es.size=zs.length:=by
 rw[<- c.length_eq,C2 b,C0]
end
noncomputable def dedI:List Int->List Int:=λl=>l.foldl addI []
theorem qYM (zs:List Int)(k:Int):(addI zs k).length<=zs.length+1:=by
 unfold addI
 split<;>simp
theorem qDU:∀(l zs:List Int),(l.foldl addI zs).length<=zs.length+l.length
 |[],zs=>by simp
 |k::r,zs=>by
  have h1:=qDU r (addI zs k);have h2:=qYM zs k;rw[V1,D3]
  lia
section
variable{prog:B79}{w:World}{A:Around}{R:Result->Shared->Prop}{I:Addr}{fp wr:List Addr}{G:Array C37->Array C37->Prop}{n:Nat}{P:Nat->Value->Prop}{St:Nat->Shared->Prop}
end
noncomputable abbrev freshSet (w:World):Obj:={cls:=.type "set",dict:=none,data:=.set #[] 0 (.fresh 0 0 (!byT w))}
section
variable{prog:B79}{w:World}{A:Around}{E:Aa1}{s:Shared}
theorem qN2 (a:Value){Q₁:Aa1}(h:Q₁ (.ref s.heap.objs.size) {s with heap:=s.heap.push (freshSet w)}):
  C16 (model prog w) A (.call (.builtin "set.__new__") ⟨[.type "set",a],[]⟩) (wants Q₁ E) s:=by
 refine C64 ?_;show wpAny _ A.in1 (do checkBuiltinCall "set.__new__" ⟨[.type "set",a],[]⟩;again (.builtin "set.__new__" ⟨[.type "set",a],[]⟩)) _ _ s
 refine B75 (C26 (F.newCall_set_1 a) (B76 ⟨C00 F.plain_set_new _,B91 F.entry_set_new ?_⟩));rw[F8 F.plain_set_new _];unfold Builtin.«set.__new__» B44;have b:=sub_set_self;obtain⟨f,g,d,e,c⟩:=s;dsimp only
 wp_walk
 refine C31 (B76 ?_);dsimp only;simp only[newObj];refine B75 (wpAny_alloc (B76 ?_));exact B76 h
set_option maxHeartbeats 3200000 in
end
theorem slot_si_next:Slot "set_iterator" "__next__" "set_iterator.__next__":=
 .of (owner:="set_iterator") (n:="__next__") (by rw[typeLookup_type,C58];kernel_rfl) (by decide +kernel) (by decide +kernel) (by decide +kernel)
  (by first|exact .inl (by decide +kernel)|exact .inr (by decide +kernel)) (by rw[isSubtype_type];kernel_rfl)
theorem qHI:Slot "set_iterator" "__iter__" "set_iterator.__iter__":=
 .of (owner:="set_iterator") (n:="__iter__") (by rw[typeLookup_type,C58];kernel_rfl) (by decide +kernel) (by decide +kernel) (by decide +kernel)
  (by first|exact .inl (by decide +kernel)|exact .inr (by decide +kernel)) (by rw[isSubtype_type];kernel_rfl)
theorem qGT:entryFor table "set_iterator.__next__" = some Builtin.«set_iterator.__next__»:=entryFor_of_tree (by kernel_rfl)
theorem qMA:entryFor table "set_iterator.__iter__" = some Builtin.«dict_keyiterator.__iter__»:=
 entryFor_alias (id':="dict_keyiterator.__iter__") (by kernel_rfl) rfl (by decide +kernel) (by kernel_rfl)
theorem qKA:entryFor table "set.__iter__" = some Builtin.«frozenset.__iter__»:=
 entryFor_alias (id':="frozenset.__iter__") (by kernel_rfl) rfl (by decide +kernel) (by kernel_rfl)
theorem qQV:Manifest.owners.lookup (String.ofList "set_iterator".toList.reverse.reverse)=some Manifest.sig_set_iterator:=by kernel_rfl
theorem qHP (a:Value):argsOk "set_iterator.__next__" ⟨[a],[]⟩:=by
 unfold argsOk;rw[signature?_of (id:="set_iterator.__next__") (n:="__next__".toList.reverse) (o:="set_iterator".toList.reverse) (by kernel_rfl) qQV];kernel_rfl
theorem qO9 (a:Value):argsOk "set_iterator.__iter__" ⟨[a],[]⟩:=by
 unfold argsOk;rw[signature?_of (id:="set_iterator.__iter__") (n:="__iter__".toList.reverse) (o:="set_iterator".toList.reverse) (by kernel_rfl) qQV];kernel_rfl
noncomputable def qEM (w:World)(a:Addr)(ep:Nat)(es:Array (Int×Value)):List (Int×Value):=if byT w=true then(pickOrder (w.params.setOrder a ep) es).toList else es.toList
noncomputable def qEO (w:World)(t:C06)(i:Nat):Nat:=if byT w=true then 0 else if i=0 then 0 else t.place.getD (i-1) 0+1
theorem qEL (w:World)(a:Addr)(ep:Nat)(es:Array (Int×Value)):(qEM w a ep es).Perm es.toList:=by
 unfold qEM
 split
 ·exact qTZ _ _
 ·exact .refl _
def SetIt (w:World)(a I:Addr)(es:Array (Int×Value))(ep:Nat)(t:C06)(i:Nat)(h:Heap):Prop:=
 (∃o,h.get? I=some o/\o.cls=.type "set_iterator"/\o.data=.fields #[.int (qEO w t i) 0,.int i 0,.ref a,.int es.size 0,.int ep 0])/\h.get? a=some {cls:=.type "set",data:=.set es ep t}
section
variable{prog:B79}{w:World}{A:Around}{E:Aa1}{s:Shared}{a I:Addr}{es:Array (Int×Value)}{ep:Nat}{t:C06}{i:Nat}
theorem SetIt.typeIs (x:SetIt w a I es ep t i s.heap):s.TypeIs (.ref I) "set_iterator":=let⟨⟨o,h1,h2,_⟩,_⟩:=x;⟨o,h1,h2⟩
theorem qZY {Q:Aa1} (b:SetIt w a I es ep t i s.heap)(h:Q (.ref I) s):wpAny (model prog w) A (pyIter (.ref I)) Q E s:=by
 refine wpAny_pyIter_slot b.typeIs qHI (B87 qHI b.typeIs qMA ?_ (qO9 _));show wpAny _ _ (ret (.ref I)) _ _ s;exact B76 ⟨_,rfl,"set_iterator",_,b.typeIs,slot_si_next.lookup,h⟩
theorem qZZ {Q:Bool->Shared->Prop} (d:s.TypeIs (.ref a) "set") (h:Q false s):wpAny (model prog w) A (r8 (.ref a)) Q E s:=by
 unfold r8;refine B75 (wpAny_specialOf d PySem.F.slot_set_len.lookup ?_);generalize hid:("set.__len__" : String)=e
 wp_delta
 rw[show splitId e=some ("set","__len__") from by subst hid;decide +kernel]
 subst hid;refine B75 (C32 (T:="set") (b:=true) d (by rw[isSubtype_type];kernel_rfl) ?_)
 refine wpAny_ite_split (λc=>absurd c (by decide)) (λ_=>?_)
 refine wpAny_ite_split (λ_=>?_) (λc=>absurd (by decide +kernel) c)
 refine B75 (C14 d ?_);exact B76 h
end
theorem qCH {ns:List Int} :∀{us:List Value},Vals (ns.map V.int) us->B85 us ns:=by
 induction ns with
 |nil=>intro us h;cases h;exact .nil
 |cons n r ih=>
  intro us h;cases h with
  |cons r1 r2=>
   obtain⟨t,rfl⟩:=r1;exact IntsAre.cons _ _ (ih r2)
theorem qHH:∀{us:List Value} {ns:List Int},B85 us ns->Vals (ns.map V.int) us:=qIG
section
variable{X:Cx}
def SetO (w:World)(a:Addr)(zs:List Int):HO:=.ext (SetI w a zs)
theorem Inv.track {Ab:List (Addr×Obj)} {σ:St} {H:Hp} {T:Addr} {o:HO} (I:Inv X Ab σ H s)(i:H T=none)(l:X.s₀.heap.objs.size<=T)(j:T≠X.env.locals)(z:∀x c,X.env.cells.lookup x=some c->c≠T)(m:∀p∈X.pn++Ab,p.1≠T)
  (f:ObjOk X.prog X.w (Ag H T o) s.heap T o):Inv X Ab σ (Ag H T o) s:=by
 have d:∀b ob,X.s₀.heap.get? b=some ob->b≠T:=λb ob e=>C4 (E1 (B1 e) l);have a:∀b u,H b=some u->(Ag H T o) b=some u:=λb u e=>by rw[qA8 (qA6 e i)];exact e
 refine⟨I.ok,I.os,I.bare,⟨I.base.keep,I.base.slot,λb ob e n k=>?_,I.base.there,λb xs e=>a _ _ (I.base.tups b xs e),λb ob u e=>a _ _ (I.base.frzs b ob u e),λb ps e=>?_⟩,I.loc,I.cell,?_,λx c e=>?_,λp g=>?_,λb u e=>?_,I.len⟩
 ·rw[qA8 (d b ob e)];exact I.base.free b ob e n k
 ·exact a _ _ (I.base.tbls b ps e)
 ·rw[qA8 (F5 j)];exact I.free
 ·rw[qA8 (z x c e)];exact I.freeC x c e
 ·obtain⟨y,n,r⟩:=I.pin p g;exact⟨y,by rw[qA8 (m p g)];exact n,r⟩
 ·by_cases h:b=T
  ·subst h;rw[qA1] at e;cases e;exact f
  ·rw[qA8 h] at e;exact(I.hok b u e).stay (λc v _ q=>q) (λc q=>a _ _ q) (λc ys q=>a _ _ q) λc t q=>a _ _ q
theorem qKO {Ab:List (Addr×Obj)} {σ:St} {H:Hp} {vs:List Value} {ns:List Int} (I:Inv X Ab σ H s)(b:B85 vs ns)(a:ns.length<=B77):
  Inv X Ab σ (Ag H s.heap.objs.size (.lst (ns.map V.int))) {s with heap:=s.heap.push {cls:=.type "list",data:=.seq vs.toArray}}:=
 I.lnew (t':=s.toks) (qHH b) (by rw[A0];exact a)
noncomputable def qHL (lo hi:Int):List V:=(E6 (hi-lo).toNat).map λ(i:Nat)=>V.int (lo+i)
theorem qW8:qCF X (.type "range") (λxs H Q=>∃i j,xs=[.int i,.int j]/\∀p,H p=none->Q (.ref p) (Ag H p (.rng i j))):=by
 intro c s σ H xs d Q I r h;obtain⟨i,j,rfl,q⟩:=h;obtain⟨u,v,rfl,⟨t,rfl⟩,⟨a,rfl⟩⟩:=qK2 r;refine call_range_2 ⟨.ref s.heap.objs.size,_,I.laid (λb o e=>A3 _ e) (A6 _) ?_,rfl,q _ (I.hok.fresh (A6 _))⟩;exact⟨_,_,_,A9 _ rfl⟩
theorem qX6 {lo hi:Int} {n:Nat} {acc:List Value} (d:n=(hi-lo).toNat)(a:acc.length=n)(h:∀(i:Nat) (v:Value),acc[i]?=some v->∃t,v=.int (lo+i*1) t):Vals (qHL lo hi) acc:=by
 have b:∀(m:Nat) (acc:List Value),acc.length=m->∀lo:Int,(∀(i:Nat) (v:Value),acc[i]?=some v->∃t,v=.int (lo+i) t)->Vals ((E6 m).map λ(i:Nat)=>V.int (lo+i)) acc:=by
  intro m
  induction m with
  |zero=>
   intro acc a lo h;have:acc=[]:=M8.mp a;subst this;exact .nil
  |succ m ih=>
   intro acc a lo h;cases acc with
   |nil=>simp at a
   |cons v acc=>
    rw[A43,C7,k9];have c:=h 0 v rfl;refine .cons c ?_;have f:=ih acc (by simpa using a) (lo+1) λi v hi=>by
     have:=h (i+1) v (by simpa using hi)
     obtain⟨t,e⟩:=this;refine⟨t,?_⟩;rw[e];congr 1
     push_cast
     lia
    have e:((λ(i:Nat)=>V.int (lo+i)) ∘ Nat.succ)=λ(i:Nat)=>V.int (lo+1+i):=by
     funext i
     simp only[Function.comp];congr 1
     push_cast
     lia
    rw[e];exact f
 unfold qHL;rw[<- d];refine b n acc a lo λi v hi=>?_;obtain⟨t,e⟩:=h i v hi;exact⟨t,by rw[e,Int.mul_one]⟩
theorem qS6 (lo hi:Int):(qHL lo hi).length=(hi-lo).toNat:=by unfold qHL;simp
theorem qdQ {lo hi:Int} :R0 lo hi 1=((hi-lo).toNat:Nat):=by rw[rangeSize_one];split<;>lia
theorem qMD {R:List Value->Shared->Prop} {r:Addr} {a b:Int} {t u v:Tok} {n:Nat} (hh:A.handled=none)(hr:IsRange s.heap r a b 1 t u v)(g:A79 a b 1=true)
  (hn:R0 a b 1=n) (j:n<=2^24)
  (h:∀(h':Heap) (tk:Nat) (acc:Array Value),(∀b o,s.heap.get? b=some o->h'.get? b=some o)->ItemsOf (λi v=>∃t,v=.int (a+i*1) t) acc n->R acc.toList {s with heap:=h',toks:=tk}):
  wpAny (model prog w) A (collect (.ref r)) R E s:=by
 unfold collect;refine B75 (wpAny_runValue (B91 entry_proto_collect' ?_));rw[F8 PySem.F.plain_proto_collect _];show wpAny _ A.in1 (newList [] >>= λl=>again (.builtin "list.__iadd__" ⟨[l,.ref r],[]⟩)) _ _ s;refine B75 (B86 ?_);refine B76 ⟨C00 A27 _,B91 entry_list_iadd' ?_⟩;rw[F8 A27 _];have m:(s.heap.push {cls:=.type "list",data:=.seq ([]:List Value).toArray}).get? s.heap.objs.size=some {cls:=.type "list",data:=.seq #[]}:=A9 _ rfl;show wpAny _ A.in1 (Builtin.List.listExtendWith (.ref s.heap.objs.size) (.ref r) (.ref s.heap.objs.size)) _ _ _;have p:=wpAny_extend_range (prog:=prog) (w:=w) (A:=A) (s:={s with heap:=s.heap.push {cls:=.type "list",data:=.seq ([]:List Value).toArray}})
  (R:=fun (q:Result) (s':Shared)=>∃ (h':Heap) (tk:Nat) (acc':Array Value) (c':Nat),q=.ok (.ret (.ref s.heap.objs.size))/\s'={ s with heap:=h',toks:=tk }/\
   (∀b o,s.heap.get? b=some o->h'.get? b=some o)/\h'.get? s.heap.objs.size=some {cls:=.type "list",dict:=none,data:=.seq acc' c',slots:=#[]}/\ItemsOf (λi v=>∃t,v=.int (a+i*1) t) acc' n)
  hh (A3 _ hr) g hn j s.heap.objs.size (.ref s.heap.objs.size) 0 m
  (λh' tk acc' c' k d c=>⟨h',tk,acc',c',rfl,rfl,λb o e=>k b o (C4 (B1 e)) (A3 _ e),d,c⟩)
 refine B90 p (λz s' x=>?_) λe s' x=>?_
 ·cases z with
  |done f=>
   obtain⟨h',tk,acc',c',e,rfl,k,d,c⟩:=x;cases e;show wpAny _ A (load s.heap.objs.size >>= _) _ _ _;refine B75 (wpAny_load d ?_);exact B76 (h h' tk acc' k c)
  |again c₁=>
   refine⟨x.1,C10 x.2 λq s₂ y=>?_⟩;obtain⟨h',tk,acc',c',rfl,rfl,k,d,c⟩:=y;show wpAny _ A (load s.heap.objs.size >>= _) _ _ _;refine B75 (wpAny_load d ?_);exact B76 (h h' tk acc' k c)
 ·obtain⟨_,_,_,_,e',_⟩:=x;cases e'
theorem qOF {Q:Aa1} {r:Addr} {a b:Int} {t u v:Tok} {n:Nat} (z:A.handled=none)(x:IsRange s.heap r a b 1 t u v)(d:A79 a b 1=true)
  (y:R0 a b 1=n) (k:n<=2^24)
  (h:∀(h':Heap) (tk:Nat) (acc:Array Value),(∀b o,s.heap.get? b=some o->h'.get? b=some o)->ItemsOf (λi v=>∃t,v=.int (a+i*1) t) acc n->Q (.ref h'.objs.size) {s with heap:=h'.push {cls:=.type "tuple",data:=.seq acc},toks:=tk}):
  wpAny (model prog w) A (call (.type "tuple") [.ref r]) Q E s:=by
 have j:C16 (model prog w) A.in1 (.call (.builtin "tuple.__new__") ⟨[.type "tuple",.ref r],[]⟩) (wants (λc g=>g.TypeIs c "tuple"/\Q c g) E) s:=by
  refine C64 ?_;show wpAny _ A.in1.in1 (do checkBuiltinCall "tuple.__new__" ⟨[.type "tuple",.ref r],[]⟩;again (.builtin "tuple.__new__" ⟨[.type "tuple",.ref r],[]⟩)) _ _ s
  refine B75 (C26 (F.newCall_tuple_1 _) (B76 ⟨C00 B05 _,B91 F.entry_tuple_new ?_⟩));rw[F8 B05 _];have q:=sub_tuple_self;have l:=init_tuple_lookup;have a0:=madeHere_tuple;have m:s.TypeIs (.ref r) "range":=⟨_,x,rfl⟩
  wp_walk using C14 m,qMD (prog:=prog) (w:=w) (A:=A.in1.in1) z x d y k
  intro h' tk acc hk f;show wpAny _ _ (O7 acc.toList.toArray >>= λv=>ret v) _ _ _;unfold O7;refine B75 (B86 ?_ (by show acc.toList.toArray.size<=B77;simp only[Array.toArray_toList];rw[f.1,B88];lia))
  refine B76 ?_;have e:acc.toList.toArray=acc:=by simp
  rw[e];exact⟨⟨_,A9 _ rfl,rfl⟩,h h' tk acc hk f⟩
 refine callType_codes (Q₁:=λc g=>g.TypeIs c "tuple"/\Q c g) A73 (F.typeCall_tuple_1 _) F.entry_object_init j λc g p=>?_;exact⟨p.1,A63 c _,object_init_meets A73.init.lookup A73.made (by decide) prog w A.in1 _ g ⟨p.1,rfl,p.2⟩⟩
theorem qKB (y:X.calm=true):qCF X (.type "tuple") (λxs H Q=>∃p lo hi,xs=[.ref p]/\H p=some (.rng lo hi)/\-1000000<=lo/\lo<=1000000/\-1000000<=hi/\hi<=1000000/\∀l,H l=none->Q (.ref l) (Ag H l (.tup (qHL lo hi)))):=by
 intro m s σ H xs us Q I r h;obtain⟨p,lo,hi,rfl,k,l1,l2,l3,l4,q⟩:=h;obtain⟨u,rfl,x⟩:=qDQ r;cases x;obtain⟨t,u,v,e⟩:=(show∃t u v,s.heap.get? p=some {cls:=.type "range",data:=.fields #[.int lo t,.int hi u,.int 1 v]} from I.hok p _ k);refine qOF (n:=(hi-lo).toNat) (I.ok.hd y) (show IsRange s.heap p lo hi 1 t u v from e) (small_one (by lia) (by lia) (by lia) (by lia)) qdQ (by lia) λd f a hk c=>?_
 obtain⟨z,j⟩:=c;have g:Inv X m σ H {s with heap:=d,toks:=f}:=I.kept hk;refine⟨.ref d.objs.size,_,g.laid (t':=f) (λb o e=>A3 _ e) (A6 _) (show ObjOk X.prog X.w _ _ _ (.tup (qHL lo hi)) from⟨?_,a.toList,qX6 rfl (by simpa using z) λi v hi=>j i v (by rw[<- F1];exact hi),?_⟩),rfl,q _ (g.hok.fresh (A6 _))⟩
 ·rw[qS6,B88]
  lia
 ·have:=IsTup.new d a;simpa using this
theorem qS5:∀(bs:List Bool),((E6 bs.length).all λi=>(bs[i]?).getD true)=bs.all id:=by
 intro bs;rw[O1,K0,K0]
 constructor
 ·intro h b d;obtain⟨i,c,e⟩:=Y7.mp d;have:=h i (D6.mpr c);rw[A4 c,e] at this;exact this
 ·intro h i c;have a:=D6.mp c;rw[A4 a];exact h _ (T4 a)
theorem qFM (o:X.calm=true):qCF X (.builtin "all") (λxs H Q=>∃(p:Addr) (bs:List Bool),xs=[.ref p]/\SqL X.K H p (bs.map V.bl)/\Q (.bl (bs.all id)) H):=by
 intro Ab s σ H xs us Q I r h;obtain⟨p,bs,rfl,y,q⟩:=h;obtain⟨u,rfl,t⟩:=qDQ r;cases t;obtain⟨c,l,n,hz⟩:=I.list y;have j:=n.isList;have f:p<s.heap.objs.size:=by obtain⟨_,e,_⟩:=j;exact B1 e
 have a:=l.length;rw[A0] at a;refine call_all_walk (C01 j ?_);refine⟨s.heap.objs.size,[s.heap.objs.size,p],[s.heap.objs.size],c.toArray.size,_,_,λi=>(bs[i]?).getD true,rfl,A58 (A:=X.A.in1) (I.ok.hd o) _ p (C4 f) c.toArray,
  ⟨⟨_,A9 _ rfl,rfl,rfl⟩,j.push _⟩,λi v s' Q' E' z g=>?_,λh' tk w=>?_⟩
 ·have d:c[i]?=some v:=by simpa using z
  have k:i<bs.length:=by rw[a];exact(A5.mp d).1
  obtain⟨u,m,ru⟩:=l.get (i:=i) (x:=.bl bs[i]) (by rw[B6,A4 k];rfl)
  rw[d] at m;cases m;cases ru;dsimp only at g;rw[A4 k,Z5] at g;exact B92 g
 ·have e:((E6 c.toArray.size).all λi=>(bs[i]?).getD true)=bs.all id:=by
   rw[B8,<- a];exact qS5 bs
  refine⟨.bl (bs.all id),H,I.kept λb x e=>w b x (λhm=>by rw[A7.mp hm] at e;exact Q9 _ (B1 e)) (A3 _ e),?_,q⟩
  rw[e]
  rfl
theorem qAX:qCF X (.builtin "isinstance") (λxs H Q=>∃x T t b,xs=[x,.ty T]/\TyOf X.K H x t/\R4 X.K t (.type T)=some b/\Q (.bl b) H):=by
 intro g s σ H xs i Q I r h;obtain⟨x,T,t,b,rfl,c,e,q⟩:=h;obtain⟨u,v,rfl,a,d⟩:=qK2 r;cases d;exact qV3 I a c e λf=>⟨.bl b,H,I.tok _,rfl,q⟩
theorem qNB (g:X.A.units<cLine):OpR X (B95 .Eq) (λx y H Q=>∃p l xs,x=.ref p/\y=.ref l/\SqL X.K H p xs/\SqL X.K H l []/\Q (.bl xs.isEmpty) H):=by
 intro w s σ H x y v u Q I o m h;obtain⟨p,l,xs,rfl,rfl,n,k,q⟩:=h;cases o;cases m;obtain⟨i,c,d,z1⟩:=I.list n;obtain⟨b,t,f,z⟩:=I.list k;cases t;cases xs with
 |nil=>
  cases c;exact SeqAt.eq_listAt (e:=λ_=>true) d.isList f.isList rfl g (λj h _=>absurd h (by simp)) ⟨.bl true,H,I,rfl,q⟩
 |cons a r=>
  cases c;exact SeqAt.eq_list_lengthsAt d.isList f.isList (by simp) g ⟨.bl false,H,I,rfl,q⟩
end
def Ite (K:Ab1)(l:Addr):It:=
 ⟨λi H=>∃xs x,SqL K H l xs/\xs[i]?=some x,λi H v H'=>∃T x,H T=none/\v=.ref T/\H'=Ag H T (.tup [.int (i:Int),x])/\∀xs,SqL K H l xs->xs[i]?=some x,λi H=>∃xs,SqL K H l xs/\xs.length<=i⟩
section
variable{X:Cx}
theorem Inv.turnedL {Ab:List (Addr×Obj)} {σ:St} {H:Hp} {h':Heap} {t':Nat} {ch:List Addr} (I:Inv X Ab σ H s)(k:∀b o,b∉ch->s.heap.get? b=some o->h'.get? b=some o)(d:∀b∈ch,FpOk X Ab H b):Inv X Ab σ H {s with heap:=h',toks:=t'}:=by
 have f:∀b u,H b=some u->b∉ch:=λb u e z=>by rw[(d b z).1] at e;cases e
 refine I.step (g':=s.gens) (d':=s.drawn) (ch:=ch) (λb g=>⟨(d b g).2.2.2.1,(d b g).2.1,(d b g).2.2.2.2.1,(d b g).2.2.2.2.2⟩) (λb o _ _ a e _=>k b o a e) (λb o _ _ a e _=>⟨o.slots,k b o a e⟩) (λ_ _ _ _ n=>n)
  (λb o a e=>⟨o,k b o a e⟩) (λ_ _ e=>e) (λ_ _ _ e=>e) (λ_ _ e=>e) (λm l=>?_) (λb u e=>?_) I.bare
 ·obtain⟨o,j,h,i,r⟩:=l;exact⟨o,j,h,k _ o (λz=>(d _ z).2.1 rfl) i,r⟩
 ·refine(I.hok b u e).stay (λc v a q=>k c v ?_ q) (λ_ q=>q) λ_ _ q=>q;rcases a with z|z
  ·rw[z];exact f b u e
  ·exact f c _ z
theorem qMR {K:Ab1} {r:List Expr} {k:Nat} {pos:Pos} (l c e:Addr)(m:e≠c):Turn P w K (.Tuple r k pos) (Ite K l) [e,c] e (λi h=>(∃old,IsEnum h e c i old)/\h.IsListIter c l i) where
 mem:=by simp
 obj:=λi h f b g=>by
  obtain⟨⟨old,d⟩,o,a,_,h4⟩:=f;have e':b=e\/b=c:=by simpa using g
  rcases e' with rfl|rfl
  ·exact⟨_,d,λv z=>by
    have z':A26 _=A14 v:=z;cases z'⟩
  ·exact⟨o,a,λv z=>by rw[h4] at z;cases z⟩
 keep:=λi h h' f kk=>by
  obtain⟨⟨old,d⟩,a⟩:=f;exact⟨⟨old,kk e (by simp) _ d⟩,a.at λo q=>kk c (by simp) o q⟩
 item:=by
  intro X hP hw hK hc i Ab s σ H E I t f hg;subst hP hw hK;obtain⟨xs,x,y,hx⟩:=hg;obtain⟨a7,rv,p,hz⟩:=I.list y;obtain⟨u,hu,ru⟩:=rv.get hx;obtain⟨⟨old,d⟩,a⟩:=f;refine wpAny_pyNext_enum_item d a p.isList (x:=u) (by simpa using hu) m λh' a1 a2 a3 a4 a5=>?_
  refine ⟨_,rfl,wpAny_letOwnedTupleGo_enum a1 fun a b1 b2=>?_⟩;have n:e<s.heap.objs.size:=B1 d;have I1:Inv X Ab σ H { s with heap:=a,toks:=s.toks+1 }:=I.turnedL (ch:=[e,c]) (fun b o g q=>by
   have j:b≠e:=λz=>g (by simp[z])
   have a0:b≠c:=λz=>g (by simp[z])
   exact(b2.2 b j).trans (a5 b o j a0 q)) t
  have hT:H s.heap.objs.size=none:=I.hok.fresh (A6 _);have fT:=I.fpOk (H':=H) (b:=s.heap.objs.size) (A6 _) hT;have gT:a.get? s.heap.objs.size=some {cls:=.type "tuple",data:=.seq #[.int i s.toks,u]}:=(b2.2 _ (R1 n)).trans a3;refine⟨.ref s.heap.objs.size,Ag H s.heap.objs.size (.tup [.int (i:Int),x]),I1.track hT I.sz fT.2.1 fT.2.2.2.2.1 fT.2.2.2.2.2 ⟨by simp only[D3,O2];rw[B88];decide,[.int (i:Int) s.toks,u],.cons ⟨_,rfl⟩ (.cons ru .nil),⟨_,gT,rfl,_,rfl⟩⟩,rfl,
   ⟨_,x,hT,rfl,rfl,λys hy=>by rw[I.list_inj hy y];exact hx⟩,⟨⟨_,b1⟩,a2.at λo q=>(b2.2 c (F5 m)).trans q⟩,λb g=>?_⟩
  have a6:b<s.heap.objs.size:=by
   have e':b=e\/b=c:=by simpa using g
   rcases e' with rfl|rfl
   ·exact n
   ·obtain⟨o,q,_⟩:=a;exact B1 (by assumption)
  rw[qA8 (C4 a6)];exact(t b g).1
 done:=by
  intro X hP hw hK hc i Ab s σ H E I t f hg;subst hP hw hK;obtain⟨xs,y,hx⟩:=hg;obtain⟨a7,rv,p,hz⟩:=I.list y;have hl:=rv.length;obtain⟨⟨old,d⟩,a⟩:=f;exact wpAny_pyNext_enum_end (I.ok.hd hc) d a p.isList (by simp;lia) λh' eb=>⟨rfl,I.turnedL (t':=s.toks) (ch:=[e,c]) (λb o g q=>eb b o (λz=>g (by simp[z])) q) t⟩
 self:=λ_ _ _ _ _ f h=>by
  obtain⟨⟨old,d⟩,a⟩:=f;exact C20 d h
def qeG (K:Ab1)(ta:TA):TI:=λσ H R=>ta σ H λvs H1=>∃l,vs=[.ref l]/\(∃xs,SqL K H1 l xs)/\R (Ite K l) H1
theorem qU1 {d:List Expr} {k:Nat} {c:Pos} {a:Expr} {f:TA} {p pos:Pos} (z:Gl X "enumerate") (hm:X.mg "enumerate" = none) (hv:B82 "enumerate" = some (.type "enumerate")) (ha:PA X [a] f) (hs:B84 [a] X.env=[(false,eval a X.env)]:=by rfl):
  PI X (.Tuple d k c) (.Call (.Name "enumerate" p) [a] [] pos) (qeG X.K f):=by
 intro i s σ H R I h;refine Call_ (qFR I z hm hv (J3 (thn (ha pos i s σ H _ I h) λus s1 ⟨vs,H1,I1,r1,q1⟩=>?_) hs rfl));obtain⟨l,e,⟨xs,y⟩,q⟩:=q1;subst e;obtain⟨u,rfl,r⟩:=qDQ r1;cases r;obtain⟨w,rv,m,hz⟩:=I1.list y;refine call_enumerate_list m.isList λt g n o v=>?_;refine C20 g ?_;have x:Inv X i σ H1 {s1 with heap:=t}:=I1.kept (t':=s1.toks) v;refine⟨s1.heap.objs.size+1,[s1.heap.objs.size+1,s1.heap.objs.size],_,_,H1,rfl,x,qMR l s1.heap.objs.size (s1.heap.objs.size+1) (Z6 _),⟨⟨_,g⟩,n⟩,λb j=>?_,q⟩;have e':b=s1.heap.objs.size+1\/b=s1.heap.objs.size:=by simpa using j
 rcases e' with rfl|rfl
 ·exact I1.fpOk (S0 _) (I1.hok.fresh (S0 _))
 ·exact I1.fpOk (A6 _) (I1.hok.fresh (A6 _))
end
theorem qPB {K:Ab1} {a:Addr} {xs:List V} {g:TG} {h:TT} {f:TE} {Kf:Hp->Prop} {σ0:St} {H0:Hp} {p:Addr} (Pv:Nat->St->Hp->Prop)(j:Pv 0 σ0 H0)(k:∀i σ H,i<=xs.length->Pv i σ H->SqL K H a xs)
  (u:∀i x σ H T,xs[i]?=some x->Pv i σ H->H T=none->g (.ref T) σ (Ag H T (.tup [.int (i:Int),x])) λσ2 H2=>h σ2 H2 λb H3=>if b=true then f σ2 H3 λy H4=>∃ys,H4 p=some (.lst ys)/\ys.length<B77/\Pv (i+1) σ2 (Ag H4 p (.lst (ys++[y]))) else Pv (i+1) σ2 H3)
  (s:∀σ H,Pv xs.length σ H->Kf H):
  LcG (Ite K a) g h f Kf σ0 H0 p:=by
 refine⟨λi m σ H=>m=xs.length-i/\i<=xs.length/\Pv i σ H,⟨xs.length,by simp,E7 _,j⟩,?_⟩
 rintro i m σ H ⟨rfl,hi,q⟩;have d:=k i σ H hi q;by_cases c:i<xs.length
 ·refine .inr ⟨⟨xs,xs[i],d,by simp[c]⟩,Pv (i+1),λσ' n o=>⟨xs.length-(i+1),by lia,rfl,c,o⟩,λv n y=>?_⟩
  obtain⟨T,x,t,r,l,y⟩:=y;subst r l;exact u i x σ H T (y xs d) q t
 ·have e:i=xs.length:=by lia
  subst e;exact .inl ⟨⟨xs,d,A6 _⟩,s σ H q⟩
theorem qDY {c t:Addr} {i:Nat} {a:Array Value} {x:Value} {Q:Aa1} (b:s.heap.IsTupleIter c t i)(j:s.heap.IsTuple t a)(h:a[i]?=some x)
  (k:∀h':Heap,h'.IsTupleIter c t (i+1)->Heap.SameBut c s.heap h'->Q x {s with heap:=h'}):wpAny (model prog w) A (U3 (.ref c)) Q E s:=by
 obtain⟨o,e,l,d⟩:=id b;obtain⟨n,g,_,m,f⟩:=j;refine B75 (wpAny_callSpecial?_slot b.typeIs T3 (B87 T3 b.typeIs t0 ?_ (o5 _)));show wpAny _ _ (field (.ref c) 0 >>= _) _ _ _;refine B75 (B94 e d rfl ?_);refine C17 rfl ?_;show wpAny _ _ (field (.ref c) 1 >>= _) _ _ _;refine B75 (B94 e d rfl ?_);show wpAny _ _ (seqItems? (.ref t) >>= _) _ _ _;refine B75 (B96 g f ?_);show wpAny _ _ (match a[i]? with|some x=>_|none=>_) _ _ _
 rw[h];refine B75 (C22 e d (by simp) ?_)
 refine B76 ⟨x,rfl,B76 (k _ ⟨_,L5 _ e (l6 (T8 d _)),(A17 o _).trans l,?_⟩ (P9 _ _ _))⟩;rw[T8 d];simp
 rfl
theorem qEI {d t:Addr} {i:Nat} {b:Array Value} {Q:Aa1} (l:A.handled=none)(c:s.heap.IsTupleIter d t i)(n:s.heap.IsTuple t b)(k:b[i]?=none)
  (p:∀(h':Heap) (e:Addr),Heap.ExtBut d s.heap h'->(∃o,h'.get? e=some o/\o.cls=.type "StopIteration")->E (.ref e) {s with heap:=h'}):wpAny (model prog w) A (U3 (.ref d)) Q E s:=by
 obtain⟨o,f,r,h⟩:=id c;obtain⟨u,j,_,q,g⟩:=n;refine B75 (wpAny_callSpecial?_slot c.typeIs T3 (B87 T3 c.typeIs t0 ?_ (o5 _)));show wpAny _ _ (field (.ref d) 0 >>= _) _ _ _;refine B75 (B94 f h rfl ?_);refine C17 rfl ?_;show wpAny _ _ (field (.ref d) 1 >>= _) _ _ _;refine B75 (B94 f h rfl ?_);show wpAny _ _ (seqItems? (.ref t) >>= _) _ _ _;refine B75 (B96 j g ?_);show wpAny _ _ (match b[i]? with|some x=>_|none=>_) _ _ _
 rw[k];refine B75 (C03 ?_);refine B75 (C22 f h (by simp) ?_)
 show wpAny _ _ (newExc (.type "StopIteration") [] >>= _) _ _ _;refine B75 ?_;simp only[newExc,newTuple];refine B75 (B86 ?_ (by size_fits))
 refine B75 (m:=C28 _ _) (C26 (a:=M6) (by first|rfl|(simp only[C28];rfl)) ?_)
 refine B86 ?_ (by size_fits)
 simp only[raiseNew];refine B75 (wpAny_handled ?_);rw[show A.in1.handled=none from l];refine B75 (B76 (wpAny_throw ?_));exact p _ _ (((P9 ..).extBut.push _).push _) ⟨_,A9 _ rfl,rfl⟩
def SIt (b:Bool)(h:Heap)(it l:Addr)(i:Nat):Prop:=match b with|true=>h.IsTupleIter it l i|false=>h.IsListIter it l i
def SSq (b:Bool)(h:Heap)(l:Addr)(xs:Array Value):Prop:=match b with|true=>h.IsTuple l xs|false=>h.IsList l xs
theorem SIt.at {b:Bool} {h h':Heap} {a l:Addr} {i:Nat} (q:SIt b h a l i)(k:∀o,h.get? a=some o->h'.get? a=some o):SIt b h' a l i:=by
 cases b
 ·exact Heap.IsListIter.at q k
 ·exact Heap.IsTupleIter.at q k
theorem SSq.at {b:Bool} {h h':Heap} {l:Addr} {xs:Array Value} (q:SSq b h l xs)(k:∀o,h.get? l=some o->h'.get? l=some o):SSq b h' l xs:=by
 cases b
 ·obtain⟨o,e,r⟩:=q;exact⟨o,k o e,r⟩
 ·obtain⟨o,e,r⟩:=q;exact⟨o,k o e,r⟩
theorem qFX {b:Bool} {d t:Addr} {i:Nat} {a:Array Value} {x:Value} {Q:Aa1} (c:SIt b s.heap d t i)(g:SSq b s.heap t a)(f:a[i]?=some x)
  (e:∀h':Heap,SIt b h' d t (i+1)->Heap.SameBut d s.heap h'->Q x {s with heap:=h'}):wpAny (model prog w) A (U3 (.ref d)) Q E s:=by
 cases b
 ·exact wpAny_nextOf_list_item c g f e
 ·exact qDY c g f e
theorem qKN {b:Bool} {d t:Addr} {i:Nat} {a:Array Value} {Q:Aa1} (g:A.handled=none)(c:SIt b s.heap d t i)(h:SSq b s.heap t a)(f:a[i]?=none)
  (j:∀(h':Heap) (e:Addr),Heap.ExtBut d s.heap h'->(∃o,h'.get? e=some o/\o.cls=.type "StopIteration")->E (.ref e) {s with heap:=h'}):wpAny (model prog w) A (U3 (.ref d)) Q E s:=by
 cases b
 ·exact wpAny_nextOf_list_end g c h f j
 ·exact qEI g c h f j
theorem qT6 {b:Bool} {z TI TO g f k l:Addr} {k1 k2:Nat} {xs ys:Array Value} {x y a c:Value} {Q:Aa1} (D:C55 z TI TO g f k l)(u:IsZip s.heap z TI TO .none)(a5:IsPair s.heap TI (.ref g) (.ref f))(a6:IsPair s.heap TO a c)
  (h1:SIt b s.heap g k k1) (h2:SIt b s.heap f l k2) (a8:SSq b s.heap k xs) (ac:SSq b s.heap l ys) (hx:xs[k1]?=some x) (hy:ys[k2]?=some y)
  (hQ:∀ h':Heap,IsZip h' z TI TO (rawInt (s.heap.objs.size:Int))->IsPair h' TO x y->SIt b h' g k (k1+1)->SIt b h' f l (k2+1)->IsPair h' s.heap.objs.size x y->h'.objs.size=s.heap.objs.size+1->
   (∀(c:Addr) (o:Obj),c≠z->c≠TO->c≠g->c≠f->s.heap.get? c=some o->h'.get? c=some o)->Q (.ref s.heap.objs.size) {s with heap:=h'}):
  wpAny (model prog w) A (Builtin.«zip.__next__» {pos:=[.ref z]}) (λfin s'=>∃v,fin=.done (.ret v)/\Q v s') E s:=by
 show wpAny _ _ (field (.ref z) 2 >>= _) _ _ _;refine B75 (B94 u rfl rfl ?_);show wpAny _ _ (field (.ref z) 3 >>= _) _ _ _;refine B75 (B94 u rfl rfl ?_);refine B75 (B96 a5 rfl ?_);show wpAny _ _ (T0 (.ref z) >>= _) _ _ _;refine B75 ?_;show wpAny _ _ (field (.ref z) 0 >>= _) _ _ _;refine B75 (B94 u rfl rfl (B76 ?_));refine wpAny_ite_true rfl ?_;refine B75 (C03 ?_);refine B75 (B94 u rfl rfl ?_);refine B75 (C08 u (by simp) λhA gz h=>?_)
 refine B75 ?_;show wpAny _ _ (forIn [(C8 g,0),(C8 f,1)] _ _) _ _ _;rw[Q3];refine B75 ?_;dsimp only;refine B75 (C52 ?_);have e:((#[M6,R6 false,R6 false,C8 TI,C8 TO][2]==R6 true)=false):=rfl;rw[e];have a4:SIt b hA g k k1:=h1.at λo q=>(h.2 _ D.i1z).trans q;have ab:SSq b hA k xs:=a8.at λo q=>(h.2 _ D.l1z).trans q;refine B75 (qFX (s:={s with heap:=hA}) a4 ab hx λhB nB i=>?_);refine B76 ?_;have tB:IsPair hB TO a c:=(i.2 _ D.TOi1).trans ((h.2 _ D.TOz).trans a6);refine B75 (B96 tB rfl ?_);refine B75 (C65 tB λhC tC j=>?_);refine B75 (C35 (B76 ?_));dsimp only;rw[Q3];refine B75 ?_;refine B75 (C52 ?_);have aa:SIt b hC f l k2:=h2.at λo q=>(j.2 _ (F5 D.TOi2)).trans ((i.2 _ (F5 D.i12)).trans ((h.2 _ D.i2z).trans q));have a3:SSq b hC l ys:=ac.at λo q=>(j.2 _ D.l2TO).trans ((i.2 _ D.l2i1).trans ((h.2 _ D.l2z).trans q));refine B75 (qFX (s:={s with heap:=hC}) aa a3 hy λhD nD m=>?_);refine B76 ?_;have tD:IsPair hD TO x c:=(m.2 _ D.TOi2).trans tC;refine B75 (B96 tD rfl ?_);refine B75 (C65 tD λd tF t=>?_);refine B75 (C35 (B76 ?_));dsimp only;rw[A74];refine B76 ?_;dsimp only;have a0:IsPair d TO x y:=tF;refine B75 (B96 a0 rfl ?_);refine B75 (C45 ?_ (by show 2<=B77;decide))
 have r:d.get? z=some {cls:=.type "zip",data:=.fields #[.ellipsis,.bool false,.bool false,.ref TI,.ref TO]}:=(t.2 _ (F5 D.TOz)).trans ((m.2 _ (F5 D.i2z)).trans ((j.2 _ (F5 D.TOz)).trans ((i.2 _ (F5 D.i1z)).trans gz)));have a7:d.objs.size=s.heap.objs.size:=t.1.trans (m.1.trans (j.1.trans (i.1.trans h.1)));have a2:z<d.objs.size:=B1 r;have a1:(d.push {cls:=.type "tuple",data:=.seq #[x,y]}).get? z=some {cls:=.type "zip",data:=.fields #[.ellipsis,.bool false,.bool false,.ref TI,.ref TO]}:=A3 _ r;refine B75 ?_;show wpAny _ _ (setField (.ref z) 0 (rawInt _) >>= _) _ _ _;refine B75 (C08 a1 (by simp) λhG gG sG=>?_)
 refine C08 gG (by simp) λp gI sI=>?_
 refine B76 ⟨_,rfl,?_⟩;have o4:∀(c:Addr) (o:Obj),c≠z->c≠TO->c≠g->c≠f->s.heap.get? c=some o->p.get? c=some o:=λc o n1 n2 n3 n4 e=>
  (sI.2 _ n1).trans ((sG.2 _ n1).trans (A3 _ ((t.2 _ n2).trans ((m.2 _ n4).trans ((j.2 _ n2).trans ((i.2 _ n3).trans ((h.2 _ n1).trans e)))))))
 have nz:d.objs.size≠z:=R1 a2;have gT:p.get? d.objs.size=some {cls:=.type "tuple",data:=.seq #[x,y]}:=(sI.2 _ nz).trans ((sG.2 _ nz).trans (A9 _ rfl));have a9:p.objs.size=d.objs.size+1:=sI.1.trans (sG.1.trans (J6 ..));have pz:∀{c:Addr} {o:Obj},c≠z->d.get? c=some o->p.get? c=some o:=λn e=>(sI.2 _ n).trans ((sG.2 _ n).trans (A3 _ e));have q:=hQ p;rw[<- a7] at q;refine q gI (pz D.TOz a0) (nB.at λo e=>pz D.i1z ((t.2 _ (F5 D.TOi1)).trans ((m.2 _ D.i12).trans ((j.2 _ (F5 D.TOi1)).trans e)))) (nD.at λo e=>pz D.i2z ((t.2 _ (F5 D.TOi2)).trans e)) gT a9 o4
theorem qWU {b:Bool} {z TI TO a j g l2:Addr} {r:Nat} {xs:Array Value} {Q:PySem.Fin->Shared->Prop} (y:A.handled=none)(D:C55 z TI TO a j g l2)(f:IsZip s.heap z TI TO .none)(k:IsPair s.heap TI (.ref a) (.ref j))
  (x:SIt b s.heap a g r) (l:SSq b s.heap g xs) (hx:xs[r]?=none)
  (hE:∀(h':Heap) (e:Addr),(∀(c:Addr) (o:Obj),c≠z->c≠a->s.heap.get? c=some o->h'.get? c=some o)->(∃o,h'.get? e=some o/\o.cls=.type "StopIteration")->E (.ref e) {s with heap:=h'}):
  wpAny (model prog w) A (Builtin.«zip.__next__» {pos:=[.ref z]}) Q E s:=by
 show wpAny _ _ (field (.ref z) 2 >>= _) _ _ _;refine B75 (B94 f rfl rfl ?_);show wpAny _ _ (field (.ref z) 3 >>= _) _ _ _;refine B75 (B94 f rfl rfl ?_);refine B75 (B96 k rfl ?_);show wpAny _ _ (T0 (.ref z) >>= _) _ _ _;refine B75 ?_;show wpAny _ _ (field (.ref z) 0 >>= _) _ _ _;refine B75 (B94 f rfl rfl (B76 ?_));refine wpAny_ite_true rfl ?_;refine B75 (C03 ?_);refine B75 (B94 f rfl rfl ?_);refine B75 (C08 f (by simp) λm v n=>?_)
 refine B75 ?_;show wpAny _ _ (forIn [(C8 a,0),(C8 j,1)] _ _) _ _ _;rw[Q3];refine B75 ?_;dsimp only;refine B75 (C52 ?_);have e:((#[M6,R6 false,R6 false,C8 TI,C8 TO][2]==R6 true)=false):=rfl;rw[e];have h:SIt b m a g r:=x.at λo q=>(n.2 _ D.i1z).trans q;have p:SSq b m g xs:=l.at λo q=>(n.2 _ D.l1z).trans q;refine B75 (qKN (s:={s with heap:=m}) y h p hx λhB ea xB ⟨ob,gb,cb⟩=>?_);have d:=xB z _ (F5 D.i1z) v;refine C08 d (by simp) λhC gC t=>?_
 have i:ea≠z:=λq=>by
  rw[q,d] at gb;cases gb;exact absurd (show R7 "zip" = R7 "StopIteration" from cb) (by decide)
 exact hE hC ea (λc o u n2 q=>(t.2 _ u).trans (xB c o n2 ((n.2 _ u).trans q))) ⟨ob,(t.2 _ i).trans gb,cb⟩
theorem qT7 {b:Bool} {z TI TO g d k l:Addr} {k1 p:Nat} {xs ys:Array Value} {x a c:Value} {Q:PySem.Fin->Shared->Prop} (hh:A.handled=none)(D:C55 z TI TO g d k l)(j:IsZip s.heap z TI TO .none)(y:IsPair s.heap TI (.ref g) (.ref d))(a0:IsPair s.heap TO a c)
  (h1:SIt b s.heap g k k1) (h2:SIt b s.heap d l p) (a1:SSq b s.heap k xs) (a4:SSq b s.heap l ys) (hx:xs[k1]?=some x) (hy:ys[p]?=none)
  (hE:∀(h':Heap) (e:Addr),(∀(c:Addr) (o:Obj),c≠z->c≠TO->c≠g->c≠d->s.heap.get? c=some o->h'.get? c=some o)->(∃o,h'.get? e=some o/\o.cls=.type "StopIteration")->E (.ref e) {s with heap:=h'}):
  wpAny (model prog w) A (Builtin.«zip.__next__» {pos:=[.ref z]}) Q E s:=by
 show wpAny _ _ (field (.ref z) 2 >>= _) _ _ _;refine B75 (B94 j rfl rfl ?_);show wpAny _ _ (field (.ref z) 3 >>= _) _ _ _;refine B75 (B94 j rfl rfl ?_);refine B75 (B96 y rfl ?_);show wpAny _ _ (T0 (.ref z) >>= _) _ _ _;refine B75 ?_;show wpAny _ _ (field (.ref z) 0 >>= _) _ _ _;refine B75 (B94 j rfl rfl (B76 ?_));refine wpAny_ite_true rfl ?_;refine B75 (C03 ?_);refine B75 (B94 j rfl rfl ?_);refine B75 (C08 j (by simp) λhA gz f=>?_)
 refine B75 ?_;show wpAny _ _ (forIn [(C8 g,0),(C8 d,1)] _ _) _ _ _;rw[Q3];refine B75 ?_;dsimp only;refine B75 (C52 ?_);have e:((#[M6,R6 false,R6 false,C8 TI,C8 TO][2]==R6 true)=false):=rfl;rw[e];have u:SIt b hA g k k1:=h1.at λo q=>(f.2 _ D.i1z).trans q;have a3:SSq b hA k xs:=a1.at λo q=>(f.2 _ D.l1z).trans q;refine B75 (qFX (s:={s with heap:=hA}) u a3 hx λhB nB i=>?_);refine B76 ?_;have tB:IsPair hB TO a c:=(i.2 _ D.TOi1).trans ((f.2 _ D.TOz).trans a0);refine B75 (B96 tB rfl ?_);refine B75 (C65 tB λn tC m=>?_);refine B75 (C35 (B76 ?_));dsimp only;rw[Q3];refine B75 ?_;refine B75 (C52 ?_);have a2:SIt b n d l p:=h2.at λo q=>(m.2 _ (F5 D.TOi2)).trans ((i.2 _ (F5 D.i12)).trans ((f.2 _ D.i2z).trans q));have t:SSq b n l ys:=a4.at λo q=>(m.2 _ D.l2TO).trans ((i.2 _ D.l2i1).trans ((f.2 _ D.l2z).trans q));refine B75 (qKN (s:={s with heap:=n}) hh a2 t hy λhD ea xD ⟨ob,gb,cb⟩=>?_);have r:n.get? z=some {cls:=.type "zip",data:=.fields #[.ellipsis,.bool false,.bool false,.ref TI,.ref TO]}:=(m.2 _ (F5 D.TOz)).trans ((i.2 _ (F5 D.i1z)).trans gz);have h:=xD z _ (F5 D.i2z) r;refine C08 h (by simp) λhF gF sF=>?_
 have v:ea≠z:=λq=>by
  rw[q,h] at gb;cases gb;exact absurd (show R7 "zip" = R7 "StopIteration" from cb) (by decide)
 exact hE hF ea (λc o n1 n2 n3 n4 q=>(sF.2 _ n1).trans (xD c o n4 ((m.2 _ n2).trans ((i.2 _ n3).trans ((f.2 _ n1).trans q))))) ⟨ob,(sF.2 _ v).trans gb,cb⟩
section
variable{b:Bool}{prog:B79}{w:World}{A:Around}{E:Aa1}{s:Shared}{z TI TO i1 i2 l1 l2:Addr}{k1 k2:Nat}{xs ys:Array Value}
theorem qHU {x y a c:Value} {Q:Option Value->Shared->Prop} (D:C55 z TI TO i1 i2 l1 l2)(i:IsZip s.heap z TI TO .none)(d:IsPair s.heap TI (.ref i1) (.ref i2))(e:IsPair s.heap TO a c)
  (p:SIt b s.heap i1 l1 k1) (n:SIt b s.heap i2 l2 k2) (f:SSq b s.heap l1 xs) (g:SSq b s.heap l2 ys) (u:xs[k1]?=some x) (k:ys[k2]?=some y)
  (hQ:∀ h':Heap,IsZip h' z TI TO (rawInt (s.heap.objs.size:Int))->IsPair h' TO x y->SIt b h' i1 l1 (k1+1)->SIt b h' i2 l2 (k2+1)->IsPair h' s.heap.objs.size x y->h'.objs.size=s.heap.objs.size+1->
   (∀(c:Addr) (o:Obj),c≠z->c≠TO->c≠i1->c≠i2->s.heap.get? c=some o->h'.get? c=some o)->Q (some (.ref s.heap.objs.size)) {s with heap:=h'}):
  wpAny (model prog w) A (pyNext (.ref z)) Q E s:=by
 have h:s.TypeIs (.ref z) "zip":=⟨_,i,rfl⟩;unfold pyNext;refine B75 (C19 (wpAny_callSpecial?_slot (name:=D0 "__next__") h X7 (B87 X7 h A36 ?_ (A18 _))));exact qT6 (Q:=λv t=>wpAny (model prog w) A (pure (some v)) Q E t) D i d e p n f g u k λh' q1 m r j q l q7=>B76 (hQ h' q1 m r j q l q7)
theorem qIR {Q:Option Value->Shared->Prop} (l:A.handled=none)(D:C55 z TI TO i1 i2 l1 l2)(f:IsZip s.heap z TI TO .none)(d:IsPair s.heap TI (.ref i1) (.ref i2))
  (j:SIt b s.heap i1 l1 k1) (a:SSq b s.heap l1 xs) (i:xs[k1]?=none)
  (m:∀h':Heap,(∀(c:Addr) (o:Obj),c≠z->c≠i1->s.heap.get? c=some o->h'.get? c=some o)->Q none {s with heap:=h'}):
  wpAny (model prog w) A (pyNext (.ref z)) Q E s:=by
 have h:s.TypeIs (.ref z) "zip":=⟨_,f,rfl⟩;unfold pyNext;refine B75 (C19 (wpAny_callSpecial?_slot (name:=D0 "__next__") h X7 (B87 X7 h A36 ?_ (A18 _))));refine qWU l D f d j a i λh' e k ⟨o,g,c⟩=>?_;refine B75 (C32 (T:="StopIteration") (b:=true) ⟨_,g,c⟩ isSubtype_stop ?_);exact B76 (m h' k)
theorem qHV {x a c:Value} {Q:Option Value->Shared->Prop} (p:A.handled=none)(D:C55 z TI TO i1 i2 l1 l2)(j:IsZip s.heap z TI TO .none)(i:IsPair s.heap TI (.ref i1) (.ref i2))(f:IsPair s.heap TO a c)
  (n:SIt b s.heap i1 l1 k1) (m:SIt b s.heap i2 l2 k2) (h:SSq b s.heap l1 xs) (d:SSq b s.heap l2 ys) (q:xs[k1]?=some x) (r:ys[k2]?=none)
  (t:∀h':Heap,(∀(c:Addr) (o:Obj),c≠z->c≠TO->c≠i1->c≠i2->s.heap.get? c=some o->h'.get? c=some o)->Q none {s with heap:=h'}):
  wpAny (model prog w) A (pyNext (.ref z)) Q E s:=by
 have l:s.TypeIs (.ref z) "zip":=⟨_,j,rfl⟩;unfold pyNext;refine B75 (C19 (wpAny_callSpecial?_slot (name:=D0 "__next__") l X7 (B87 X7 l A36 ?_ (A18 _))));refine qT7 p D j i f n m h d q r λh' e k ⟨o,g,c⟩=>?_;refine B75 (C32 (T:="StopIteration") (b:=true) ⟨_,g,c⟩ isSubtype_stop ?_);exact B76 (t h' k)
end
noncomputable abbrev itObj (b:Bool) (l:Addr):Obj:={cls:=.type (match b with|true=>"tuple_iterator" |false=>"list_iterator"),data:=.fields #[.ref l,.int 0 0]}
theorem qH1 {b:Bool} {l:Addr} {xs:Array Value} {Q:Aa1} (h:SSq b s.heap l xs)(a:Q (.ref s.heap.objs.size) {s with heap:=s.heap.push (itObj b l)}):wpAny (model prog w) A (pyIter (.ref l)) Q E s:=by
 cases b
 ·exact C01 h a
 ·exact C38 h a
noncomputable abbrev zb1 (b:Bool)(h:Heap)(l1:Addr):Heap:=h.push (itObj b l1)
noncomputable abbrev zb2 (b:Bool)(h:Heap)(l1 l2:Addr):Heap:=(zb1 b h l1).push (itObj b l2)
noncomputable abbrev zb3 (b:Bool) (h:Heap) (l1 l2:Addr):Heap:=(zb2 b h l1 l2).push {cls:=.type "tuple",data:=.seq #[.ref h.objs.size,.ref (zb1 b h l1).objs.size]}
noncomputable abbrev zb4 (b:Bool) (h:Heap) (l1 l2:Addr):Heap:=(zb3 b h l1 l2).push {cls:=.type "tuple",data:=.seq #[.none,.none]}
noncomputable abbrev zb5 (b:Bool) (h:Heap) (l1 l2:Addr):Heap:=(zb4 b h l1 l2).push {cls:=.type "zip",data:=.fields #[.none,.bool false,.bool false,.ref (zb2 b h l1 l2).objs.size,.ref (zb3 b h l1 l2).objs.size]}
theorem qWT (b:Bool) (a c:Addr) (xs ys:Array Value):Meets (Builtin.«zip.__new__» {pos:=[.type "zip",.ref a,.ref c]}) λ_ R s=>
  SSq b s.heap a xs/\SSq b s.heap c ys/\R (.ok (.ret (.ref (zb4 b s.heap a c).objs.size))) {s with heap:=zb5 b s.heap a c}:=by
 refine Meets.of_wp λj w A R s h=>?_;obtain⟨k,g,d,m,l⟩:=s;obtain⟨i,e,h⟩:=h;have f:SSq b (k.push (itObj b a)) c ys:=SSq.at e λo q=>A3 _ q;refine B75 ?_;refine B75 (B76 ?_);refine C17 rfl ?_;refine B75 (C26 sub_zip ?_);refine C17 rfl ?_;refine B76 ?_;refine C17 rfl ?_;refine B75 ?_;refine B75 ?_;show wpAny _ _ (forIn [C8 a,C8 c] #[] _) _ _ _;rw[Q3];refine B75 (B75 (B83 (qH1 i (B76 ?_))));dsimp only;rw[Q3];refine B75 (B75 (B83 (qH1 f (B76 ?_))));dsimp only;rw[A74];refine B76 (B76 ?_);refine B75 (C45 ?_ (by show 2<=B77;decide))
 refine B75 (C45 ?_ (by show 2<=B77;decide))
 refine B75 ?_;unfold X4;dsimp only;refine B86 ?_ (by first|rfl|(show(5:Nat)<=_;decide)|(show(5:Nat)<=B77+2;rw[B88];decide))
 refine B76 ⟨_,rfl,h⟩
theorem qW6 {b:Bool} {a d:Addr} {xs ys:Array Value} {Q:Aa1} (g:SSq b s.heap a xs)(f:SSq b s.heap d ys)
  (hQ:∀ (h':Heap) (z TI TO i1 i2:Addr),C55 z TI TO i1 i2 a d->IsZip h' z TI TO .none->IsPair h' TI (.ref i1) (.ref i2)->IsPair h' TO .none .none->SIt b h' i1 a 0->SIt b h' i2 d 0->(∀ c ∈ [z,TI,TO,i1,i2],s.heap.objs.size<=c)->
   (∀(c:Addr) (o:Obj),s.heap.get? c=some o->h'.get? c=some o)->Q (.ref z) {s with heap:=h'}):
  wpAny (model prog w) A (call (.type "zip") [.ref a,.ref d]) Q E s:=by
 refine callType_new F.called_zip (by decide) (F.typeCall_zip_2 _ _) (F.newCall_zip_2 _ _) (λh=>F.args_object_init_3 h _ _) F.entry_zip_new (qWT b a d xs ys) ⟨g,f,?_⟩
 have p:(zb1 b s.heap a).objs.size=s.heap.objs.size+1:=J6 ..;have i:(zb2 b s.heap a d).objs.size=s.heap.objs.size+2:=(J6 ..).trans (by rw[p])
 have t:(zb3 b s.heap a d).objs.size=s.heap.objs.size+3:=(J6 ..).trans (by rw[i])
 have x:(zb4 b s.heap a d).objs.size=s.heap.objs.size+4:=(J6 ..).trans (by rw[t])
 have j:(zb5 b s.heap a d).get? (zb4 b s.heap a d).objs.size=some {cls:=.type "zip",data:=.fields #[.none,.bool false,.bool false,.ref (zb2 b s.heap a d).objs.size,.ref (zb3 b s.heap a d).objs.size]}:=A9 _ rfl;have v:(zb5 b s.heap a d).get? (zb3 b s.heap a d).objs.size=some {cls:=.type "tuple",data:=.seq #[.none,.none]}:=A3 _ (A9 _ rfl);have y:(zb5 b s.heap a d).get? (zb2 b s.heap a d).objs.size=some {cls:=.type "tuple",data:=.seq #[.ref s.heap.objs.size,.ref (zb1 b s.heap a).objs.size]}:=A3 _ (A3 _ (A9 _ rfl));have r:(zb5 b s.heap a d).get? (zb1 b s.heap a).objs.size=some (itObj b d):=A3 _ (A3 _ (A3 _ (A9 _ rfl)));have m:(zb5 b s.heap a d).get? s.heap.objs.size=some (itObj b a):=A3 _ (A3 _ (A3 _ (A3 _ (A9 _ rfl))));have k:∀{l:Addr} {zs:Array Value},SSq b s.heap l zs->l<s.heap.objs.size:=λ{l zs} q=>by
  cases b
  ·obtain⟨o,e,_⟩:=q;exact B1 e
  ·obtain⟨o,e,_⟩:=q;exact B1 e
 refine⟨⟨_,j,rfl⟩,?_⟩;have D:=zipApart_new (n:=s.heap.objs.size) (k g) (k f);rw[<- x,<- t,<- i,<- p] at D;refine hQ _ _ _ _ _ _ D j y v ?_ ?_ ?_ λc o e=>A3 _ (A3 _ (A3 _ (A3 _ (A3 _ e))))
 ·cases b
  ·exact⟨_,m,rfl,rfl⟩
  ·exact⟨_,m,rfl,rfl⟩
 ·cases b
  ·exact⟨_,r,rfl,rfl⟩
  ·exact⟨_,r,rfl,rfl⟩
 ·intro c hc;have u:c=(zb4 b s.heap a d).objs.size\/c=(zb2 b s.heap a d).objs.size\/c=(zb3 b s.heap a d).objs.size\/c=s.heap.objs.size\/c=(zb1 b s.heap a).objs.size:=by simpa using hc
  rcases u with rfl|rfl|rfl|rfl|rfl
  ·lia
  ·lia
  ·lia
  ·exact A6 _
  ·lia
def SqB (b:Bool)(K:Ab1)(H:Hp)(a:Addr)(xs:List V):Prop:=match b with|true=>SqT K H a xs|false=>SqL K H a xs
def Itz (K:Ab1)(b:Bool)(l1 l2:Addr):It:=
 ⟨λi H=>∃xs ys x y,SqB b K H l1 xs/\SqB b K H l2 ys/\xs[i]?=some x/\ys[i]?=some y,λi H v H'=>∃T x y,H T=none/\v=.ref T/\H'=Ag H T (.tup [x,y])/\∀xs ys,SqB b K H l1 xs->SqB b K H l2 ys->xs[i]?=some x/\ys[i]?=some y,λi H=>∃xs,SqB b K H l1 xs/\(xs.length<=i\/∃ys x,SqB b K H l2 ys/\xs[i]?=some x/\ys.length<=i)⟩
section
variable{X:Cx}
theorem Inv.seqB {b:Bool} {Ab:List (Addr×Obj)} {σ:St} {H:Hp} {a:Addr} {xs:List V} (I:Inv X Ab σ H s)(h:SqB b X.K H a xs):∃its:List Value,Vals xs its/\SSq b s.heap a its.toArray:=by
 cases b
 ·obtain⟨its,c,p,_⟩:=I.list h;exact⟨its,c,p.isList⟩
 ·obtain⟨its,c,p,_⟩:=I.tuple h;exact⟨its,c,p⟩
theorem Inv.seqB_inj {b:Bool} {Ab:List (Addr×Obj)} {σ:St} {H:Hp} {a:Addr} {xs ys:List V} (I:Inv X Ab σ H s)(h:SqB b X.K H a xs)(h':SqB b X.K H a ys):xs=ys:=by
 cases b
 ·exact I.list_inj h h'
 ·exact I.tuple_inj h h'
theorem qX0 {K:Ab1} {aa:List Expr} {k:Nat} {pos:Pos} {b:Bool} {z TI TO g f l1 l2:Addr} (D:C55 z TI TO g f l1 l2):Turn P w K (.Tuple aa k pos) (Itz K b l1 l2) [z,TI,TO,g,f] z (λi h=>IsZip h z TI TO .none/\IsPair h TI (.ref g) (.ref f)/\(∃a c,IsPair h TO a c)/\SIt b h g l1 i/\SIt b h f l2 i) where
 mem:=by simp
 obj:=λi h ⟨h1,h2,⟨a,c,h3⟩,h4,h5⟩ d hd=>by
  have it:∀{j l:Addr},SIt b h j l i->∃o,h.get? j=some o/\∀v,o.data≠.cell v:=λ{j l} q=>by
   cases b
   ·obtain⟨o,e,_,q⟩:=q;exact⟨o,e,λv z=>by rw[q] at z;cases z⟩
   ·obtain⟨o,e,_,q⟩:=q;exact⟨o,e,λv z=>by rw[q] at z;cases z⟩
  have e':d=z\/d=TI\/d=TO\/d=g\/d=f:=by simpa using hd
  rcases e' with rfl|rfl|rfl|rfl|rfl
  ·exact⟨_,h1,λv z=>by
    have z':A26 _=A14 v:=z;cases z'⟩
  ·exact⟨_,h2,λv z=>by
    have z':Data.seq _=A14 v:=z;cases z'⟩
  ·exact⟨_,h3,λv z=>by
    have z':Data.seq _=A14 v:=z;cases z'⟩
  ·exact it h4
  ·exact it h5
 keep:=λi h h' ⟨h1,h2,⟨a,c,h3⟩,h4,h5⟩ kk=>⟨kk z (by simp) _ h1,kk TI (by simp) _ h2,⟨a,c,kk TO (by simp) _ h3⟩,h4.at λo q=>kk g (by simp) o q,h5.at λo q=>kk f (by simp) o q⟩
 item:=by
  intro X hP hw hK hc i Ab s σ H E I hf st hg;subst hP hw hK;obtain⟨xs,ys,x,y,a0,m,hx,hy⟩:=hg;obtain⟨ac,rv,p1⟩:=I.seqB a0;obtain⟨ae,r,p2⟩:=I.seqB m;obtain⟨u,hu,ru⟩:=rv.get hx;obtain⟨v,hv,ad⟩:=r.get hy;obtain⟨h1,h2,⟨a,c,h3⟩,h4,h5⟩:=st;refine qHU D h1 h2 h3 h4 h5 p1 p2 (x:=u) (y:=v) (by simpa using hu) (by simpa using hv) λh' a1 a2 a3 a4 a5 a6 a7=>?_
  refine ⟨_,rfl,wpAny_letOwnedTupleGo_zip a1 fun a9 b1 t=>?_⟩;have a8:z<s.heap.objs.size:=B1 h1;have nz:s.heap.objs.size ≠ z:=R1 a8;have I1:Inv X Ab σ H { s with heap:=a9,toks:=s.toks }:=I.turnedL (ch:=[z,TI,TO,g,f]) (fun d o hd q=>by
   have e1:d≠z:=λq=>hd (by simp[q])
   exact(t.2 d e1).trans (a7 d o e1 (λq=>hd (by simp[q])) (λq=>hd (by simp[q])) (λq=>hd (by simp[q])) q)) hf
  have hT:H s.heap.objs.size=none:=I.hok.fresh (A6 _);have fT:=I.fpOk (H':=H) (b:=s.heap.objs.size) (A6 _) hT;have gT:a9.get? s.heap.objs.size=some {cls:=.type "tuple",data:=.seq #[u,v]}:=(t.2 _ nz).trans a5;refine⟨.ref s.heap.objs.size,Ag H s.heap.objs.size (.tup [x,y]),I1.track hT I.sz fT.2.1 fT.2.2.2.2.1 fT.2.2.2.2.2 ⟨by simp only[D3,O2];rw[B88];decide,[u,v],.cons ru (.cons ad .nil),⟨_,gT,rfl,_,rfl⟩⟩,rfl,
   ⟨_,x,y,hT,rfl,rfl,λah af e1 e2=>by rw[I.seqB_inj e1 a0,I.seqB_inj e2 m];exact⟨hx,hy⟩⟩,⟨b1,(t.2 _ D.TIz).trans (a7 _ _ D.TIz D.TITO D.TIi1 D.TIi2 h2),⟨u,v,(t.2 _ D.TOz).trans a2⟩,a3.at λo q=>(t.2 _ D.i1z).trans q,a4.at λo q=>(t.2 _ D.i2z).trans q⟩,λd hd=>?_⟩
  have ab:d<s.heap.objs.size:=by
   have it:∀{j l:Addr} {n:Nat},SIt b s.heap j l n->j<s.heap.objs.size:=λ{j l n} q=>by
    cases b
    ·obtain⟨o,e,_,q⟩:=q;exact B1 e
    ·obtain⟨o,e,_,q⟩:=q;exact B1 e
   have e':d=z\/d=TI\/d=TO\/d=g\/d=f:=by simpa using hd
   rcases e' with rfl|rfl|rfl|rfl|rfl
   ·exact a8
   ·exact B1 h2
   ·exact B1 h3
   ·exact it h4
   ·exact it h5
  rw[qA8 (C4 ab)];exact(hf d hd).1
 done:=by
  intro X hP hw hK hc i Ab s σ H E I hf st hg;subst hP hw hK;obtain⟨xs,hq,hx⟩:=hg;obtain⟨ac,rv,p⟩:=I.seqB hq;have hl:=rv.length;obtain⟨h1,h2,⟨a,c,h3⟩,h4,h5⟩:=st;rcases hx with hx|⟨ys,x,m,hxx,hy⟩
  rotate_left
  ·obtain⟨ae,r,p2⟩:=I.seqB m;have ag:=r.length;obtain⟨u,hu,ru⟩:=rv.get hxx;exact qHV (I.ok.hd hc) D h1 h2 h3 h4 h5 p p2 (x:=u) (by simpa using hu) (by simp;lia) λh' eb=>⟨rfl,I.turnedL (t':=s.toks) (ch:=[z,TI,TO,g,f]) (λd o hd q=>eb d o (λz=>hd (by simp[z])) (λz=>hd (by simp[z])) (λz=>hd (by simp[z])) (λz=>hd (by simp[z])) q) hf⟩
  exact qIR (I.ok.hd hc) D h1 h2 h4 p (by simp;lia) λh' eb=>⟨rfl,I.turnedL (t':=s.toks) (ch:=[z,TI,TO,g,f]) (λd o hd q=>eb d o (λz=>hd (by simp[z])) (λz=>hd (by simp[z])) q) hf⟩
 self:=λ_ _ _ _ _ ⟨h1,_⟩ h=>wpAny_pyIter_zip h1 h
def iZip (K:Ab1)(ta:TA):TI:=λσ H R=>ta σ H λvs H1=>∃b l m,vs=[.ref l,.ref m]/\(∃xs,SqB b K H1 l xs)/\(∃xs,SqB b K H1 m xs)/\R (Itz K b l m) H1
theorem qc4 {i:List Expr} {k:Nat} {g:Pos} {a b:Expr} {y:TA} {p pos:Pos} (hg:Gl X "zip") (hm:X.mg "zip" = none) (hv:B82 "zip" = some (.type "zip")) (ha:PA X [a,b] y) (hs:B84 [a,b] X.env=[(false,eval a X.env),(false,eval b X.env)]:=by rfl) (d:B84 [b] X.env=[(false,eval b X.env)]:=by rfl):
  PI X (.Tuple i k g) (.Call (.Name "zip" p) [a,b] [] pos) (iZip X.K y):=by
 intro Ab s σ H R I h;refine Call_ (qFR I hg hm hv (J3 (thn (ha pos Ab s σ H _ I h) λus s1 ⟨vs,H1,I1,r1,q1⟩=>?_) (by rw[hs,d]) (by rw[d];rfl)))
 obtain⟨bb,l,m,e,⟨xs,hq⟩,⟨ys,o⟩,q⟩:=q1;subst e;obtain⟨u,v,rfl,rx,ry⟩:=qK2 r1;cases rx;cases ry;obtain⟨a1,rv,pl⟩:=I1.seqB hq;obtain⟨a2,a0,pm⟩:=I1.seqB o;refine qW6 pl pm λh' z TI TO i1 i2 D x n r j t f hk=>?_;refine wpAny_pyIter_zip x ?_;have I2:Inv X Ab σ H1 {s1 with heap:=h'}:=I1.kept (t':=s1.toks) hk;exact⟨z,[z,TI,TO,i1,i2],_,_,H1,rfl,I2,qX0 (b:=bb) D,⟨x,n,⟨_,_,r⟩,j,t⟩,λc w=>I1.fpOk (f c w) (I1.hok.fresh (f c w)),q⟩
end
theorem qaJ {K:Ab1} {b:Bool} {l m:Addr} {xs ys:List V} {g:TG} {o:TT} {h:TE} {Kf:Hp->Prop} {σ0:St} {H0:Hp} {p:Addr} (f:ys.length<=xs.length)(Pv:Nat->St->Hp->Prop)(r:Pv 0 σ0 H0)(s:∀i σ H,i<=ys.length->Pv i σ H->SqB b K H l xs/\SqB b K H m ys)
  (hs:∀i x y σ H T,xs[i]?=some x->ys[i]?=some y->Pv i σ H->H T=none->g (.ref T) σ (Ag H T (.tup [x,y])) λσ2 H2=>o σ2 H2 λb H3=>if b=true then h σ2 H3 λy H4=>∃ys,H4 p=some (.lst ys)/\ys.length<B77/\Pv (i+1) σ2 (Ag H4 p (.lst (ys++[y]))) else Pv (i+1) σ2 H3)
  (j:∀σ H,Pv ys.length σ H->Kf H):
  LcG (Itz K b l m) g o h Kf σ0 H0 p:=by
 refine⟨λi n σ H=>n=ys.length-i/\i<=ys.length/\Pv i σ H,⟨ys.length,by simp,E7 _,r⟩,?_⟩
 rintro i n σ H ⟨rfl,hi,q⟩;have a:=s i σ H hi q;by_cases d:i<ys.length
 ·refine .inr ⟨⟨xs,ys,xs[i]'(by lia),ys[i],a.1,a.2,A4 _,by simp[d]⟩,Pv (i+1),λσ' u w=>⟨ys.length-(i+1),by lia,rfl,d,w⟩,λv u y=>?_⟩
  obtain⟨T,x,y,hT,z,t,k⟩:=y;subst z t;exact hs i x y σ H T (k xs ys a.1 a.2).1 (k xs ys a.1 a.2).2 q hT
 ·have e:i=ys.length:=by lia
  subst e;by_cases c:ys.length<xs.length
  ·exact .inl ⟨⟨xs,a.1,.inr ⟨ys,xs[ys.length],a.2,A4 _,A6 _⟩⟩,j σ H q⟩
  ·exact .inl ⟨⟨xs,a.1,.inl (by lia)⟩,j σ H q⟩
theorem qSV {M:Model} {c:Value} {Q:Bool->Shared->Prop} (h:∀b,Q b s):wpAny M A (Y9 c) Q E s:=by
 unfold Y9;exact B75 (wpAny_stack_any λa=>B76 (h _))
theorem qVP (l:Addr) (a:Array Value):Meets (Builtin.«enumerate.__new__» {pos:=[.type "enumerate",.ref l]}) λ_ R s=>
  s.heap.IsTuple l a/\R (.ok (.ret (.ref (s.heap.push (itObj true l)).objs.size))) {s with heap:=(s.heap.push (itObj true l)).push {cls:=.type "enumerate",data:=.fields #[.none,.bool false,.ref s.heap.objs.size,rawInt 0,.none,.none]}}:=by
 refine Meets.of_wp λc w A R s h=>?_;obtain⟨i,h⟩:=h;refine B75 ?_;refine B75 (B76 ?_);refine C17 rfl ?_;refine B75 (C26 sub_enumerate ?_);refine C17 rfl ?_;refine B76 ?_;refine wpAny_ite_true rfl ?_;refine B75 (qSV λk=>?_);have g:wpAny (model c w) A.in1 (pyIter (.ref l) >>= λj=>X4 (.type "enumerate") (A80++[j,rawInt 0,.none,.none]) >>= λv=>ret v) (λf d=>∃v,f=.done (.ret v)/\R (.ok (.ret v)) d) (λe d=>R (.error e) d) s:=by
  refine B75 (qH1 (b:=true) i ?_);refine B75 ?_;unfold X4;dsimp only;refine B86 ?_ (by first|rfl|(show(6:Nat)<=B77+2;rw[B88];decide))
  exact B76 ⟨_,rfl,h⟩
 cases k
 ·exact g
 ·exact g
theorem qL1 {l:Addr} {a:Array Value} {Q:Aa1} (f:s.heap.IsTuple l a)
  (h:∀h':Heap,IsEnum h' (s.heap.objs.size+1) s.heap.objs.size 0 .none->h'.IsTupleIter s.heap.objs.size l 0->h'.objs.size=s.heap.objs.size+2->(∀(b:Addr) (o:Obj),s.heap.get? b=some o->h'.get? b=some o)->Q (.ref (s.heap.objs.size+1)) {s with heap:=h'}):
  wpAny (model prog w) A (call (.type "enumerate") [.ref l]) Q E s:=by
 refine callType_new F.called_enumerate (by decide) (F.typeCall_enumerate_1 _) (F.newCall_enumerate_1 _) (λc=>A63 c _) F.entry_enumerate_new (qVP l a) ⟨f,?_⟩
 have d:(s.heap.push (itObj true l)).objs.size=s.heap.objs.size+1:=J6 ..;rw[d];have g:((s.heap.push (itObj true l)).push {cls:=.type "enumerate",data:=.fields #[.none,.bool false,.ref s.heap.objs.size,rawInt 0,.none,.none]}).get? (s.heap.objs.size+1)=some {cls:=.type "enumerate",data:=.fields #[.none,.bool false,.ref s.heap.objs.size,rawInt 0,.none,.none]}:=by
  rw[<- d];exact A9 _ rfl
 exact⟨⟨_,g,rfl⟩,h _ g ⟨_,A3 _ (A9 _ rfl),rfl,rfl⟩ ((J6 ..).trans (by rw[d])) λb o e=>A3 _ (A3 _ e)⟩
theorem qZH (g:A.handled=none)(d l:Addr)(f:l≠d)(c:Array Value):Draws prog w A d [d,l] c.size (λi v=>c[i]?=some v) λi h=>h.IsTupleIter d l i/\h.IsTuple l c where
 live:=λi h ⟨⟨o,e,_⟩,_⟩=>⟨o,e⟩
 frame:=λi h h' ⟨⟨o,e,r⟩,⟨o2,e2,r2⟩⟩ k=>⟨⟨o,k d (by simp) _ e,r⟩,⟨o2,k l (by simp) _ e2,r2⟩⟩
 item:=λi s Q E hi ⟨h1,h2⟩ hQ=>qDY h1 h2 (C3 hi) λh' a b=>hQ _ h' s.toks (C3 hi) ⟨a,by obtain⟨o,e,r⟩:=h2;exact⟨o,(b.2 l f).trans e,r⟩⟩ b
 done:=λs Q E ⟨h1,h2⟩ hE=>qEI g h1 h2 (by simp) hE
def IteT (K:Ab1)(l:Addr):It:=
 ⟨λi H=>∃xs x,SqT K H l xs/\xs[i]?=some x,λi H v H'=>∃T x,H T=none/\v=.ref T/\H'=Ag H T (.tup [.int (i:Int),x])/\∀xs,SqT K H l xs->xs[i]?=some x,λi H=>∃xs,SqT K H l xs/\xs.length=i⟩
section
variable{X:Cx}
theorem qKE {K:Ab1} {a6:List Expr} {k:Nat} {pos:Pos} (l a e:Addr)(n:e≠a)(hl:l≠a)(a9:l≠e):Turn P w K (.Tuple a6 k pos) (IteT K l) [e,a] e (λi h=>(∃old,IsEnum h e a i old)/\h.IsTupleIter a l i) where
 mem:=by simp
 obj:=λi h f b g=>by
  obtain⟨⟨old,d⟩,o,j,_,h4⟩:=f;have e':b=e\/b=a:=by simpa using g
  rcases e' with rfl|rfl
  ·exact⟨_,d,λv z=>by
    have z':A26 _=A14 v:=z;cases z'⟩
  ·exact⟨o,j,λv z=>by rw[h4] at z;cases z⟩
 keep:=λi h h' f kk=>by
  obtain⟨⟨old,d⟩,j⟩:=f;exact⟨⟨old,kk e (by simp) _ d⟩,j.at λo q=>kk a (by simp) o q⟩
 item:=by
  intro X hP hw hK hc i Ab s σ H E I hf f hg;subst hP hw hK;obtain⟨xs,x,hq,hx⟩:=hg;obtain⟨c,rv,p,hz⟩:=I.tuple hq;obtain⟨u,hu,ru⟩:=rv.get hx;obtain⟨⟨old,d⟩,j⟩:=f;have m:i<c.toArray.size:=by have:=(A5.mp hu).1;simpa using this
  refine wpAny_pyNext_enum_itemD (qZH (A:=X.A.in1) (I.ok.hd hc) a l hl c.toArray) d ⟨j,p⟩ m n (by simp[n,F5 a9]) λu' h' tk a0 a1 a2 a3 a4 a5=>?_
  have eu:u'=u:=by
   have:c[i]?=some u':=by simpa using a0
   rw[hu] at this;exact(D7 this).symm
  subst eu;refine ⟨_,rfl,wpAny_letOwnedTupleGo_enum a1 fun y b1 b2=>?_⟩;have t:e<s.heap.objs.size:=B1 d;have I1:Inv X Ab σ H { s with heap:=y,toks:=tk+1 }:=I.turnedL (ch:=[e,a]) (fun b o g q=>by
   have r:b≠e:=λz=>g (by simp[z])
   have a7:b≠a:=λz=>g (by simp[z])
   exact(b2.2 b r).trans (a5 b o r a7 q)) hf
  have hT:H s.heap.objs.size=none:=I.hok.fresh (A6 _);have fT:=I.fpOk (H':=H) (b:=s.heap.objs.size) (A6 _) hT;have gT:y.get? s.heap.objs.size=some {cls:=.type "tuple",data:=.seq #[.int i tk,u']}:=(b2.2 _ (R1 t)).trans a3;refine⟨.ref s.heap.objs.size,Ag H s.heap.objs.size (.tup [.int (i:Int),x]),I1.track hT I.sz fT.2.1 fT.2.2.2.2.1 fT.2.2.2.2.2 ⟨by simp only[D3,O2];rw[B88];decide,[.int (i:Int) tk,u'],.cons ⟨_,rfl⟩ (.cons ru .nil),⟨_,gT,rfl,_,rfl⟩⟩,rfl,
   ⟨_,x,hT,rfl,rfl,λys hy=>by rw[I.tuple_inj hy hq];exact hx⟩,⟨⟨_,b1⟩,a2.1.at λo q=>(b2.2 a (F5 n)).trans q⟩,λb g=>?_⟩
  have a8:b<s.heap.objs.size:=by
   have e':b=e\/b=a:=by simpa using g
   rcases e' with rfl|rfl
   ·exact t
   ·obtain⟨o,q,_⟩:=j;exact B1 q
  rw[qA8 (C4 a8)];exact(hf b g).1
 done:=by
  intro X hP hw hK hc i Ab s σ H E I hf f hg;subst hP hw hK;obtain⟨xs,hq,hx⟩:=hg;obtain⟨c,rv,p,hz⟩:=I.tuple hq;have aa:=rv.length;obtain⟨⟨old,d⟩,j⟩:=f;have m:i=c.toArray.size:=by simp;lia
  subst m;exact wpAny_pyNext_enum_endD (qZH (A:=X.A.in1) (I.ok.hd hc) a l hl c.toArray) d ⟨j,p⟩ λh' eb=>⟨rfl,I.turnedL (t':=s.toks) (ch:=[e,a]) (λb o g q=>eb b o (λz=>g (by simp[z])) q) hf⟩
 self:=λ_ _ _ _ _ f h=>by
  obtain⟨⟨old,d⟩,j⟩:=f;exact C20 d h
def qcN (K:Ab1)(ta:TA):TI:=λσ H R=>ta σ H λvs H1=>∃l,vs=[.ref l]/\(∃xs,SqT K H1 l xs)/\R (IteT K l) H1
theorem qQN {f:List Expr} {k:Nat} {d:Pos} {a:Expr} {i:TA} {p pos:Pos} (hg:Gl X "enumerate") (hm:X.mg "enumerate" = none) (hv:B82 "enumerate" = some (.type "enumerate")) (ha:PA X [a] i) (hs:B84 [a] X.env=[(false,eval a X.env)]:=by rfl):
  PI X (.Tuple f k d) (.Call (.Name "enumerate" p) [a] [] pos) (qcN X.K i):=by
 intro m s σ H R I h;refine Call_ (qFR I hg hm hv (J3 (thn (ha pos m s σ H _ I h) λus s1 ⟨vs,H1,I1,r1,q1⟩=>?_) hs rfl));obtain⟨l,e,⟨xs,hq⟩,q⟩:=q1;subst e;obtain⟨u,rfl,v⟩:=qDQ r1;cases v;obtain⟨y,rv,g,hz⟩:=I1.tuple hq;have c:l<s1.heap.objs.size:=by obtain⟨o,e,_⟩:=g;exact B1 e
 refine qL1 g λw j r t x=>?_;refine C20 j ?_;have z:Inv X m σ H1 {s1 with heap:=w}:=I1.kept (t':=s1.toks) x;refine⟨s1.heap.objs.size+1,[s1.heap.objs.size+1,s1.heap.objs.size],_,_,H1,rfl,z,qKE l s1.heap.objs.size (s1.heap.objs.size+1) (Z6 _) (C4 c) (C4 (O8 c)),⟨⟨_,j⟩,r⟩,λb n=>?_,q⟩;have e':b=s1.heap.objs.size+1\/b=s1.heap.objs.size:=by simpa using n
 rcases e' with rfl|rfl
 ·exact I1.fpOk (S0 _) (I1.hok.fresh (S0 _))
 ·exact I1.fpOk (A6 _) (I1.hok.fresh (A6 _))
end
theorem qR7 {K:Ab1} {a:Addr} {xs:List V} {g:TG} {h:TT} {f:TE} {Kf:Hp->Prop} {σ0:St} {H0:Hp} {p:Addr} (Pv:Nat->St->Hp->Prop)(j:Pv 0 σ0 H0)(k:∀i σ H,i<=xs.length->Pv i σ H->SqT K H a xs)
  (u:∀i x σ H T,xs[i]?=some x->Pv i σ H->H T=none->g (.ref T) σ (Ag H T (.tup [.int (i:Int),x])) λσ2 H2=>h σ2 H2 λb H3=>if b=true then f σ2 H3 λy H4=>∃ys,H4 p=some (.lst ys)/\ys.length<B77/\Pv (i+1) σ2 (Ag H4 p (.lst (ys++[y]))) else Pv (i+1) σ2 H3)
  (s:∀σ H,Pv xs.length σ H->Kf H):
  LcG (IteT K a) g h f Kf σ0 H0 p:=by
 refine⟨λi m σ H=>m=xs.length-i/\i<=xs.length/\Pv i σ H,⟨xs.length,by simp,E7 _,j⟩,?_⟩
 rintro i m σ H ⟨rfl,hi,q⟩;have d:=k i σ H hi q;by_cases c:i<xs.length
 ·refine .inr ⟨⟨xs,xs[i],d,by simp[c]⟩,Pv (i+1),λσ' n o=>⟨xs.length-(i+1),by lia,rfl,c,o⟩,λv n y=>?_⟩
  obtain⟨T,x,t,r,l,y⟩:=y;subst r l;exact u i x σ H T (y xs d) q t
 ·have e:i=xs.length:=by lia
  subst e;exact .inl ⟨⟨xs,d,rfl⟩,s σ H q⟩
theorem qVG {K:Ab1} {a:Addr} {xs:List V} {g:TG} {d:TS} {D:Ends} {σ0:St} {H0:Hp} (Pv:Nat->St->Hp->Prop)(f:Pv 0 σ0 H0)(h:∀i σ H,i<=xs.length->Pv i σ H->SqT K H a xs)
  (p:∀i x σ H T,xs[i]?=some x->Pv i σ H->H T=none->g (.ref T) σ (Ag H T (.tup [.int (i:Int),x])) λσ2 H2=>d {D with nx:=Pv (i+1),ct:=Pv (i+1),bk:=D.nx} σ2 H2)
  (n:∀σ H,Pv xs.length σ H->D.nx σ H):
  ∃W:Nat->Nat->St->Hp->Prop,(∃m,W 0 m σ0 H0)/\∀i m σ H,W i m σ H->
   ((IteT K a).stop i H/\D.nx σ H)\/((IteT K a).go i H/\∃N:St->Hp->Prop,(∀σ' H',N σ' H'->∃m',m'<m/\W (i+1) m' σ' H')/\∀x H',(IteT K a).yld i H x H'->g x σ H' λσ2 H2=>d {D with nx:=N,ct:=N,bk:=D.nx} σ2 H2):=by
 refine⟨λi m σ H=>m=xs.length-i/\i<=xs.length/\Pv i σ H,⟨xs.length,by simp,E7 _,f⟩,?_⟩
 rintro i m σ H ⟨rfl,hi,q⟩;have c:=h i σ H hi q;by_cases b:i<xs.length
 ·refine .inr ⟨⟨xs,xs[i],c,by simp[b]⟩,Pv (i+1),λσ' H' k=>⟨xs.length-(i+1),by lia,rfl,b,k⟩,λv H' y=>?_⟩
  obtain⟨T,x,o,l,j,y⟩:=y;subst l j;exact p i x σ H T (y xs c) q o
 ·have e:i=xs.length:=by lia
  subst e;exact .inl ⟨⟨xs,c,rfl⟩,n σ H q⟩
open PySem
section
variable{es:List Expr}{env:Env}{p:Pos}
end
@[irreducible] def cst (i:Int)(p:Pos):Expr:=.Constant (.int i) 0 p
theorem qUL {P:(St->Hp->Prop)->Prop} {B:St->Hp->Prop} (h:∀N:St->Hp->Prop,(∀σ H,B σ H->N σ H)->P N):∃N:St->Hp->Prop,(∀σ' H',N σ' H'->B σ' H')/\P N:=⟨B,λ_ _ z=>z,h B λ_ _ z=>z⟩
theorem qJE {K:Ab1} {a:Addr} {xs:List V} {g:TG} {b:TS} {D:Ends} {σ:St} {H:Hp} (Pv:Nat->St->Hp->Prop)(c:Pv 0 σ H)(d:∀i σ H,i<=xs.length->Pv i σ H->SqL K H a xs)
  (j:∀i x σ H,xs[i]?=some x->Pv i σ H->∀N:St->Hp->Prop,(∀σ H,Pv (i+1) σ H->N σ H)->g x σ H λσ2 H2=>b {D with nx:=N,ct:=N,bk:=D.nx} σ2 H2) (h:∀σ H,Pv xs.length σ H->D.nx σ H):
  ForG (Itl K a) g b D σ H:=
 qLZ Pv c d (λi x σ H f e=>j i x σ H f e _ λ_ _ z=>z) h
theorem qKW {lo:Int} {n:Nat} {g:TG} {a:TS} {D:Ends} {σ:St} {H:Hp} (Pv:Nat->St->Hp->Prop)(b:Pv 0 σ H)
  (f:∀i σ H,i<n->Pv i σ H->∀N:St->Hp->Prop,(∀σ H,Pv (i+1) σ H->N σ H)->g (.int (lo+i)) σ H λσ2 H2=>a {D with nx:=N,ct:=N,bk:=D.nx} σ2 H2) (e:∀σ H,Pv n σ H->D.nx σ H):
  ForG (Itr lo n) g a D σ H:=
 qE0 Pv b (λi σ H d c=>f i σ H d c _ λ_ _ z=>z) e
@[elab_as_elim] theorem us0 {α:Type}{P:List α->Prop}(a:List α)(b:a.length=0)(h:P []):P a:=by
 match a,b with
 |[],_=>exact h
@[elab_as_elim] theorem us1 {α:Type}{P:List α->Prop}(b:List α)(c:b.length=1)(h:∀a,P [a]):P b:=by
 match b,c with
 |[a],_=>exact h a
@[elab_as_elim] theorem us2 {α:Type}{P:List α->Prop}(c:List α)(d:c.length=2)(h:∀a b,P [a,b]):P c:=by
 match c,d with
 |[a,b],_=>exact h a b
@[elab_as_elim] theorem us3 {α:Type}{P:List α->Prop}(d:List α)(e:d.length=3)(h:∀a b c,P [a,b,c]):P d:=by
 match d,e with
 |[a,b,c],_=>exact h a b c
@[elab_as_elim] theorem us4 {α:Type}{P:List α->Prop}(e:List α)(f:e.length=4)(h:∀a b c d,P [a,b,c,d]):P e:=by
 match e,f with
 |[a,b,c,d],_=>exact h a b c d
end L2
namespace L2.G
open PySem PyProof.Rows
abbrev gSM:=StateT SortSt Sem
class NM where
 nm:Value->Int
 good:Value->Prop
variable[NM]
def gkv (p:Keyed):Int:=NM.nm p.1
def gIK (p:Keyed):Prop:=NM.good p.1
class LtOk (prog:B79)(w:World)(A:Around)(s:Shared)(κ0:C13):Prop where
 lt:∀{x y:Value} {Q:Bool->Shared->Prop} {E:Aa1},NM.good x->NM.good y->Q (decide (NM.nm x<NM.nm y)) s->wpAny (model prog w) A (keyLt' κ0 x y) Q E s
noncomputable def gK (xs:Array Keyed)(i:Nat):Int:=match xs[i]? with
 |some p=>NM.nm p.1
 |none=>0
def gSortedTo (xs:Array Keyed)(k:Nat):Prop:=∀i j,i<=j->j<k->gK xs i<=gK xs j
def qC4 (xs:Array Keyed):Prop:=∀p,p∈xs.toList->NM.good p.1
theorem qaR {xs:Array Keyed} {i:Nat} (hi:i<xs.size):gK xs i=NM.nm xs[i].1:=by unfold gK;rw[getElem?_pos xs i hi]
theorem qFJ {xs ys:Array Keyed} {i j:Nat} (h:xs[i]?=ys[j]?):gK xs i=gK ys j:=by unfold gK;rw[h]
theorem qJD {xs:Array Keyed} {a d:Nat} (g:a<xs.size)(f:d<=a)(k:Nat):
  gK (bubble xs a d) k=if k=a-d then gK xs a else if a-d<k/\k<=a then gK xs (k-1) else gK xs k:=by
 have e:=getElem?_bubble g d f k;by_cases c:k=a-d
 ·rw[if_pos c] at e ⊢;exact qFJ e
 ·rw[if_neg c] at e ⊢;by_cases b:a-d<k/\k<=a
  ·rw[if_pos b] at e ⊢;exact qFJ e
  ·rw[if_neg b] at e ⊢;exact qFJ e
theorem qGQ {xs:Array Keyed} {i j:Nat} (b:j<=xs.size)(k:Nat):
  gK (mirror xs i j ((j-i)/2)) k=if i<=k/\k<j then gK xs (i+j-1-k) else gK xs k:=by
 have e:=getElem?_mirror_all (i:=i) b k;by_cases a:i<=k/\k<j
 ·rw[if_pos a] at e ⊢;exact qFJ e
 ·rw[if_neg a] at e ⊢;exact qFJ e
theorem qB4 {xs:Array Keyed} {i j:Nat} (c:j<=xs.size)(a:∀k,i<=k->k<j->gK xs k=gK xs (j-1))(k:Nat):
  gK (mirror xs i j ((j-i)/2)) k=gK xs k:=by
 rw[qGQ c]
 split
 ·rw[a _ (by omega) (by omega),a k (by omega) (by omega)]
 ·rfl
noncomputable def qYA:Bool->Keyed->Array Keyed->Nat->Nat->Nat->gSM (Option Nat):=sortPriv% PySem.Builtin.gallop
noncomputable def gbey (left:Bool)(key:Keyed)(arr:Array Keyed)(base i:Nat):gSM (Option Bool):=do
 let x <- elem' arr (base+i)
 if left=true then lt' x key else do
  let r <- lt' key x
  pure (r.map λb=>!b)
section
variable{prog:B79}{w:World}{A:Around}{E:Aa1}{s:Shared}{κ0:C13}[LtOk prog w A s κ0]
theorem qGN {st:SortSt} {x y:Keyed} {Q:Option Bool->SortSt->Prop} (a:kindOf st=κ0)(c:gIK x)(b:gIK y)(h:Q (some (decide (gkv x<gkv y))) st):wpS (model prog w) A E s (lt' x y) Q st:=by
 rw[lt'_eq];refine B78 (C24 ?_);rw[a];refine B78 (wpS_lift (C19 (LtOk.lt c b ⟨rfl,?_⟩)));exact B80 h
theorem qBA {st:SortSt} {a:Array Keyed} {i:Nat} {x:Keyed} {Q:Keyed->SortSt->Prop} (h:a[i]?=some x)(b:Q x st):wpS (model prog w) A E s (elem' a i) Q st:=by
 rw[elem'_eq,h];exact B80 b
noncomputable def qAQ (left:Bool)(key:Keyed)(a:Array Keyed)(base i:Nat):Bool:=match a[base+i]? with
 |some x=>if left=true then decide (gkv x<gkv key) else decide (gkv x<=gkv key)
 |none=>false
theorem qGO {st:SortSt} {left:Bool} {b:Keyed} {a:Array Keyed} {base i:Nat} {Q:Option Bool->SortSt->Prop} (f:kindOf st=κ0)(c:gIK b)(g:∀x∈a.toList,gIK x)(hi:base+i<a.size)(h:Q (some (qAQ left b a base i)) st):
  wpS (model prog w) A E s (gbey left b a base i) Q st:=by
 unfold gbey;have e:a[base+i]?=some (a[base+i]'hi):=C3 hi;have d:gIK (a[base+i]'hi):=g _ (by simp)
 unfold qAQ at h;rw[e] at h;refine B78 (qBA e ?_);cases left with
 |true=>exact qGN f d c h
 |false=>
  refine B78 (qGN f c d ?_);refine B80 ?_;have:(!decide (gkv b<gkv a[base+i]))=decide (gkv a[base+i]<=gkv b):=by
   by_cases q:gkv b<gkv a[base+i]
   ·rw[decide_eq_true q,decide_eq_false (by omega)];rfl
   ·rw[decide_eq_false q,decide_eq_true (by omega)];rfl
  show Q (some (!decide (gkv b<gkv a[base+i]))) st;rw[this];exact h
theorem qFH {st:SortSt} {left:Bool} {b:Keyed} {a:Array Keyed} {base n hint:Nat} {Q:Option Nat->SortSt->Prop} (hk:kindOf st=κ0)(t:gIK b)(ha:∀x∈a.toList,gIK x)(hn:base+n<=a.size)(hh:hint<n)
  (p:∀i j,i<=j->j<n->qAQ left b a base j=true->qAQ left b a base i=true)
  (h:∀k,k<=n->(∀i,i<k->qAQ left b a base i=true)->(∀i,k<=i->i<n->qAQ left b a base i=false)->Q (some k) st):
  wpS (model prog w) A E s (qYA left b a base n hint) Q st:=by
 have m:∀i j,i<=j->j<n->qAQ left b a base i=false->qAQ left b a base j=false:=λi j a0 hj e=>by
  cases q:qAQ left b a base j with
  |false=>rfl
  |true=>rw[p i j a0 hj q] at e;cases e
 unfold qYA;show wpS _ _ _ _ (gbey left b a base hint >>= _) _ _;refine B78 (qGO hk t ha (by omega) ?_)
 dsimp only;cases e:qAQ left b a base hint with
 |true=>
  rw [if_pos rfl];refine B78 (C07 (B93 (I:=fun x c f=>f=st/\∃ l o,c=(none,l,o)/\l<o/\x+1<=o/\hint+l<n/\qAQ left b a base (hint+l)=true)
   (Q:=λc f=>f=st/\∃l o,c=(none,l,o)/\l<o/\hint+l<n/\qAQ left b a base (hint+l)=true/\(o>=n-hint\/qAQ left b a base (hint+o)=false)) ?step ?fin ⟨rfl,0,1,rfl,by omega,by omega,by omega,e⟩) ?post)
  case fin=>
   rintro c f ⟨rfl,l,o,rfl,h1,h2,h3,h4⟩;exact⟨rfl,l,o,rfl,h1,h3,h4,.inl (by omega)⟩
  case step=>
   rintro x c f _ hx ⟨rfl,l,o,rfl,h1,h2,h3,h4⟩;dsimp only;by_cases g:o>=n-hint
   ·rw[if_pos g];exact B80 ⟨rfl,l,o,rfl,h1,h3,h4,.inl g⟩
   ·rw[if_neg g];show wpS _ _ _ _ (gbey left b a base (hint+o) >>= _) _ _;refine B78 (qGO hk t ha (by omega) ?_)
    dsimp only;cases e2:qAQ left b a base (hint+o) with
    |false=>
     rw[if_pos (by rfl)]
     exact B80 ⟨rfl,l,o,rfl,h1,h3,h4,.inr e2⟩
    |true=>
     rw[if_neg (by simp)]
     exact B80 ⟨rfl,o,2*o+1,rfl,by omega,by omega,by omega,e2⟩
  case post=>
   rintro c f ⟨rfl,l,o,rfl,h1,h3,h4,h5⟩;dsimp only;have y:∀i,i<hint+l+1->qAQ left b a base i=true:=λi v=>p i (hint+l) (by omega) h3 h4
   have z:∀i,hint+min o (n-hint)<=i->i<n->qAQ left b a base i=false:=λi v u=>by
    rcases h5 with h5|h5
    ·omega
    ·exact m (hint+o) i (by omega) u h5
   refine B78 (C07 (B93 (I:=fun x c d=>d=f/\∃ l r,c=(none,l,r)/\l<=r/\r<=n/\r - l<=n - x/\(∀ i,i<l->qAQ left b a base i=true)/\∀ i,r<=i->i<n->qAQ left b a base i=false)
    (Q:=λc d=>d=f/\∃l,c=(none,l,l)/\l<=n/\(∀i,i<l->qAQ left b a base i=true)/\∀i,l<=i->i<n->qAQ left b a base i=false) ?bstep ?bfin ⟨rfl,hint+l+1,hint+min o (n-hint),rfl,by omega,by omega,by omega,y,z⟩) ?bpost)
   case bfin=>
    rintro c d ⟨rfl,l,r,rfl,h1,h2,h3,h4,h5⟩;have:l=r:=by omega
    subst this;exact⟨rfl,l,rfl,h2,h4,h5⟩
   case bpost=>
    rintro c d ⟨rfl,l,rfl,h1,h2,h3⟩;exact B80 (h l h1 h2 h3)
   case bstep=>
    rintro x c d _ hx ⟨rfl,l,r,rfl,h1,h2,h3,h4,h5⟩;dsimp only;by_cases g:l>=r
    ·rw[if_pos g];have:l=r:=by omega
     subst this;exact B80 ⟨rfl,l,rfl,h2,h4,h5⟩
    ·rw[if_neg g];show wpS _ _ _ _ (gbey left b a base (l+(r-l)/2) >>= _) _ _;refine B78 (qGO hk t ha (by omega) ?_)
     dsimp only;cases e9:qAQ left b a base (l+(r-l)/2) with
     |true=>
      rw[if_pos rfl];exact B80 ⟨rfl,_,_,rfl,by omega,h2,by omega,λi v=>p i _ (by omega) (by omega) e9,h5⟩
     |false=>
      rw[if_neg B4];exact B80 ⟨rfl,_,_,rfl,by omega,by omega,by omega,h4,λi v u=>m _ i v u e9⟩
 |false=>
  rw [if_neg B4];refine B78 (C07 (B93 (I:=fun x c f=>f=st/\∃ l o,c=(none,l,o)/\l<o/\x+1<=o/\l<=hint/\qAQ left b a base (hint - l)=false)
   (Q:=λc f=>f=st/\∃l o,c=(none,l,o)/\l<o/\l<=hint/\qAQ left b a base (hint-l)=false/\(o>=hint+1\/qAQ left b a base (hint-o)=true)) ?step ?fin ⟨rfl,0,1,rfl,by omega,by omega,by omega,e⟩) ?post)
  case fin=>
   rintro c f ⟨rfl,l,o,rfl,h1,h2,h3,h4⟩;exact⟨rfl,l,o,rfl,h1,h3,h4,.inl (by omega)⟩
  case step=>
   rintro x c f _ hx ⟨rfl,l,o,rfl,h1,h2,h3,h4⟩;dsimp only;by_cases g:o>=hint+1
   ·rw[if_pos g];exact B80 ⟨rfl,l,o,rfl,h1,h3,h4,.inl g⟩
   ·rw[if_neg g];show wpS _ _ _ _ (gbey left b a base (hint-o) >>= _) _ _;refine B78 (qGO hk t ha (by omega) ?_)
    dsimp only;cases e2:qAQ left b a base (hint-o) with
    |true=>
     rw[if_pos rfl];exact B80 ⟨rfl,l,o,rfl,h1,h3,h4,.inr e2⟩
    |false=>
     rw[if_neg B4];exact B80 ⟨rfl,o,2*o+1,rfl,by omega,by omega,by omega,e2⟩
  case post=>
   rintro c f ⟨rfl,l,o,rfl,h1,h3,h4,h5⟩;dsimp only;have y:∀i,i<hint+1-min o (hint+1)->qAQ left b a base i=true:=λi v=>by
    rcases h5 with h5|h5
    ·omega
    ·exact p i (hint-o) (by omega) (by omega) h5
   have z:∀ i,hint - l<=i->i<n->qAQ left b a base i=false:=fun i v u=>m (hint - l) i v u h4;refine B78 (C07 (B93 (I:=fun x c d=>d=f/\∃ l r,c=(none,l,r)/\l<=r/\r<=n/\r - l<=n - x/\(∀ i,i<l->qAQ left b a base i=true)/\∀ i,r<=i->i<n->qAQ left b a base i=false)
    (Q:=λc d=>d=f/\∃l,c=(none,l,l)/\l<=n/\(∀i,i<l->qAQ left b a base i=true)/\∀i,l<=i->i<n->qAQ left b a base i=false) ?bstep ?bfin ⟨rfl,hint+1-min o (hint+1),hint-l,rfl,by omega,by omega,by omega,y,z⟩) ?bpost)
   case bfin=>
    rintro c d ⟨rfl,l,r,rfl,h1,h2,h3,h4,h5⟩;have:l=r:=by omega
    subst this;exact⟨rfl,l,rfl,h2,h4,h5⟩
   case bpost=>
    rintro c d ⟨rfl,l,rfl,h1,h2,h3⟩;exact B80 (h l h1 h2 h3)
   case bstep=>
    rintro x c d _ hx ⟨rfl,l,r,rfl,h1,h2,h3,h4,h5⟩;dsimp only;by_cases g:l>=r
    ·rw[if_pos g];have:l=r:=by omega
     subst this;exact B80 ⟨rfl,l,rfl,h2,h4,h5⟩
    ·rw[if_neg g];show wpS _ _ _ _ (gbey left b a base (l+(r-l)/2) >>= _) _ _;refine B78 (qGO hk t ha (by omega) ?_)
     dsimp only;cases e9:qAQ left b a base (l+(r-l)/2) with
     |true=>
      rw[if_pos rfl];exact B80 ⟨rfl,_,_,rfl,by omega,h2,by omega,λi v=>p i _ (by omega) (by omega) e9,h5⟩
     |false=>
      rw[if_neg B4];exact B80 ⟨rfl,_,_,rfl,by omega,by omega,by omega,h4,λi v u=>m _ i v u e9⟩
end
end L2.G
namespace L2.G
open PySem PyProof.Rows
variable[NM]
structure gMR (R:Keyed->Keyed->Prop)(all out ra rb:List Keyed):Prop where
 perm:(out++(ra++rb)).Perm all
 up:out.Pairwise R
 ua:ra.Pairwise R
 ub:rb.Pairwise R
 la:∀x∈out,∀y∈ra,R x y
 lb:∀x∈out,∀y∈rb,R x y
section
variable{R:Keyed->Keyed->Prop}{all out ra rb xs:List Keyed}
theorem gMR.symm (h:gMR R all out ra rb):gMR R all out rb ra:=⟨((List.Perm.refl out).append (A49)).trans h.perm,h.up,h.ub,h.ua,h.lb,h.la⟩
theorem gMR.takeA (h:gMR R all out (xs++ra) rb)(c:∀x∈xs,∀y∈rb,R x y):gMR R all (out++xs) ra rb:=by
 have ua:=Q6.mp h.ua;refine⟨?_,Q6.mpr ⟨h.up,ua.1,λx hx y a=>h.la x hx y (B0.mpr (.inl a))⟩,ua.2.1,h.ub,λx hx y a=>?_,λx hx y a=>?_⟩
 ·have e:out++xs++(ra++rb)=out++((xs++ra)++rb):=by simp[M7]
  rw[e];exact h.perm
 ·rcases B0.mp hx with hx|hx
  ·exact h.la x hx y (B0.mpr (.inr a))
  ·exact ua.2.2 x hx y a
 ·rcases B0.mp hx with hx|hx
  ·exact h.lb x hx y a
  ·exact c x hx y a
theorem gMR.takeB (h:gMR R all out ra (xs++rb))(c:∀x∈xs,∀y∈ra,R x y):gMR R all (out++xs) ra rb:=(gMR.takeA h.symm c).symm
theorem gMR.allA (h:gMR R all out ra []):(out++ra).Perm all/\(out++ra).Pairwise R:=by
 have a:gMR R all out (ra++[]) []:=by rw[P3];exact h
 have q:=a.takeA λ_ _ _ z=>nomatch z;exact⟨by have:=q.perm;simpa using this,q.up⟩
theorem gMR.allB (h:gMR R all out [] rb):(out++rb).Perm all/\(out++rb).Pairwise R:=h.symm.allA
theorem gMR.lastA {z:Keyed} (h:gMR R all out [z] rb)(c:∀y∈rb,R y z):(out++rb++[z]).Perm all/\(out++rb++[z]).Pairwise R:=by
 have a:gMR R all out [z] (rb++[]):=by rw[P3];exact h
 exact(a.takeB λx d y b=>by rw[A7.mp b];exact c x d).allA
end
abbrev grUp (x y:Keyed):Prop:=gkv x<=gkv y
abbrev grDn (x y:Keyed):Prop:=gkv y<=gkv x
def gRes (all r:List Keyed):Prop:=r.Perm all/\r.Pairwise grUp
def gSE (st st':SortSt):Prop:=kindOf st'=kindOf st/\arrOf st'=arrOf st/\B81 st'=B81 st/\failedOf st'=failedOf st
theorem gSE.refl (st:SortSt):gSE st st:=⟨rfl,rfl,rfl,rfl⟩
def gmLo:Array Keyed->Array Keyed->gSM (Array Keyed):=sortPriv% PySem.Builtin.mergeLo
def gmHi:Array Keyed->Array Keyed->gSM (Array Keyed):=sortPriv% PySem.Builtin.mergeHi
theorem qD8 {l:List Keyed} {i:Nat} {x:Keyed} (h:l[i]?=some x):l.drop i=[x]++l.drop (i+1):=by
 obtain⟨a,e⟩:=A5.mp h;rw[Q1 a,e]
 rfl
theorem qC2 {a:Array Keyed} {i:Nat} (h:i<a.size):∃x,a[i]?=some x/\a.toList[i]?=some x/\x∈a.toList:=⟨a[i],C3 h,by simp[h],by simp⟩
theorem qAV (a:Array Keyed)(i j:Nat):(a.extract i j).toList=(a.toList.drop i).take (j-i):=by simp
theorem qFZ {l:List Keyed} {i k:Nat} :l.drop i=(l.drop i).take k++l.drop (i+k):=by
 rw[<- A09,l8]
theorem qE8 {left:Bool} {b:Keyed} {a:Array Keyed} {base n:Nat} (k:base+n<=a.size)(u:(a.toList.drop base).Pairwise grUp):∀i j,i<=j->j<n->qAQ left b a base j=true->qAQ left b a base i=true:=by
 intro i j h m e;by_cases c:i=j
 ·subst c;exact e
 have g:base+j<a.size:=by omega
 have d:base+i<a.size:=by omega
 have l:gkv a[base+i]<=gkv a[base+j]:=by
  have:=G3.mp u i j (by simp;omega) (by simp;omega) (by omega)
  simpa using this
 unfold qAQ at e ⊢;rw[C3 g] at e;rw[C3 d];cases left with
 |true=>
  have f:decide (gkv a[base+j]<gkv b)=true:=e;show decide (gkv a[base+i]<gkv b)=true;have:=of_decide_eq_true f;exact decide_eq_true (by omega)
 |false=>
  have f:decide (gkv a[base+j]<=gkv b)=true:=e;show decide (gkv a[base+i]<=gkv b)=true;have:=of_decide_eq_true f;exact decide_eq_true (by omega)
theorem qNN {b:Keyed} {a:Array Keyed} {base n k:Nat} (j:k<=n)(g:base+n<=a.size)(h:∀i,i<k->qAQ true b a base i=true):∀x∈(a.toList.drop base).take k,gkv x<gkv b:=by
 intro x d;obtain⟨i,f,rfl⟩:=L6 d;simp only[C5,G0,C0] at f;have e:=h i (by omega)
 unfold qAQ at e;rw[C3 (show base+i<a.size by omega)] at e
 have c:decide (gkv a[base+i]<gkv b)=true:=e;simpa using of_decide_eq_true c
theorem qNO {b:Keyed} {a:Array Keyed} {base n k:Nat} (j:k<=n)(g:base+n<=a.size)(h:∀i,i<k->qAQ false b a base i=true):∀x∈(a.toList.drop base).take k,gkv x<=gkv b:=by
 intro x d;obtain⟨i,f,rfl⟩:=L6 d;simp only[C5,G0,C0] at f;have e:=h i (by omega)
 unfold qAQ at e;rw[C3 (show base+i<a.size by omega)] at e
 have c:decide (gkv a[base+i]<=gkv b)=true:=e;simpa using of_decide_eq_true c
theorem qKU {b:Keyed} {a:Array Keyed} {base n k:Nat} (g:base+n<=a.size)(h:∀i,k<=i->i<n->qAQ true b a base i=false):∀x∈((a.toList.drop base).take n).drop k,gkv b<=gkv x:=by
 intro x d;obtain⟨i,f,rfl⟩:=L6 d;simp only[C5,G0,C0] at f;have e:=h (k+i) (by omega) (by omega)
 unfold qAQ at e;rw[C3 (show base+(k+i)<a.size by omega)] at e
 have c:decide (gkv a[base+(k+i)]<gkv b)=false:=e;have:=of_decide_eq_false c;simp only[A19,A20,A64];omega
theorem qKT {b:Keyed} {a:Array Keyed} {base n k:Nat} (g:base+n<=a.size)(h:∀i,k<=i->i<n->qAQ false b a base i=false):∀x∈((a.toList.drop base).take n).drop k,gkv b<gkv x:=by
 intro x d;obtain⟨i,f,rfl⟩:=L6 d;simp only[C5,G0,C0] at f;have e:=h (k+i) (by omega) (by omega)
 unfold qAQ at e;rw[C3 (show base+(k+i)<a.size by omega)] at e
 have c:decide (gkv a[base+(k+i)]<=gkv b)=false:=e;have:=of_decide_eq_false c;simp only[A19,A20,A64];omega
end L2.G
namespace L2.G
open PySem PyProof.Rows
variable[NM]
theorem gifT {α:Type} {c:Prop} [Decidable c]{x y:gSM α}{Q:α->SortSt->Prop}{st:SortSt}(h:c)(k:wpS (model prog w) A E s x Q st):wpS (model prog w) A E s (if c then x else y) Q st:=by rw[if_pos h];exact k
theorem gifF {α:Type} {c:Prop} [Decidable c]{x y:gSM α}{Q:α->SortSt->Prop}{st:SortSt}(h:¬c)(k:wpS (model prog w) A E s y Q st):wpS (model prog w) A E s (if c then x else y) Q st:=by rw[if_neg h];exact k
theorem gtwo {α:Type} {A:Prop} {M G:α->Prop} (a:(∀o,M o->G o)->A)(b:∀o,M o->G o):A:=a b
section
variable{prog:B79}{w:World}{A:Around}{E:Aa1}{s:Shared}{κ0:C13}[LtOk prog w A s κ0]
theorem qY4 {st:SortSt} {a b:Array Keyed} {Q:Array Keyed->SortSt->Prop} (hk:kindOf st=κ0)(ka:∀x∈a.toList,gIK x)(kb:∀x∈b.toList,gIK x)(ua:a.toList.Pairwise grUp)(ub:b.toList.Pairwise grUp)(na:0<a.size)(nb:0<b.size)
  (first:∀y,b.toList[0]?=some y->∀x∈a.toList,gkv y<=gkv x) (a9:∀z,a.toList[a.size-1]?=some z->∀y∈b.toList,gkv y<=gkv z)
  (h:∀r st',gSE st st'->gRes (a.toList++b.toList) r.toList->Q r st'):wpS (model prog w) A E s (gmLo a b) Q st:=by
 have tl:(a.toList++b.toList).length=a.size+b.size:=by simp
 -- ways out
 have v:∀(out:Array Keyed) (ia:Nat),gMR grUp (a.toList++b.toList) out.toList (a.toList.drop ia) (b.toList.drop b.size)->gRes (a.toList++b.toList) (out++a.extract ia a.size++b.extract b.size b.size).toList:=by
  intro out ia m;have e:b.toList.drop b.size=[]:=d8 (by simp)
  rw[e] at m;have q:=m.allA;have e2:(out++a.extract ia a.size++b.extract b.size b.size).toList=out.toList++a.toList.drop ia:=by
   rw[E3,E3,qAV,qAV,e,B60,P3,C6 (by simp)]
  rw[e2];exact q
 have a7:∀(out:Array Keyed) (ib:Nat),gMR grUp (a.toList++b.toList) out.toList (a.toList.drop a.size) (b.toList.drop ib)->gRes (a.toList++b.toList) (out++a.extract a.size a.size++b.extract ib b.size).toList:=by
  intro out ib m;have e:a.toList.drop a.size=[]:=d8 (by simp)
  rw[e] at m;have q:=m.allB;have e2:(out++a.extract a.size a.size++b.extract ib b.size).toList=out.toList++b.toList.drop ib:=by
   rw[E3,E3,qAV,qAV,e,B60,P3,C6 (by simp)]
  rw[e2];exact q
 have t:∀(out:Array Keyed) (ia ib:Nat),ia+1=a.size->gMR grUp (a.toList++b.toList) out.toList (a.toList.drop ia) (b.toList.drop ib)->gRes (a.toList++b.toList) (out++b.extract ib b.size++a.extract ia a.size).toList:=by
  intro out ia ib ak m;obtain⟨z,_,hz,_⟩:=qC2 (a:=a) (i:=ia) (by lia)
  have e:a.toList.drop ia=[z]:=by rw[qD8 hz,d8 (by simp;lia)];rfl
  rw[e] at m;have q:=m.lastA λy hy=>a9 z (by rw[show a.size-1=ia by lia];exact hz) y (U6 hy)
  have e2:(out++b.extract ib b.size++a.extract ia a.size).toList=out.toList++b.toList.drop ib++[z]:=by
   rw[E3,E3,qAV,qAV,e,C6 (by simp),C6 (by simp;lia)]
  rw[e2];exact q
 -- the first of b
 obtain⟨y0,ah,a4,_⟩:=qC2 (a:=b) (i:=0) nb;have m0:gMR grUp (a.toList++b.toList) #[y0].toList (a.toList.drop 0) (b.toList.drop 1):=by
  have m:gMR grUp (a.toList++b.toList) [] a.toList ([y0]++b.toList.drop 1):=by
   rw[<- qD8 a4];exact⟨.refl _,.nil,ua,ub,(λ_ z=>nomatch z),(λ_ z=>nomatch z)⟩
  exact m.takeB λx f y hy=>by rw[A7.mp f];exact first y0 a4 y hy
 -- a step of b,a step of a
 have a2:∀{out:Array Keyed} {ia ib:Nat} {y:Keyed},gMR grUp (a.toList++b.toList) out.toList (a.toList.drop ia) (b.toList.drop ib)->b.toList[ib]?=some y->(∀x∈a.toList.drop ia,gkv y<=gkv x)->gMR grUp (a.toList++b.toList) (out.push y).toList (a.toList.drop ia) (b.toList.drop (ib+1)):=by
  intro out ia ib y m hy c;rw[qD8 hy] at m;rw[V3];exact m.takeB λx f z hz=>by rw[A7.mp f];exact c z hz
 have a1:∀{out:Array Keyed} {ia ib:Nat} {x:Keyed},gMR grUp (a.toList++b.toList) out.toList (a.toList.drop ia) (b.toList.drop ib)->a.toList[ia]?=some x->(∀y∈b.toList.drop ib,gkv x<=gkv y)->gMR grUp (a.toList++b.toList) (out.push x).toList (a.toList.drop (ia+1)) (b.toList.drop ib):=by
  intro out ia ib x m f c;rw[qD8 f] at m;rw[V3];exact m.takeA λz hz y hy=>by rw[A7.mp hz];exact c y hy
 have d:∀{l:List Keyed} {i:Nat} {x:Keyed},l.Pairwise grUp->l[i]?=some x->∀y∈l.drop i,gkv x<=gkv y:=by
  intro l i x u f y hy;have u':=u.sublist (V4 i l);rw[qD8 f] at u' hy;rcases B0.mp hy with hy|hy
  ·rw[A7.mp hy];exact O6 _
  ·exact(Q6.mp u').2.2 x (by simp) y hy
 have aj:∀{out:Array Keyed} {ia ib:Nat},gMR grUp (a.toList++b.toList) out.toList (a.toList.drop ia) (b.toList.drop ib)->ia<a.size->ib<b.size->ia+ib<a.size+b.size:=λ_ _ _=>by lia
 unfold gmLo;show wpS _ _ _ _ (liftM (rule "list.sort.merge-lo") >>= _) _ _;refine B78 (wpS_lift (C03 ⟨rfl,?_⟩));refine B78 (qBA ah ?_);dsimp only;by_cases a6:b.size=1
 ·refine gifT (by simp[a6]) ?_
  refine B80 (h _ _ (.refl st) ?_);have:=v #[y0] 0 (by rw[a6];exact m0)
  rw[a6] at this ⊢;exact this
 refine gifF (by simp;lia) ?_
 by_cases af:a.size=1
 ·refine gifT (by simp[af]) ?_
  exact B80 (h _ _ (.refl st) (t #[y0] 0 1 (by lia) m0))
 refine gifF (by simp;lia) ?_
 refine B78 (C24 ?_);refine B78 (C07 (B93
  (I:=λx c st'=>gSE st st'/\∃(out:Array Keyed) (ia ib mg:Nat),c=(none,out,ia,ib,mg)/\gMR grUp (a.toList++b.toList) out.toList (a.toList.drop ia) (b.toList.drop ib)/\ia+1<a.size/\ib<b.size/\x+1<=ia+ib)
  (Q:=λc st'=>gSE st st'/\∃r rest,c=(some r,rest)/\gRes (a.toList++b.toList) r.toList) ?ostep ?ofin ⟨.refl st,_,0,1,_,rfl,m0,by lia,by lia,by lia⟩) ?opost)
 case opost=>
  rintro c st' ⟨se,r,rest,rfl,hr⟩;exact B80 (h r st' se hr)
 case ofin=>
  rintro c st' ⟨se,out,ia,ib,mg,rfl,m,h1,h2,h3⟩
  lia
 case ostep=>
  rintro x c st1 _ f ⟨se,out,ia,ib,mg,rfl,m,h1,h2,h3⟩;dsimp only;refine B78 (C07 (B93
   (I:=λy c st'=>gSE st st'/\∃(out:Array Keyed) (ia' ib' ac bc:Nat),c=(none,out,ia',ib',ac,bc)/\gMR grUp (a.toList++b.toList) out.toList (a.toList.drop ia') (b.toList.drop ib')/\ia'+1<a.size/\ib'<b.size/\ia+ib+y<=ia'+ib')
   (Q:=λc st'=>gSE st st'/\((∃r rest,c=(some r,rest)/\gRes (a.toList++b.toList) r.toList)\/∃(out:Array Keyed) (ia' ib' ac bc:Nat),c=(none,out,ia',ib',ac,bc)/\gMR grUp (a.toList++b.toList) out.toList (a.toList.drop ia') (b.toList.drop ib')/\ia'+1<a.size/\ib'<b.size/\ia+ib+1<=ia'+ib')) ?istep ?ifin ⟨se,out,ia,ib,0,0,rfl,m,h1,h2,by lia⟩) ?ipost)
  case ifin=>
   rintro c st' ⟨se,out,ia',ib',ac,bc,rfl,m,g1,g2,g3⟩
   lia
  case istep=>
   rintro y c st' _ hy ⟨se,out,ia',ib',ac,bc,rfl,m,g1,g2,g3⟩;dsimp only;obtain⟨yb,e1,a0,mb⟩:=qC2 (a:=b) (i:=ib') g2;obtain⟨xa,e2,a3,ma⟩:=qC2 (a:=a) (i:=ia') (by lia)
   have ae:kindOf st'=κ0:=se.1.trans hk;refine B78 (qBA e1 (B78 (qBA e2 (B78 (qGN ae (kb _ mb) (ka _ ma) ?_)))));dsimp only;by_cases hw:gkv yb<gkv xa
   ·rw[decide_eq_true hw,if_pos rfl];refine B78 (qBA e1 ?_);have m':=a2 m a0 λx f=>by have:=d ua a3 x f;lia
    by_cases j:ib'+1=b.size
    ·refine gifT (by simp[j]) ?_
     refine B80 ⟨se,.inl ⟨_,_,rfl,?_⟩⟩;rw[j] at m' ⊢;exact v _ _ m'
    ·refine gifF (by simp;exact j) ?_
     split
     ·exact B80 ⟨se,.inr ⟨_,_,_,_,_,rfl,m',g1,by lia,by lia⟩⟩
     ·exact B80 ⟨se,_,_,_,_,_,rfl,m',g1,by lia,by lia⟩
   ·rw[decide_eq_false hw,if_neg B4];refine B78 (qBA e2 ?_);have m':=a1 m a3 λy hy=>by have:=d ub a0 y hy;lia
    by_cases g:ia'+1+1=a.size
    ·refine gifT (by simp[g]) ?_
     exact B80 ⟨se,.inl ⟨_,_,rfl,t _ _ _ g m'⟩⟩
    ·refine gifF (by simp;exact g) ?_
     split
     ·exact B80 ⟨se,.inr ⟨_,_,_,_,_,rfl,m',by lia,g2,by lia⟩⟩
     ·exact B80 ⟨se,_,_,_,_,_,rfl,m',by lia,g2,by lia⟩
  case ipost=>
   rintro c st2 ⟨se,⟨r,rest,rfl,hr⟩|⟨out,ia1,ib1,ac,bc,rfl,m,g1,g2,g3⟩⟩
   ·exact B80 ⟨se,r,_,rfl,hr⟩
   dsimp only;refine B78 (wpS_lift (C03 ⟨rfl,?_⟩));refine B78 (C07 (B93
    (I:=λy c st'=>gSE st st'/\∃(out:Array Keyed) (ia' ib' mg ac bc:Nat),c=(none,out,ia',ib',mg,ac,bc)/\gMR grUp (a.toList++b.toList) out.toList (a.toList.drop ia') (b.toList.drop ib')/\ia'+1<a.size/\ib'<b.size/\ia1+ib1+y<=ia'+ib')
    (Q:=λc st'=>gSE st st'/\((∃r rest,c=(some r,rest)/\gRes (a.toList++b.toList) r.toList)\/∃(out:Array Keyed) (ia' ib' mg ac bc:Nat),c=(none,out,ia',ib',mg,ac,bc)/\gMR grUp (a.toList++b.toList) out.toList (a.toList.drop ia') (b.toList.drop ib')/\ia'+1<a.size/\ib'<b.size/\ia1+ib1<=ia'+ib')) ?gstep ?gfin ⟨se,out,ia1,ib1,_,ac,bc,rfl,m,g1,g2,by lia⟩) ?gpost)
   case gfin=>
    rintro c st' ⟨se,out,ia',ib',mg,ac,bc,rfl,m,q1,q2,q3⟩
    lia
   case gpost=>
    rintro c st3 ⟨se,⟨r,rest,rfl,hr⟩|⟨out,ia',ib',mg,ac,bc,rfl,m,q1,q2,q3⟩⟩
    ·exact B80 ⟨se,r,_,rfl,hr⟩
    dsimp only;refine B78 (B97 (B80 ?_));exact⟨⟨se.1,se.2.1,se.2.2.1,se.2.2.2⟩,out,ia',ib',_,rfl,m,q1,q2,by lia⟩
   case gstep=>
    rintro y c st0 _ hy ⟨se,out,ia',ib',mg,ac,bc,rfl,m,q1,q2,q3⟩;dsimp only;obtain⟨yb,e1,a0,mb⟩:=qC2 (a:=b) (i:=ib') q2;have hm:b.toList.drop ib'=[yb]++b.toList.drop (ib'+1):=qD8 a0;apply gtwo (α:=Nat) (M:=λ_=>True)
    ·intro J;by_cases aa:mg>1
     ·refine gifT aa ?_;refine B78 (B97 ?_);generalize mg-1=n;exact J n trivial
     ·refine gifF aa ?_;refine B78 (B97 ?_);generalize mg=n;exact J n trivial
    ·intro n _;have p:gSE st st0:=se;refine B78 (qBA e1 ?_);refine B78 (qFH (left:=false) (n:=a.size-ia') (hint:=0) (se.1.trans hk) (kb _ mb) ka (by lia) (by lia) (qE8 (by lia) (ua.sublist (V4 _ _))) λk k1 k2 k3=>?_)
     dsimp only;have ai:∀x∈a.toList.drop (ia'+k),gkv yb<=gkv x:=λx f=>by
      have q:=qKT (base:=ia') (n:=a.size-ia') (by lia) k3 x
      rw[C6 (by simp),A09] at q
      exact A01 (q f)
     apply gtwo (α:=Array Keyed) (M:=λo=>gMR grUp (a.toList++b.toList) o.toList (a.toList.drop (ia'+k)) (b.toList.drop ib')/\ia'+k+1<a.size)
     ·intro J;by_cases k0:k>0
      ·refine gifT k0 ?_;have mk:gMR grUp (a.toList++b.toList) (out++a.extract ia' (ia'+k)).toList (a.toList.drop (ia'+k)) (b.toList.drop ib'):=by
        rw[E3,qAV,show ia'+k-ia'=k by lia]
        rw[qFZ (l:=a.toList) (i:=ia') (k:=k)] at m;exact m.takeA λx f z hz=>by
         have q1:=qNO k1 (by lia) k2 x f
         have q2:=d ub a0 z hz;show gkv x<=gkv z
         lia
       by_cases c1:ia'+k+1=a.size
       ·refine gifT (by simp[c1]) ?_
        exact B80 ⟨p,.inl ⟨_,_,rfl,t _ _ _ c1 mk⟩⟩
       refine gifF (by simp;exact c1) ?_
       by_cases c2:ia'+k=a.size
       ·refine gifT (by simp[c2]) ?_
        refine B80 ⟨p,.inl ⟨_,_,rfl,?_⟩⟩;rw[c2] at mk ⊢;exact a7 _ _ mk
       refine gifF (by simp;exact c2) ?_
       generalize out++a.extract ia' (ia'+k)=o at mk ⊢;exact J o ⟨mk,by lia⟩
      ·refine gifF k0 ?_;have ad:k=0:=by lia
       subst ad;exact J out ⟨m,by lia⟩
     ·rintro o ⟨mk,kp⟩;refine B78 (qBA e1 ?_);have m1:=a2 mk a0 ai;by_cases j:ib'+1=b.size
      ·refine gifT (by simp[j]) ?_
       refine B80 ⟨p,.inl ⟨_,_,rfl,?_⟩⟩;rw[j] at m1 ⊢;exact v _ _ m1
      refine gifF (by simp;exact j) ?_
      obtain⟨xa,e2,a3,ma⟩:=qC2 (a:=a) (i:=ia'+k) (by lia)
      refine B78 (qBA e2 ?_);refine B78 (qFH (left:=true) (n:=b.size-(ib'+1)) (hint:=0) (se.1.trans hk) (ka _ ma) kb (by lia) (by lia) (qE8 (by lia) (ub.sublist (V4 _ _))) λk' j1 j2 j3=>?_)
      dsimp only;have ag:∀y∈b.toList.drop (ib'+1+k'),gkv xa<=gkv y:=λy hy=>by
       have q:=qKU (base:=ib'+1) (n:=b.size-(ib'+1)) (by lia) j3 y
       rw[C6 (by simp),A09] at q
       exact q hy
      generalize o.push yb=o1 at m1 ⊢;apply gtwo (α:=Array Keyed) (M:=λo=>gMR grUp (a.toList++b.toList) o.toList (a.toList.drop (ia'+k)) (b.toList.drop (ib'+1+k'))/\ib'+1+k'<b.size)
      ·intro J;by_cases ab:k'>0
       ·rw[if_pos ab];have m2:gMR grUp (a.toList++b.toList) (o1++b.extract (ib'+1) (ib'+1+k')).toList (a.toList.drop (ia'+k)) (b.toList.drop (ib'+1+k')):=by
         rw[E3,qAV,show ib'+1+k'-(ib'+1)=k' by lia]
         rw[qFZ (l:=b.toList) (i:=ib'+1) (k:=k')] at m1;exact m1.takeB λx f z hz=>by
          have q1:=qNN j1 (by lia) j2 x f
          have q2:=d ua a3 z hz;show gkv x<=gkv z
          lia
        by_cases a5:ib'+1+k'=b.size
        ·refine gifT (by simp[a5]) ?_
         refine B80 ⟨p,.inl ⟨_,_,rfl,?_⟩⟩;rw[a5] at m2 ⊢;exact v _ _ m2
        refine gifF (by simp;exact a5) ?_
        generalize o1++b.extract (ib'+1) (ib'+1+k')=o2 at m2 ⊢;exact J o2 ⟨m2,by lia⟩
       ·rw[if_neg ab];have a8:k'=0:=by lia
        subst a8;exact J o1 ⟨m1,by lia⟩
      ·rintro o2 ⟨m2,kp'⟩;refine B78 (qBA e2 ?_);have m3:=a1 m2 a3 ag;by_cases g:ia'+k+1+1=a.size
       ·refine gifT (by simp[g]) ?_
        exact B80 ⟨p,.inl ⟨_,_,rfl,t _ _ _ g m3⟩⟩
       refine gifF (by simp;exact g) ?_
       split
       ·exact B80 ⟨p,.inr ⟨_,_,_,_,_,_,rfl,m3,by lia,by lia,by lia⟩⟩
       ·exact B80 ⟨p,_,_,_,_,_,_,rfl,m3,by lia,by lia,by lia⟩
end
end L2.G
namespace L2.G
open PySem PyProof.Rows
variable[NM]
theorem qDG {l:List Keyed} {i:Nat} {x:Keyed} (b:0<i)(h:l[i-1]?=some x):(l.take i).reverse=[x]++(l.take (i-1)).reverse:=by
 obtain⟨j,rfl⟩:∃j,i=j+1:=⟨i-1,by lia⟩
 have a:l[j]?=some x:=h;rw[C9,a,D2,V9]
 rfl
theorem qJA {l:List Keyed} {i j:Nat} (h:i<=j):(l.take j).reverse=((l.drop i).take (j-i)).reverse++(l.take i).reverse:=by
 rw[<- V9];congr 1;have e:=B61 (l:=l) (i:=i) (j:=j-i);rw[show i+(j-i)=j by lia] at e
 exact e
section
variable{prog:B79}{w:World}{A:Around}{E:Aa1}{s:Shared}{κ0:C13}[LtOk prog w A s κ0]
theorem qY5 {st:SortSt} {a b:Array Keyed} {Q:Array Keyed->SortSt->Prop} (hk:kindOf st=κ0)(ka:∀x∈a.toList,gIK x)(kb:∀x∈b.toList,gIK x)(ua:a.toList.Pairwise grUp)(ub:b.toList.Pairwise grUp)(na:0<a.size)(nb:0<b.size)
  (first:∀y,b.toList[0]?=some y->∀x∈a.toList,gkv y<=gkv x) (af:∀z,a.toList[a.size-1]?=some z->∀y∈b.toList,gkv y<=gkv z)
  (h:∀r st',gSE st st'->gRes (a.toList++b.toList) r.toList->Q r st'):wpS (model prog w) A E s (gmHi a b) Q st:=by
 have a3:∀{l:List Keyed},l.Perm (a.toList++b.toList)/\l.Pairwise grDn->gRes (a.toList++b.toList) l.reverse:=λ{l} q=>⟨(A21 l).trans q.1,X8.mpr q.2⟩;have f:∀(out:Array Keyed) (nb':Nat),gMR grDn (a.toList++b.toList) out.toList (a.toList.take 0).reverse (b.toList.take nb').reverse->gRes (a.toList++b.toList) (a.extract 0 0++b.extract 0 nb'++out.reverse).toList:=by
  intro out nb' m;have q:=a3 (gMR.allB m);have v:(a.extract 0 0++b.extract 0 nb'++out.reverse).toList=(out.toList++(b.toList.take nb').reverse).reverse:=by
   rw[E3,E3,qAV,qAV,U7,V9,A65];simp
  rw[v];exact q
 have ah:∀(out:Array Keyed) (na':Nat),gMR grDn (a.toList++b.toList) out.toList (a.toList.take na').reverse (b.toList.take 0).reverse->gRes (a.toList++b.toList) (a.extract 0 na'++b.extract 0 0++out.reverse).toList:=by
  intro out na' m;have q:=a3 (gMR.allA m);have v:(a.extract 0 na'++b.extract 0 0++out.reverse).toList=(out.toList++(a.toList.take na').reverse).reverse:=by
   rw[E3,E3,qAV,qAV,U7,V9,A65];simp
  rw[v];exact q
 obtain⟨y0,ao,aa,_⟩:=qC2 (a:=b) (i:=0) nb;have g:∀(out:Array Keyed) (na':Nat),gMR grDn (a.toList++b.toList) out.toList (a.toList.take na').reverse (b.toList.take 1).reverse->gRes (a.toList++b.toList) (b.extract 0 1++a.extract 0 na'++out.reverse).toList:=by
  intro out na' m;have e:(b.toList.take 1).reverse=[y0]:=by rw[qDG (by decide) aa];simp
  rw[e] at m;have q:=a3 (m.symm.lastA λy hy=>first y0 aa y (Q7 (m6.mp hy)));have e1:b.toList.take 1=[y0]:=by have:=congrArg List.reverse e;simpa using this
  have v:(b.extract 0 1++a.extract 0 na'++out.reverse).toList=(out.toList++(a.toList.take na').reverse++[y0]).reverse:=by
   rw[E3,E3,qAV,qAV,U7];simp only[W6,l9,e1];simp
  rw[v];exact q
 obtain⟨z0,an,a9,_⟩:=qC2 (a:=a) (i:=a.size-1) (by lia)
 have m0:gMR grDn (a.toList++b.toList) #[z0].toList (a.toList.take (a.size-1)).reverse (b.toList.take b.size).reverse:=by
  have m:gMR grDn (a.toList++b.toList) [] ([z0]++(a.toList.take (a.size-1)).reverse) (b.toList.take b.size).reverse:=by
   rw[<- qDG na a9,C6 (by simp),C6 (by simp)]
   refine⟨?_,.nil,X8.mpr ua,X8.mpr ub,(λ_ z=>nomatch z),(λ_ z=>nomatch z)⟩;exact(A21 _).append (A21 _)
  exact m.takeA λx t y hy=>by rw[A7.mp t];exact af z0 a9 y (Q7 (m6.mp hy))
 have a6:∀{out:Array Keyed} {na' nb':Nat} {y:Keyed},gMR grDn (a.toList++b.toList) out.toList (a.toList.take na').reverse (b.toList.take nb').reverse->0<nb'->b.toList[nb'-1]?=some y->(∀x∈(a.toList.take na').reverse,gkv x<=gkv y)->gMR grDn (a.toList++b.toList) (out.push y).toList (a.toList.take na').reverse (b.toList.take (nb'-1)).reverse:=by
  intro out na' nb' y m h0 hy c;rw[qDG h0 hy] at m;rw[V3];exact m.takeB λx t z hz=>by rw[A7.mp t];exact c z hz
 have a1:∀{out:Array Keyed} {na' nb':Nat} {x:Keyed},gMR grDn (a.toList++b.toList) out.toList (a.toList.take na').reverse (b.toList.take nb').reverse->0<na'->a.toList[na'-1]?=some x->(∀y∈(b.toList.take nb').reverse,gkv y<=gkv x)->gMR grDn (a.toList++b.toList) (out.push x).toList (a.toList.take (na'-1)).reverse (b.toList.take nb').reverse:=by
  intro out na' nb' x m h0 t c;rw[qDG h0 t] at m;rw[V3];exact m.takeA λz hz y hy=>by rw[A7.mp hz];exact c y hy
 have p:∀{l:List Keyed} {i:Nat} {x:Keyed},l.Pairwise grUp->0<i->l[i-1]?=some x->∀y∈(l.take i).reverse,gkv y<=gkv x:=by
  intro l i x u h0 t y hy;have u':((l.take i).reverse).Pairwise grDn:=X8.mpr (u.sublist (Y1 i l));rw[qDG h0 t] at u' hy;rcases B0.mp hy with hy|hy
  ·rw[A7.mp hy];exact O6 _
  ·exact(Q6.mp u').2.2 x (by simp) y hy
 unfold gmHi;show wpS _ _ _ _ (liftM (rule "list.sort.merge-hi") >>= _) _ _;refine B78 (wpS_lift (C03 ⟨rfl,?_⟩));refine B78 (qBA an ?_);dsimp only;by_cases ae:a.size-1=0
 ·refine gifT (by simp[ae]) ?_
  refine B80 (h _ _ (.refl st) ?_);rw[ae] at m0 ⊢;exact f _ _ m0
 refine gifF (by simp;lia) ?_
 by_cases ab:b.size=1
 ·refine gifT (by simp[ab]) ?_
  refine B80 (h _ _ (.refl st) ?_);rw[ab] at m0 ⊢;exact g _ _ m0
 refine gifF (by simp;lia) ?_
 refine B78 (C24 ?_);refine B78 (C07 (B93
  (I:=λx c st'=>gSE st st'/\∃(na' nb':Nat) (out:Array Keyed) (mg:Nat),c=(none,na',nb',out,mg)/\gMR grDn (a.toList++b.toList) out.toList (a.toList.take na').reverse (b.toList.take nb').reverse/\(0<na'/\na'<=a.size)/\(1<nb'/\nb'<=b.size)/\na'+nb'+x+1<=a.size+b.size)
  (Q:=λc st'=>gSE st st'/\∃r rest,c=(some r,rest)/\gRes (a.toList++b.toList) r.toList) ?ostep ?ofin ⟨.refl st,_,_,_,_,rfl,m0,by lia,by lia,by lia⟩) ?opost)
 case opost=>
  rintro c st' ⟨se,r,rest,rfl,hr⟩;exact B80 (h r st' se hr)
 case ofin=>
  rintro c st' ⟨se,na',nb',out,mg,rfl,m,h1,h2,h3⟩
  lia
 case ostep=>
  rintro x c st1 _ t ⟨se,na1,nb1,out,mg,rfl,m,h1,h2,h3⟩;dsimp only;refine B78 (C07 (B93
   (I:=λy c st'=>gSE st st'/\∃(na' nb':Nat) (out:Array Keyed) (ac bc:Nat),c=(none,na',nb',out,ac,bc)/\gMR grDn (a.toList++b.toList) out.toList (a.toList.take na').reverse (b.toList.take nb').reverse/\(0<na'/\na'<=a.size)/\(1<nb'/\nb'<=b.size)/\na'+nb'+y<=na1+nb1)
   (Q:=λc st'=>gSE st st'/\((∃r rest,c=(some r,rest)/\gRes (a.toList++b.toList) r.toList)\/∃(na' nb':Nat) (out:Array Keyed) (ac bc:Nat),c=(none,na',nb',out,ac,bc)/\gMR grDn (a.toList++b.toList) out.toList (a.toList.take na').reverse (b.toList.take nb').reverse/\(0<na'/\na'<=a.size)/\(1<nb'/\nb'<=b.size)/\na'+nb'+1<=na1+nb1)) ?istep ?ifin ⟨se,na1,nb1,out,0,0,rfl,m,h1,h2,by lia⟩) ?ipost)
  case ifin=>
   rintro c st' ⟨se,na',nb',out,ac,bc,rfl,m,g1,g2,g3⟩
   lia
  case istep=>
   rintro y c st' _ hy ⟨se,na',nb',out,ac,bc,rfl,m,g1,g2,g3⟩;dsimp only;obtain⟨yb,e1,a8,mb⟩:=qC2 (a:=b) (i:=nb'-1) (by lia)
   obtain⟨xa,v,a7,ma⟩:=qC2 (a:=a) (i:=na'-1) (by lia)
   have al:kindOf st'=κ0:=se.1.trans hk;refine B78 (qBA e1 (B78 (qBA v (B78 (qGN al (kb _ mb) (ka _ ma) ?_)))));dsimp only;by_cases hw:gkv yb<gkv xa
   ·rw[decide_eq_true hw,if_pos rfl];refine B78 (qBA v ?_);have m':=a1 m (by lia) a7 λz hz=>by have:=p ub (by lia) a8 z hz;lia
    by_cases a0:na'-1=0
    ·refine gifT (by simp[a0]) ?_
     refine B80 ⟨se,.inl ⟨_,_,rfl,?_⟩⟩;rw[a0] at m' ⊢;exact f _ _ m'
    ·refine gifF (by simp;lia) ?_
     split
     ·exact B80 ⟨se,.inr ⟨_,_,_,_,_,rfl,m',by lia,by lia,by lia⟩⟩
     ·exact B80 ⟨se,_,_,_,_,_,rfl,m',by lia,by lia,by lia⟩
   ·rw[decide_eq_false hw,if_neg B4];refine B78 (qBA e1 ?_);have m':=a6 m (by lia) a8 λz hz=>by have:=p ua (by lia) a7 z hz;lia
    by_cases a4:nb'-1=1
    ·refine gifT (by simp[a4]) ?_
     refine B80 ⟨se,.inl ⟨_,_,rfl,?_⟩⟩;rw[a4] at m' ⊢;exact g _ _ m'
    ·refine gifF (by simp;lia) ?_
     split
     ·exact B80 ⟨se,.inr ⟨_,_,_,_,_,rfl,m',by lia,by lia,by lia⟩⟩
     ·exact B80 ⟨se,_,_,_,_,_,rfl,m',by lia,by lia,by lia⟩
  case ipost=>
   rintro c st2 ⟨se,⟨r,rest,rfl,hr⟩|⟨na2,nb2,out,ac,bc,rfl,m,g1,g2,g3⟩⟩
   ·exact B80 ⟨se,r,_,rfl,hr⟩
   dsimp only;refine B78 (wpS_lift (C03 ⟨rfl,?_⟩));refine B78 (C07 (B93
    (I:=λy c st'=>gSE st st'/\∃(na' nb':Nat) (out:Array Keyed) (mg ac bc:Nat),c=(none,na',nb',out,mg,ac,bc)/\gMR grDn (a.toList++b.toList) out.toList (a.toList.take na').reverse (b.toList.take nb').reverse/\(0<na'/\na'<=a.size)/\(1<nb'/\nb'<=b.size)/\na'+nb'+y<=na2+nb2)
    (Q:=λc st'=>gSE st st'/\((∃r rest,c=(some r,rest)/\gRes (a.toList++b.toList) r.toList)\/∃(na' nb':Nat) (out:Array Keyed) (mg ac bc:Nat),c=(none,na',nb',out,mg,ac,bc)/\gMR grDn (a.toList++b.toList) out.toList (a.toList.take na').reverse (b.toList.take nb').reverse/\(0<na'/\na'<=a.size)/\(1<nb'/\nb'<=b.size)/\na'+nb'<=na2+nb2)) ?gstep ?gfin ⟨se,na2,nb2,out,_,ac,bc,rfl,m,g1,g2,by lia⟩) ?gpost)
   case gfin=>
    rintro c st' ⟨se,na',nb',out,mg,ac,bc,rfl,m,q1,q2,q3⟩
    lia
   case gpost=>
    rintro c st3 ⟨se,⟨r,rest,rfl,hr⟩|⟨na',nb',out,mg,ac,bc,rfl,m,q1,q2,q3⟩⟩
    ·exact B80 ⟨se,r,_,rfl,hr⟩
    dsimp only;refine B78 (B97 (B80 ?_));exact⟨⟨se.1,se.2.1,se.2.2.1,se.2.2.2⟩,na',nb',out,_,rfl,m,q1,q2,by lia⟩
   case gstep=>
    rintro y c st0 _ hy ⟨se,na',nb',out,mg,ac,bc,rfl,m,q1,q2,q3⟩;dsimp only;obtain⟨yb,e1,a8,mb⟩:=qC2 (a:=b) (i:=nb'-1) (by lia)
    apply gtwo (α:=Nat) (M:=λ_=>True)
    ·intro J;by_cases ag:mg>1
     ·refine gifT ag ?_;refine B78 (B97 ?_);generalize mg-1=n;exact J n trivial
     ·refine gifF ag ?_;refine B78 (B97 ?_);generalize mg=n;exact J n trivial
    ·intro n _;have d:gSE st st0:=se;refine B78 (qBA e1 ?_);refine B78 (qFH (left:=false) (base:=0) (n:=na') (hint:=na'-1) (se.1.trans hk) (kb _ mb) ka (by lia) (by lia) (qE8 (by lia) ua) λk k1 k2 k3=>?_)
     dsimp only;have am:∀x∈(a.toList.take k).reverse,gkv x<=gkv yb:=λx t=>qNO (base:=0) k1 (by lia) k2 x (by simpa using t)
     apply gtwo (α:=Array Keyed) (M:=λo=>gMR grDn (a.toList++b.toList) o.toList (a.toList.take k).reverse (b.toList.take nb').reverse/\0<k)
     ·intro J;by_cases k0:na'-k>0
      ·refine gifT k0 ?_;have mk:gMR grDn (a.toList++b.toList) (out++(a.extract k na').reverse).toList (a.toList.take k).reverse (b.toList.take nb').reverse:=by
        rw[E3,U7,qAV];rw[qJA (l:=a.toList) (i:=k) (j:=na') (by lia)] at m
        exact m.takeA λx t z hz=>by
         have q1:=qKT (base:=0) (n:=na') (by lia) k3 x (by rw[W6,B45];exact m6.mp t)
         have q2:=p ub (by lia) a8 z hz
         show gkv z<=gkv x
         lia
       by_cases c1:k=0
       ·refine gifT (by simp[c1]) ?_
        refine B80 ⟨d,.inl ⟨_,_,rfl,?_⟩⟩;subst c1;exact f _ _ mk
       refine gifF (by simp;exact c1) ?_
       generalize out++(a.extract k na').reverse=o at mk ⊢;exact J o ⟨mk,by lia⟩
      ·refine gifF k0 ?_;have aj:k=na':=by lia
       subst aj;exact J out ⟨m,by lia⟩
     ·rintro o ⟨mk,kp⟩;refine B78 (qBA e1 ?_);have m1:=a6 mk (by lia) a8 am
      by_cases a4:nb'-1=1
      ·refine gifT (by simp[a4]) ?_
       refine B80 ⟨d,.inl ⟨_,_,rfl,?_⟩⟩;rw[a4] at m1 ⊢;exact g _ _ m1
      refine gifF (by simp;lia) ?_
      obtain⟨xa,v,a7,ma⟩:=qC2 (a:=a) (i:=k-1) (by lia)
      refine B78 (qBA v ?_);refine B78 (qFH (left:=true) (base:=0) (n:=nb'-1) (hint:=nb'-1-1) (se.1.trans hk) (ka _ ma) kb (by lia) (by lia) (qE8 (by lia) ub) λk' j1 j2 j3=>?_)
      dsimp only;have ak:∀y∈(b.toList.take k').reverse,gkv y<=gkv xa:=λy hy=>by
       have q:=qNN (base:=0) j1 (by lia) j2 y (by simpa using hy)
       lia
      generalize o.push yb=o1 at m1 ⊢;apply gtwo (α:=Array Keyed) (M:=λo=>gMR grDn (a.toList++b.toList) o.toList (a.toList.take k).reverse (b.toList.take k').reverse/\1<k')
      ·intro J;by_cases ai:nb'-1-k'>0
       ·rw[if_pos ai];have m2:gMR grDn (a.toList++b.toList) (o1++(b.extract k' (nb'-1)).reverse).toList (a.toList.take (k)).reverse (b.toList.take k').reverse:=by
         rw[E3,U7,qAV];rw[qJA (l:=b.toList) (i:=k') (j:=nb'-1) (by lia)] at m1
         exact m1.takeB λx t z hz=>by
          have q1:=qKU (base:=0) (n:=nb'-1) (by lia) j3 x (by rw[W6,B45];exact m6.mp t)
          have q2:=p ua (by lia) a7 z hz
          show gkv z<=gkv x
          lia
        by_cases a5:k'=1
        ·refine gifT (by simp[a5]) ?_
         refine B80 ⟨d,.inl ⟨_,_,rfl,?_⟩⟩;subst a5;exact g _ _ m2
        refine gifF (by simp;exact a5) ?_
        by_cases a2:k'=0
        ·refine gifT (by simp[a2]) ?_
         refine B80 ⟨d,.inl ⟨_,_,rfl,?_⟩⟩;subst a2;exact ah _ _ m2
        refine gifF (by simp;exact a2) ?_
        generalize o1++(b.extract k' (nb'-1)).reverse=o2 at m2 ⊢;exact J o2 ⟨m2,by lia⟩
       ·rw[if_neg ai];have ad:k'=nb'-1:=by lia
        subst ad;exact J o1 ⟨m1,by lia⟩
      ·rintro o2 ⟨m2,kp'⟩;refine B78 (qBA v ?_);have m3:=a1 m2 (by lia) a7 ak
       by_cases a0:k-1=0
       ·refine gifT (by simp[a0]) ?_
        refine B80 ⟨d,.inl ⟨_,_,rfl,?_⟩⟩;rw[a0] at m3 ⊢;exact f _ _ m3
       refine gifF (by simp;lia) ?_
       split
       ·exact B80 ⟨d,.inr ⟨_,_,_,_,_,_,rfl,m3,by lia,by lia,by lia⟩⟩
       ·exact B80 ⟨d,_,_,_,_,_,_,rfl,m3,by lia,by lia,by lia⟩
end
end L2.G
namespace L2.G
open PySem PyProof.Rows
variable[NM]
theorem qNM (b:Nat):∀(r:List Keyed) (k:Nat) (xs:Array Keyed),b+k+r.length<=xs.size->((r.zipIdx k).foldl (λa (p:Keyed×Nat)=>a.setIfInBounds (b+p.2) p.1) xs).toList=xs.toList.take (b+k)++r++xs.toList.drop (b+k+r.length)
 |[],k,xs,_=>by simp
 |p::r,k,xs,h=>by
  have hl:b+k<xs.toList.length:=by simp at h ⊢;lia
  rw[List.zipIdx_cons,V1,qNM b r (k+1) _ (by simp at h ⊢;lia)]
  simp only[y4,D3];have e1:(xs.toList.set (b+k) p).take (b+(k+1))=xs.toList.take (b+k)++[p]:=by
   rw[<- A28,C9,List.take_set_of_le (A6 _),W7 hl]
   rfl
  have e2:(xs.toList.set (b+k) p).drop (b+(k+1)+r.length)=xs.toList.drop (b+k+(r.length+1)):=by
   rw[List.drop_set_of_lt (by lia)]
   congr 1
   lia
  rw[e1,e2];simp
def gSeg (xs:Array Keyed)(lo hi:Nat):Prop:=∀i j,lo<=i->i<=j->j<hi->gK xs i<=gK xs j
theorem qVE {xs:Array Keyed} {i:Nat} (h:i<xs.size):gK xs i=gkv (xs[i]'h):=qaR h
theorem qJC {xs:Array Keyed} {i:Nat} {x:Keyed} (h:xs[i]?=some x):gK xs i=gkv x:=by
 unfold gK;rw[h]
 rfl
theorem qGP {left:Bool} {b:Keyed} {a:Array Keyed} {base i:Nat} (h:base+i<a.size):qAQ left b a base i=if left=true then decide (gK a (base+i)<gkv b) else decide (gK a (base+i)<=gkv b):=by
 unfold qAQ;rw[C3 h,qVE h]
theorem qHN {left:Bool} {b:Keyed} {a:Array Keyed} {base n:Nat} (d:base+n<=a.size)(u:gSeg a base (base+n)):∀i j,i<=j->j<n->qAQ left b a base j=true->qAQ left b a base i=true:=by
 intro i j c g e;have f:=u (base+i) (base+j) (by lia) (by lia) (by lia)
 rw[qGP (by lia)] at e ⊢
 cases left with
 |true=>
  have:=of_decide_eq_true e;exact decide_eq_true (by lia)
 |false=>
  have:=of_decide_eq_true e;exact decide_eq_true (by lia)
theorem qNJ {xs:Array Keyed} {lo hi:Nat} (h:hi<=xs.size)(u:gSeg xs lo hi):(xs.extract lo hi).toList.Pairwise grUp:=by
 rw[G3];intro i j a b d;have e:(xs.extract lo hi).size=hi-lo:=by simp;lia
 have c:i<hi-lo:=by simp at a;lia
 have f:j<hi-lo:=by simp at b;lia
 have:=u (lo+i) (lo+j) (by lia) (by lia) (by lia)
 rw[qVE (by lia),qVE (by lia)] at this
 simpa using this
theorem qFI {xs:Array Keyed} {lo hi:Nat} {x:Keyed} (m:x∈(xs.extract lo hi).toList):∃j,lo<=j/\j<hi/\j<xs.size/\gK xs j=gkv x:=by
 obtain⟨i,a,e⟩:=L6 m;have b:i<hi-lo/\i<xs.size-lo:=by simp at a;lia
 refine⟨lo+i,by lia,by lia,by lia,?_⟩
 rw[qVE (by lia),<- e]
 simp
theorem qVC {xs:Array Keyed} {lo hi i:Nat} {x:Keyed} (m:(xs.extract lo hi).toList[i]?=some x):gK xs (lo+i)=gkv x:=by
 obtain⟨a,e⟩:=A5.mp m;have b:i<hi-lo/\i<xs.size-lo:=by simp at a;lia
 rw[qVE (by lia),<- e]
 simp
theorem qcR {xs ys:Array Keyed} {b:Nat} {r:List Keyed} (e:ys.toList=xs.toList.take b++r++xs.toList.drop (b+r.length))(d:b+r.length<=xs.size)(j:Nat):
  (j<b\/b+r.length<=j->gK ys j=gK xs j)/\(b<=j->j<b+r.length->∃x,r[j-b]?=some x/\gK ys j=gkv x):=by
 have a:(xs.toList.take b).length=b:=by simp;lia
 constructor
 ·intro hj;apply qFJ;rw[<- F1,<- F1,e,M7];rcases hj with hj|hj
  ·rw[J2 (by lia),Z9 hj]
  ·rw[G1 (by lia),a,G1 (by lia),A02]
   congr 1
   lia
 ·intro c f;refine⟨r[j-b]'(by lia),A4 _,qJC ?_⟩
  rw[<- F1,e,M7,G1 (by lia),a,J2 (by lia)]
  exact A4 _
section
variable{prog:B79}{w:World}{A:Around}{E:Aa1}{s:Shared}{κ0:C13}[LtOk prog w A s κ0]
theorem qY3 {st a:SortSt} {Q:PUnit->SortSt->Prop} (h:Q ⟨⟩ a):wpS (model prog w) A E s (set a:StateT SortSt Sem PUnit) Q st:=by
 unfold wpS;rw[StateT.run_set];exact B76 ⟨rfl,h⟩
structure gSG (κ0:C13)(a₀:Array Keyed)(st:SortSt):Prop where
 perm:(arrOf st).Perm a₀
 kind:kindOf st=κ0
 failed:failedOf st=none
theorem gSG.size {a₀:Array Keyed} {st:SortSt} (h:gSG κ0 a₀ st):(arrOf st).size=a₀.size:=h.perm.size_eq
theorem gSG.ik {a₀:Array Keyed} {st:SortSt} (h:gSG κ0 a₀ st)(a:qC4 a₀):∀x∈(arrOf st).toList,gIK x:=λx b=>a x ((Y6.mp h.perm).mem_iff.mp b)
theorem qY6 {a₀:Array Keyed} {st:SortSt} {i b d p t q:Nat} {o u:List (Nat×Nat×Nat)} {Q:Bool->SortSt->Prop} (h0:qC4 a₀)(g:gSG κ0 a₀ st)
  (hp:(B81 st).toList=o++(b,d,p)::(b+d,t,q)::u) (hi:i=o.length) (ab:0<d) (ag:0<t) (hsz:b+d+t<=a₀.size)
  (ua:gSeg (arrOf st) b (b+d)) (ub:gSeg (arrOf st) (b+d) (b+d+t))
  (h:∀st',gSG κ0 a₀ st'->(B81 st').toList=o++(b,d+t,p)::u->gSeg (arrOf st') b (b+d+t)->(∀k,k<b\/b+d+t<=k->gK (arrOf st') k=gK (arrOf st) k)->Q true st'):
  wpS (model prog w) A E s (mergeAt' i) Q st:=by
 have p1:(B81 st)[i]?=some (b,d,p):=by
  rw[<- F1,hp,hi,G1 (A6 _),A03]
  rfl
 have p2:(B81 st)[i+1]?=some (b+d,t,q):=by
  rw[<- F1,hp,hi,G1 (by lia),show o.length+1-o.length=1 by lia]
  rfl
 have p3:(((B81 st).setIfInBounds i (b,d+t,p)).eraseIdxIfInBounds (i+1)).toList=o++(b,d+t,p)::u:=by
  rw[Array.toList_eraseIdxIfInBounds,y4,hp,hi];rw[List.set_append_right _ _ (A6 _),A03,List.eraseIdx_append_of_length_le (by lia),show o.length+1-o.length=1 by lia]
  rfl
 have size:=g.size;have ik:=g.ik h0;unfold mergeAt';refine B78 (C24 ?_);dsimp only;rw[p1,p2];dsimp only;obtain⟨kb,a7,_,ad⟩:=qC2 (a:=arrOf st) (i:=b+d) (by lia)
 have af:gK (arrOf st) (b+d)=gkv kb:=qJC a7;refine B78 (qY3 (B78 (qBA a7 ?_)));have g1:gSG κ0 a₀ (setPending st (((B81 st).setIfInBounds i (b,d+t,p)).eraseIdxIfInBounds (i+1))):=⟨g.perm,g.kind,g.failed⟩;show wpS _ _ _ _ (qYA false kb (arrOf st) b d 0 >>= _) _ _;refine B78 (qFH g1.kind (ik kb ad) ik (by lia) ab (qHN (by lia) ua) λk hk h1 h2=>?_)
 have a1:∀j,b<=j->j<b+k->gK (arrOf st) j<=gkv kb:=λj n l=>by
  have e:=h1 (j-b) (by lia)
  rw[qGP (by lia),show b+(j-b)=j by lia] at e
  exact of_decide_eq_true e
 have a2:∀j,b+k<=j->j<b+d->gkv kb<gK (arrOf st) j:=λj n l=>by
  have e:=h2 (j-b) (by lia) (by lia)
  rw[qGP (by lia),show b+(j-b)=j by lia] at e
  have:=of_decide_eq_false e
  lia
 dsimp only;by_cases ek:d-k=0
 ·refine gifT (by simpa using ek) ?_
  refine B80 (h _ g1 p3 (λi j n f l=>?_) λ_ _=>rfl);show gK (arrOf st) i<=gK (arrOf st) j;by_cases c1:j<b+d
  ·exact ua i j n f c1
  ·by_cases c2:i<b+d
   ·have q1:=a1 i n (by lia)
    have q2:=ub (b+d) j (by lia) (by lia) l
    lia
   ·exact ub i j (by lia) f l
 refine gifF (by simpa using ek) ?_
 rw[show b+k+(d-k)-1=b+d-1 by lia]
 obtain⟨kz,a8,_,ae⟩:=qC2 (a:=arrOf st) (i:=b+d-1) (by lia)
 have ah:gK (arrOf st) (b+d-1)=gkv kz:=qJC a8;refine B78 (qBA a8 ?_);show wpS _ _ _ _ (qYA true kz (arrOf st) (b+d) t (t-1) >>= _) _ _;refine B78 (qFH g1.kind (ik kz ae) ik (by lia) (by lia) (qHN (by lia) ub) λm hm h3 h4=>?_)
 have b1:∀j,b+d<=j->j<b+d+m->gK (arrOf st) j<gkv kz:=λj n l=>by
  have e:=h3 (j-(b+d)) (by lia)
  rw[qGP (by lia),show b+d+(j-(b+d))=j by lia] at e
  exact of_decide_eq_true e
 have b2:∀j,b+d+m<=j->j<b+d+t->gkv kz<=gK (arrOf st) j:=λj n l=>by
  have e:=h4 (j-(b+d)) (by lia) (by lia)
  rw[qGP (by lia),show b+d+(j-(b+d))=j by lia] at e
  have:=of_decide_eq_false e
  lia
 dsimp only;by_cases em:m=0
 ·refine gifT (by simpa using em) ?_
  refine B80 (h _ g1 p3 (λi j n f l=>?_) λ_ _=>rfl);show gK (arrOf st) i<=gK (arrOf st) j;by_cases c1:j<b+d
  ·exact ua i j n f c1
  ·by_cases c2:i<b+d
   ·have q1:=ua i (b+d-1) n (by lia) (by lia)
    have q2:=b2 j (by lia) l
    lia
   ·exact ub i j (by lia) f l
 refine gifF (by simpa using em) ?_
 have sx:((arrOf st).extract (b+k) (b+d)).size=d-k:=by simp;lia
 have sy:((arrOf st).extract (b+d) (b+d+m)).size=m:=by simp;lia
 have ux:=qNJ (xs:=arrOf st) (lo:=b+k) (hi:=b+d) (by lia) λi j n f l=>ua i j (by lia) f l
 have uy:=qNJ (xs:=arrOf st) (lo:=b+d) (hi:=b+d+m) (by lia) λi j n f l=>ub i j n f (by lia)
 have kx:∀x∈((arrOf st).extract (b+k) (b+d)).toList,gIK x:=λx hx=>ik x (by rw[qAV] at hx;exact U6 (Q7 hx))
 have ky:∀x∈((arrOf st).extract (b+d) (b+d+m)).toList,gIK x:=λx hx=>ik x (by rw[qAV] at hx;exact U6 (Q7 hx))
 have a9:∀y,((arrOf st).extract (b+d) (b+d+m)).toList[0]?=some y->∀x∈((arrOf st).extract (b+k) (b+d)).toList,gkv y<=gkv x:=by
  intro y hy x hx;have e:=qVC hy;obtain⟨j,v,j2,_,ej⟩:=qFI hx;have:=a2 j v j2;rw[m4] at e
  lia
 have aa:∀z,((arrOf st).extract (b+k) (b+d)).toList[((arrOf st).extract (b+k) (b+d)).size-1]?=some z->∀y∈((arrOf st).extract (b+d) (b+d+m)).toList,gkv y<=gkv z:=by
  intro z hz y hy;have e:=qVC hz;obtain⟨j,v,j2,_,ej⟩:=qFI hy;have:=b1 j v j2;rw[sx,show b+k+(d-k-1)=b+d-1 by lia] at e
  lia
 have a5:∀(r:Array Keyed) (st2:SortSt),gSE (setPending st (((B81 st).setIfInBounds i (b,d+t,p)).eraseIdxIfInBounds (i+1))) st2->gRes (((arrOf st).extract (b+k) (b+d)).toList++((arrOf st).extract (b+d) (b+d+m)).toList) r.toList->
   Q true (setArr st2 (r.toList.zipIdx.foldl (λa (p:Keyed×Nat)=>a.setIfInBounds (b+k+p.2) p.1) (arrOf st2))):=by
  rintro r st2 ⟨q1,q2,q3,q4⟩ ⟨rp,ru⟩;have a3:arrOf st2=arrOf st:=q2;have rl:r.toList.length=d-k+m:=by
   rw[rp.length_eq,A8,C0,C0,sx,sy]
  have e:=qNM (b+k) r.toList 0 (arrOf st2) (by rw[a3,rl];lia)
  rw[m4,a3] at e;have LK:=qcR e (by rw[rl];lia)
  have e0:(arrOf st).toList=(arrOf st).toList.take (b+k)++(((arrOf st).extract (b+k) (b+d)).toList++((arrOf st).extract (b+d) (b+d+m)).toList)++(arrOf st).toList.drop (b+k+r.toList.length):=by
   rw[qAV,qAV,rl,show b+d-(b+k)=d-k by lia,show b+d+m-(b+d)=m by lia]
   have t1:(arrOf st).toList.drop (b+d)=((arrOf st).toList.drop (b+k)).drop (d-k):=by rw[A09];congr 1;lia
   have t2:(arrOf st).toList.drop (b+k)=((arrOf st).toList.drop (b+k)).take (d-k+m)++(arrOf st).toList.drop (b+k+(d-k+m)):=qFZ;rw[t1,<- B61,M7,<- t2,l8]
  have gp:(r.toList.zipIdx.foldl (λa (p:Keyed×Nat)=>a.setIfInBounds (b+k+p.2) p.1) (arrOf st)).Perm (arrOf st):=by
   rw[Y6,e]
   conv=>rhs;rw[e0]
   exact(k8 _ rp).append_right _
  have a6:∀x∈r.toList,∀i,b<=i->i<b+k->gK (arrOf st) i<=gkv x:=by
   intro x hx i n hi;rcases B0.mp (rp.mem_iff.mp hx) with hx|hx
   ·obtain⟨j,v,j2,_,ej⟩:=qFI hx;rw[<- ej];exact ua i j n (by lia) j2
   ·obtain⟨j,v,j2,_,ej⟩:=qFI hx;have z1:=a1 i n hi;have z2:=ub (b+d) j (by lia) v (by lia)
    lia
  have a0:∀x∈r.toList,∀j,b+d+m<=j->j<b+d+t->gkv x<=gK (arrOf st) j:=by
   intro x hx j n l;rcases B0.mp (rp.mem_iff.mp hx) with hx|hx
   ·obtain⟨i,v,j2,_,ej⟩:=qFI hx;have z1:=ua i (b+d-1) (by lia) (by lia) (by lia)
    have z2:=b2 j n l
    lia
   ·obtain⟨i,v,j2,_,ej⟩:=qFI hx;rw[<- ej];exact ub i j v (by lia) l
  rw[a3];refine h _ ⟨gp.trans g.perm,q1.trans g.kind,q4.trans g.failed⟩ ((congrArg B15 q3).trans p3) ?_ λj l=>(LK j).1 (by rw[rl];lia)
  intro i j n f l;show gK (r.toList.zipIdx.foldl (λa (p:Keyed×Nat)=>a.setIfInBounds (b+k+p.2) p.1) (arrOf st)) i<=gK (r.toList.zipIdx.foldl (λa (p:Keyed×Nat)=>a.setIfInBounds (b+k+p.2) p.1) (arrOf st)) j;have K1:∀j,j<b+k\/b+k+(d-k+m)<=j->gK (r.toList.zipIdx.foldl (λa (p:Keyed×Nat)=>a.setIfInBounds (b+k+p.2) p.1) (arrOf st)) j=gK (arrOf st) j:=λj l=>(LK j).1 (by rw[rl];exact l)
  have K2:∀j,b+k<=j->j<b+k+(d-k+m)->∃x,r.toList[j-(b+k)]?=some x/\gK (r.toList.zipIdx.foldl (λa (p:Keyed×Nat)=>a.setIfInBounds (b+k+p.2) p.1) (arrOf st)) j=gkv x:=λj h1 h2=>(LK j).2 h1 (by rw[rl];exact h2)
  by_cases c1:i<b+k
  ·rw[K1 i (.inl c1)];by_cases c2:j<b+k
   ·rw[K1 j (.inl c2)];exact ua i j n f (by lia)
   ·by_cases c3:j<b+k+(d-k+m)
    ·obtain⟨x,ex,a4⟩:=K2 j (by lia) c3
     rw[a4];exact a6 x (B5 ex) i n c1
    ·rw[K1 j (.inr (by lia))]
     have z1:=a1 i n c1;have z2:=ub (b+d) j (by lia) (by lia) l
     lia
  ·by_cases c2:i<b+k+(d-k+m)
   ·obtain⟨x,ex,a4⟩:=K2 i (by lia) c2
    rw[a4];by_cases c3:j<b+k+(d-k+m)
    ·obtain⟨y,ey,ac⟩:=K2 j (by lia) c3
     rw[ac];by_cases c4:i=j
     ·rw[c4] at ex;rw[ex] at ey;cases ey;exact O6 _
     ·obtain⟨x1,x2⟩:=A5.mp ex;obtain⟨y1,y2⟩:=A5.mp ey;have:=G3.mp ru (i-(b+k)) (j-(b+k)) x1 y1 (by lia)
      rw[x2,y2] at this;exact this
    ·rw[K1 j (.inr (by lia))]
     exact a0 x (B5 ex) j (by lia) l
   ·rw[K1 i (.inr (by lia)),K1 j (.inr (by lia))]
    exact ub i j (by lia) f l
 by_cases c:d-k<=m
 ·refine gifT c ?_;show wpS _ _ _ _ (gmLo ((arrOf st).extract (b+k) (b+d)) ((arrOf st).extract (b+d) (b+d+m)) >>= _) _ _;refine B78 (qY4 g1.kind kx ky ux uy (by rw[sx];lia) (by rw[sy];lia) a9 aa λr st2 se rs=>?_)
  refine B78 (B97 (B78 (C24 (B80 ?_))));have e:(failedOf st2).isNone=true:=by rw[se.2.2.2,g1.failed];rfl
  show Q (failedOf st2).isNone _;rw[e];exact a5 r st2 se rs
 ·refine gifF c ?_;show wpS _ _ _ _ (gmHi ((arrOf st).extract (b+k) (b+d)) ((arrOf st).extract (b+d) (b+d+m)) >>= _) _ _;refine B78 (qY5 g1.kind kx ky ux uy (by rw[sx];lia) (by rw[sy];lia) a9 aa λr st2 se rs=>?_)
  refine B78 (B97 (B78 (C24 (B80 ?_))));have e:(failedOf st2).isNone=true:=by rw[se.2.2.2,g1.failed];rfl
  show Q (failedOf st2).isNone _;rw[e];exact a5 r st2 se rs
end
end L2.G
namespace L2.G
open PySem PyProof.Rows
variable[NM]
def gOut (xs ys:Array Keyed)(lo hi:Nat):Prop:=∀k,k<lo\/hi<=k->gK ys k=gK xs k
theorem gOut.refl (xs:Array Keyed)(lo hi:Nat):gOut xs xs lo hi:=λ_ _=>rfl
theorem gOut.trans {xs ys zs:Array Keyed} {lo hi:Nat} (b:gOut xs ys lo hi)(c:gOut ys zs lo hi):gOut xs zs lo hi:=λk a=>(c k a).trans (b k a)
theorem gOut.wide {xs ys:Array Keyed} {lo hi d c:Nat} (h:gOut xs ys lo hi)(a:d<=lo)(b:hi<=c):gOut xs ys d c:=λk e=>h k (by lia)
theorem gSG.lay {κ0:C13} {a₀:Array Keyed} {st:SortSt} (g:gSG κ0 a₀ st){ys:Array Keyed}(p:ys.Perm (arrOf st)):gSG κ0 a₀ (setArr st ys):=⟨p.trans g.perm,g.kind,g.failed⟩
theorem qPG {xs:Array Keyed} {i j:Nat} (a:j<=xs.size):gOut xs (mirror xs i j ((j-i)/2)) i j:=λk b=>by rw[qGQ a,if_neg (by lia)]
section
variable{prog:B79}{w:World}{A:Around}{E:Aa1}{s:Shared}{κ0:C13}[LtOk prog w A s κ0]{a₀:Array Keyed}
theorem qGM {st:SortSt} {i j:Nat} {Q:Option Bool->SortSt->Prop} (c:qC4 a₀)(g:gSG κ0 a₀ st)(hi:i<a₀.size)(k:j<a₀.size)(h:Q (some (decide (gK (arrOf st) i<gK (arrOf st) j))) st):wpS (model prog w) A E s (ltAt' i j) Q st:=by
 have b:i<(arrOf st).size:=by rw[g.size];exact hi
 have a:j<(arrOf st).size:=by rw[g.size];exact k
 obtain⟨x,d,_,f⟩:=qC2 b;obtain⟨y,e,_,l⟩:=qC2 a;rw[qJC d,qJC e] at h;rw[ltAt'_eq];refine B78 (C24 ?_);exact B78 (qBA d (B78 (qBA e (qGN g.kind (g.ik c x f) (g.ik c y l) h))))
theorem qY9 {st:SortSt} {lo n o:Nat} {Q:Bool->SortSt->Prop} (y:qC4 a₀)(g:gSG κ0 a₀ st)(hn:lo+n<=a₀.size)(a0:o<=n)(u:gSeg (arrOf st) lo (lo+o))
  (h:∀st2,gSG κ0 a₀ st2->B81 st2=B81 st->gSeg (arrOf st2) lo (lo+n)->gOut (arrOf st) (arrOf st2) lo (lo+n)->Q true st2):wpS (model prog w) A E s (binarySort' lo n o) Q st:=by
 rw [binarySort'_eq];refine B78 (C07 (B93 (I:=fun k c st2=>c=(none,())/\gSG κ0 a₀ st2/\B81 st2=B81 st/\gSeg (arrOf st2) lo (lo+min k n)/\gOut (arrOf st) (arrOf st2) lo (lo+n))
  (Q:=λc st2=>c=(none,())/\gSG κ0 a₀ st2/\B81 st2=B81 st/\gSeg (arrOf st2) lo (lo+n)/\gOut (arrOf st) (arrOf st2) lo (lo+n)) ?step ?fin ?init) ?post)
 case post=>
  rintro c st2 ⟨rfl,g2,pe,u2,o2⟩;exact B80 (h st2 g2 pe u2 o2)
 case init=>
  refine⟨rfl,g,rfl,λi j q m hj=>?_,.refl _ _ _⟩;by_cases p:o=0
  ·rw[show i=j by lia]
   exact O6 _
  ·exact u i j q m (by lia)
 case fin=>
  rintro c st2 ⟨hc,g2,pe,u2,o2⟩;rw[show min (max (max o 1) n) n=n by lia] at u2
  exact⟨hc,g2,pe,u2,o2⟩
 case step=>
  rintro k c st2 hak hkn ⟨rfl,g2,pe,u2,o2⟩;rw[show min k n=k by lia] at u2
  have v:lo+k<a₀.size:=by lia
  refine B78 (C07 (B93 (I:=fun x c a=>a=st2/\∃ l r,c=(none,l,r)/\l<=r/\r<=k/\r - l<=k - x/\
    (∀i,lo<=i->i<lo+l->gK (arrOf st2) i<=gK (arrOf st2) (lo+k))/\(∀i,lo+r<=i->i<lo+k->gK (arrOf st2) (lo+k)<gK (arrOf st2) i))
   (Q:=fun c a=>a=st2/\∃ l r,c=(none,l,r)/\l<=k/\
    (∀i,lo<=i->i<lo+l->gK (arrOf st2) i<=gK (arrOf st2) (lo+k))/\(∀i,lo+l<=i->i<lo+k->gK (arrOf st2) (lo+k)<gK (arrOf st2) i)) ?istep ?ifin ?iinit) ?ipost)
  case iinit=>exact⟨rfl,0,k,rfl,by lia,by lia,by lia,λi _ hi=>by lia,λi p t=>by lia⟩
  case ifin=>
   rintro c a ⟨rfl,l,r,rfl,hlr,hrk,hm,ha,hb⟩;have e:l=r:=by lia
   rw[<- e] at hb hrk;exact⟨rfl,l,r,rfl,hrk,ha,hb⟩
  case istep=>
   rintro x c a _ hxk ⟨rfl,l,r,rfl,hlr,hrk,hm,ha,hb⟩;dsimp only;by_cases f:l>=r
   ·refine gifT f ?_;have e:l=r:=by lia
    rw[<- e] at hb hrk;exact B80 ⟨rfl,l,r,rfl,hrk,ha,hb⟩
   ·refine gifF f ?_;refine B78 (qGM y g2 v (by lia) ?_)
    by_cases b:gK (arrOf a) (lo+k)<gK (arrOf a) (lo+(l+r)/2)
    ·rw[decide_eq_true b];dsimp only;refine gifT rfl ?_;refine B80 ⟨rfl,l,(l+r)/2,rfl,by lia,by lia,by lia,ha,λi p t=>?_⟩
     have:=u2 (lo+(l+r)/2) i (by lia) p t
     lia
    ·rw[decide_eq_false b];dsimp only;rw[if_neg B4];refine B80 ⟨rfl,(l+r)/2+1,r,rfl,by lia,by lia,by lia,λi z p=>?_,hb⟩
     have:=u2 i (lo+(l+r)/2) z (by lia) (by lia)
     lia
  case ipost=>
   rintro c a ⟨rfl,l,r,rfl,hlk,ha,hb⟩;have d:lo+k<(arrOf a).size:=by rw[g2.size];exact v
   show wpS _ _ _ _ (moveDown' (lo+k) (lo+l) >>= λ_=>pure (O3 (none,()))) _ _;rw[moveDown'_eq];refine B78 (B97 (B80 ⟨rfl,g2.lay (bubble_perm _ _ _),pe,?_,o2.trans ?_⟩))
   ·rw[show min (k+1) n=k+1 by lia]
    intro i j q m hj;show gK (bubble (arrOf a) (lo+k) (lo+k-(lo+l))) i<=gK (bubble (arrOf a) (lo+k) (lo+k-(lo+l))) j;rw[qJD d (by lia),qJD d (by lia),show lo+k-(lo+k-(lo+l))=lo+l by lia]
    repeat' split
    all_goals first
     |(exfalso;lia)
     |exact O6 _
     |exact ha _ (by lia) (by lia)
     |exact A01 (hb _ (by lia) (by lia))
     |exact u2 _ _ (by lia) (by lia) (by lia)
   ·intro i hi;show gK (bubble (arrOf a) (lo+k) (lo+k-(lo+l))) i=gK (arrOf a) i;rw[qJD d (by lia),if_neg (by lia),if_neg (by lia)]
abbrev gCUp:=Option (Option Nat)×Nat
abbrev gCDn:=Option (Option Nat)×Nat×Nat
noncomputable def gupL (lo a m:Nat):gSM gCUp:=
 forIn [a:m] ((none,a):gCUp) λ_ c=>do
  let t <- ltAt' (lo+c.snd) (lo+c.snd-1)
  match t with
  |some less=>if less=true then pure (k6 (none,c.snd)) else pure (O3 (none,c.snd+1))
  |_=>pure (k6 (some none,c.snd))
noncomputable def qVA (lo n m:Nat):gSM (Option Nat):=do
 reverseSlice' lo (lo+n)
 let c <- gupL lo n m
 match c.fst with
 |some r=>pure r
 |none=>pure (some c.snd)
noncomputable def gdnL (lo n m:Nat):gSM gCDn:=
 forIn [n:m] ((none,n,0):gCDn) λ_ c=>do
  let t <- ltAt' (lo+c.snd.fst) (lo+c.snd.fst-1)
  match t with
  |some less=>
   if less=true then
    if c.snd.snd>0 then do
     reverseSlice' (lo+c.snd.fst-(c.snd.snd+1)) (lo+c.snd.fst)
     pure (O3 (none,c.snd.fst+1,0))
    else pure (O3 (none,c.snd.fst+1,0))
   else do
    let t <- ltAt' (lo+c.snd.fst-1) (lo+c.snd.fst)
    match t with
    |some more=>
     if more=true then pure (k6 (none,c.snd.fst,c.snd.snd))
     else pure (O3 (none,c.snd.fst+1,c.snd.snd+1))
    |_=>pure (k6 (some none,c.snd.fst,c.snd.snd))
  |_=>pure (k6 (some none,c.snd.fst,c.snd.snd))
noncomputable def gdnP (lo n m:Nat):gSM (Option Nat):=do
 liftM (rule "list.sort.descending-run")
 let c <- gdnL lo (n+1) m
 match c.fst with
 |some r=>pure r
 |none=>
  if c.snd.snd>0 then do
   reverseSlice' (lo+c.snd.fst-(c.snd.snd+1)) (lo+c.snd.fst)
   qVA lo c.snd.fst m
  else qVA lo c.snd.fst m
theorem qBG {α β:Type} {x y:gSM α} {f g:α->gSM β} (h:x=y)(k:∀a,f a=g a):(x >>= f)=(y >>= g):=by rw[h,show f=g from funext k]
theorem qVB (lo m:Nat):countRun' lo m=(do
  let c <- gupL lo 1 m
  match c.fst with
  |some r=>pure r
  |none=>
   if(c.snd==m)=true then pure (some c.snd)
   else if c.snd>1 then do
    let t <- ltAt' lo (lo+c.snd-1)
    match t with
    |some rose=>if rose=true then pure (some c.snd) else do
      reverseSlice' lo (lo+c.snd)
      gdnP lo c.snd m
    |_=>pure none
   else gdnP lo c.snd m):=by
 rw[countRun'_eq];unfold gdnP qVA gdnL gupL;refine qBG rfl λc=>?_;obtain⟨r,n⟩:=c;cases r with
 |some r=>rfl
 |none=>
  have f:∀c3:gCUp,(match c3.fst with|some r=>pure r|none=>pure (some c3.snd):gSM (Option Nat))=(match c3.fst with|some r=>pure r|none=>pure (some c3.snd)):=λ_=>rfl
  dsimp only
  split
  ·rfl
  ·split
   ·refine qBG rfl λx=>?_;cases x with
    |none=>rfl
    |some rose=>
     dsimp only
     split
     ·rfl
     ·refine qBG rfl λ_=>qBG rfl λ_=>qBG rfl λd=>?_;obtain⟨b,h,g⟩:=d;cases b with
      |some b=>rfl
      |none=>
       dsimp only
       split
       ·refine qBG rfl λ_=>qBG rfl λ_=>qBG rfl λc3=>?_;obtain⟨a,e⟩:=c3;cases a<;>rfl
       ·refine qBG rfl λ_=>qBG rfl λc3=>?_;obtain⟨a,e⟩:=c3;cases a<;>rfl
   ·refine qBG rfl λ_=>qBG rfl λd=>?_;obtain⟨b,h,g⟩:=d;cases b with
    |some b=>rfl
    |none=>
     dsimp only
     split
     ·refine qBG rfl λ_=>qBG rfl λ_=>qBG rfl λc3=>?_;obtain⟨a,e⟩:=c3;cases a<;>rfl
     ·refine qBG rfl λ_=>qBG rfl λc3=>?_;obtain⟨a,e⟩:=c3;cases a<;>rfl
def gFal (xs:Array Keyed)(lo hi:Nat):Prop:=∀i j,lo<=i->i<=j->j<hi->gK xs j<=gK xs i
theorem qRE {st:SortSt} {lo a m:Nat} {Q:gCUp->SortSt->Prop} (o:qC4 a₀)(g:gSG κ0 a₀ st)(v:lo+m<=a₀.size)(r:1<=a)(k:a<=m)(u:gSeg (arrOf st) lo (lo+a))
  (h:∀n,a<=n->n<=m->gSeg (arrOf st) lo (lo+n)->(n=m\/gK (arrOf st) (lo+n)<gK (arrOf st) (lo+n-1))->Q (none,n) st):wpS (model prog w) A E s (gupL lo a m) Q st:=by
 unfold gupL;refine B93 (I:=λx c b=>b=st/\c=(none,x)/\gSeg (arrOf st) lo (lo+x)) ?step ?fin ⟨rfl,rfl,u⟩
 case fin=>
  rintro c b ⟨rfl,rfl,u2⟩;rw[show max a m=m by lia] at u2 ⊢
  exact h m k (A6 _) u2 (.inl rfl)
 case step=>
  rintro x c b hax hxn ⟨rfl,rfl,u2⟩;dsimp only;refine B78 (qGM o g (by lia) (by lia) ?_)
  by_cases d:gK (arrOf b) (lo+x)<gK (arrOf b) (lo+x-1)
  ·rw[decide_eq_true d];dsimp only;refine gifT rfl ?_;exact B80 (h x hax (by lia) u2 (.inr d))
  ·rw[decide_eq_false d];dsimp only;rw[if_neg B4];refine B80 ⟨rfl,rfl,λi j l f t=>?_⟩;by_cases e:j<lo+x
   ·exact u2 i j l f e
   ·have p:j=lo+x:=by lia
    rw[p];by_cases q:i=lo+x
    ·rw[q];exact O6 _
    ·have:=u2 i (lo+x-1) l (by lia) (by lia)
     lia
theorem qNI {st:SortSt} {lo n m:Nat} {Q:Option Nat->SortSt->Prop} (e:qC4 a₀)(g:gSG κ0 a₀ st)(p:lo+m<=a₀.size)(f:1<=n)(c:n<=m)(u:gFal (arrOf st) lo (lo+n))
  (h:∀k st2,gSG κ0 a₀ st2->B81 st2=B81 st->1<=k->k<=m->gSeg (arrOf st2) lo (lo+k)->gOut (arrOf st) (arrOf st2) lo (lo+m)->Q (some k) st2):wpS (model prog w) A E s (qVA lo n m) Q st:=by
 unfold qVA;have a:lo+n<=(arrOf st).size:=by rw[g.size];lia
 rw[C56];refine B78 (B97 ?_);have d:gSG κ0 a₀ (setArr st (mirror (arrOf st) lo (lo+n) ((lo+n-lo)/2))):=g.lay (mirror_perm _ _ _ _);refine B78 (qRE e d p f c ?_ λk l b q _=>B80 (h k _ d rfl (by lia) b q ((qPG a).wide (A6 _) (by lia))))
 intro i j r o t;show gK (mirror (arrOf st) lo (lo+n) ((lo+n-lo)/2)) i<=gK (mirror (arrOf st) lo (lo+n) ((lo+n-lo)/2)) j;rw[qGQ a,qGQ a,if_pos (by lia),if_pos (by lia)]
 exact u _ _ (by lia) (by lia) (by lia)
theorem qY7 {st:SortSt} {lo n m:Nat} {Q:gCDn->SortSt->Prop} (h0:qC4 a₀)(g:gSG κ0 a₀ st)(hm:lo+m<=a₀.size)(t:1<=n)(y:n<=m)(u:gFal (arrOf st) lo (lo+n))
  (h:∀k e st2,gSG κ0 a₀ st2->B81 st2=B81 st->n<=k->k<=m->gFal (arrOf st2) lo (lo+k)->e+1<=k->(∀i,lo+k-(e+1)<=i->i<lo+k->gK (arrOf st2) i=gK (arrOf st2) (lo+k-1))->gOut (arrOf st) (arrOf st2) lo (lo+m)->Q (none,k,e) st2):
  wpS (model prog w) A E s (gdnL lo n m) Q st:=by
 unfold gdnL;refine B93 (I:=fun x c st2=>∃ e,c=(none,x,e)/\gSG κ0 a₀ st2/\B81 st2=B81 st/\gFal (arrOf st2) lo (lo+x)/\e+1<=x/\
   (∀i,lo+x-(e+1)<=i->i<lo+x->gK (arrOf st2) i=gK (arrOf st2) (lo+x-1))/\gOut (arrOf st) (arrOf st2) lo (lo+m)) ?step ?fin ⟨0,rfl,g,rfl,u,by lia,λi t v=>by congr 1;lia,.refl _ _ _⟩
 case fin=>
  rintro c st2 ⟨e,rfl,g2,pe,u2,hq,he,o2⟩;rw[show max n m=m by lia] at u2 hq he ⊢
  exact h m e st2 g2 pe y (A6 _) u2 hq he o2
 case step=>
  rintro x c st2 hax hxn ⟨e,rfl,g2,pe,u2,hq,he,o2⟩;dsimp only;have r:lo+x<=(arrOf st2).size:=by rw[g2.size];lia
  refine B78 (qGM h0 g2 (by lia) (by lia) ?_)
  by_cases b:gK (arrOf st2) (lo+x)<gK (arrOf st2) (lo+x-1)
  ·rw[decide_eq_true b];dsimp only;refine gifT rfl ?_;have a:∀ys:Array Keyed,(∀k,gK ys k=gK (arrOf st2) k)->gFal ys lo (lo+(x+1)):=by
    intro ys hk i j o l hj;rw[hk,hk];by_cases f:j<lo+x
    ·exact u2 i j o l f
    ·have z:j=lo+x:=by lia
     rw[z];by_cases q:i=lo+x
     ·rw[q];exact O6 _
     ·have:=u2 i (lo+x-1) o (by lia) (by lia)
      lia
   by_cases d:e>0
   ·rw[if_pos d,C56];refine B78 (B97 (B80 ⟨0,rfl,g2.lay (mirror_perm _ _ _ _),pe,a _ (qB4 r he),by lia,λi t v=>by congr 1;lia,o2.trans ?_⟩))
    exactλk _=>qB4 r he k
   ·refine gifF d ?_;exact B80 ⟨0,rfl,g2,pe,a _ (λ_=>rfl),by lia,λi t v=>by congr 1;lia,o2⟩
  ·rw[decide_eq_false b];dsimp only;rw[if_neg B4];refine B78 (qGM h0 g2 (by lia) (by lia) ?_)
   by_cases p:gK (arrOf st2) (lo+x-1)<gK (arrOf st2) (lo+x)
   ·rw[decide_eq_true p];dsimp only;refine gifT rfl ?_;exact B80 (h x e st2 g2 pe hax (by lia) u2 hq he o2)
   ·rw[decide_eq_false p];dsimp only;rw[if_neg B4];have ex:gK (arrOf st2) (lo+x)=gK (arrOf st2) (lo+x-1):=by lia
    refine B80 ⟨e+1,rfl,g2,pe,λi j o l hj=>?_,by lia,λi t v=>?_,o2⟩
    ·by_cases f:j<lo+x
     ·exact u2 i j o l f
     ·have z:j=lo+x:=by lia
      rw[z];by_cases q:i=lo+x
      ·rw[q];exact O6 _
      ·rw[ex];exact u2 i (lo+x-1) o (by lia) (by lia)
    ·rw[show lo+(x+1)-1=lo+x by lia]
     by_cases q:i=lo+x
     ·rw[q]
     ·rw[ex];exact he i (by lia) (by lia)
theorem qRF {st:SortSt} {lo n m:Nat} {Q:Option Nat->SortSt->Prop} (q:qC4 a₀)(g:gSG κ0 a₀ st)(hm:lo+m<=a₀.size)(t:n+1<=m)(u:gFal (arrOf st) lo (lo+(n+1)))
  (h:∀k st2,gSG κ0 a₀ st2->B81 st2=B81 st->1<=k->k<=m->gSeg (arrOf st2) lo (lo+k)->gOut (arrOf st) (arrOf st2) lo (lo+m)->Q (some k) st2):wpS (model prog w) A E s (gdnP lo n m) Q st:=by
 unfold gdnP;refine B78 (wpS_lift (C03 ⟨rfl,?_⟩));refine B78 (qY7 q g hm (by lia) t u λk e st2 v pe a0 f u2 hq z o2=>?_)
 dsimp only;have b:lo+k<=(arrOf st2).size:=by rw[v.size];lia
 by_cases a:e>0
 ·rw[if_pos a,C56];refine B78 (B97 (qNI q (v.lay (mirror_perm _ _ _ _)) hm (by lia) f ?_ λl d o c x r y o3=>h l d o (c.trans pe) x r y ?_))
  ·intro i j hl p hj;show gK (mirror (arrOf st2) _ _ _) j<=gK (mirror (arrOf st2) _ _ _) i;rw[qB4 b z,qB4 b z];exact u2 i j hl p hj
  ·exact o2.trans (gOut.trans (λk _=>qB4 b z k) o3)
 ·refine gifF a ?_;exact qNI q v hm (by lia) f u2 λl d o c x r y o3=>h l d o (c.trans pe) x r y (o2.trans o3)
theorem qY8 {st:SortSt} {lo m:Nat} {Q:Option Nat->SortSt->Prop} (t:qC4 a₀)(g:gSG κ0 a₀ st)(y:lo+m<=a₀.size)(h1:1<=m)
  (h:∀k st2,gSG κ0 a₀ st2->B81 st2=B81 st->1<=k->k<=m->gSeg (arrOf st2) lo (lo+k)->gOut (arrOf st) (arrOf st2) lo (lo+m)->Q (some k) st2):wpS (model prog w) A E s (countRun' lo m) Q st:=by
 rw[qVB];refine B78 (qRE t g y (A6 1) h1 (λi j f p z=>by rw[show i=j by lia];exact O6 _) λn q o u or=>?_)
 dsimp only;by_cases e:n=m
 ·refine gifT (by simpa using e) ?_
  exact B80 (h n st g rfl q o u (.refl _ _ _))
 ·refine gifF (by simpa using e) ?_
  have d:gK (arrOf st) (lo+n)<gK (arrOf st) (lo+n-1):=or.resolve_left e;by_cases r:n>1
  ·refine gifT r ?_;refine B78 (qGM t g (by lia) (by lia) ?_)
   by_cases b:gK (arrOf st) lo<gK (arrOf st) (lo+n-1)
   ·rw[decide_eq_true b];dsimp only;refine gifT rfl ?_;exact B80 (h n st g rfl q o u (.refl _ _ _))
   ·rw[decide_eq_false b];dsimp only;rw[if_neg B4,C56];have c:lo+n<=(arrOf st).size:=by rw[g.size];lia
    have a:∀k,lo<=k->k<lo+n->gK (arrOf st) k=gK (arrOf st) (lo+n-1):=by
     intro k f hk;have a1:=u lo k (by lia) f hk
     have a2:=u k (lo+n-1) f (by lia) (by lia)
     lia
    refine B78 (B97 (qRF t (g.lay (mirror_perm _ _ _ _)) y (by lia) ?_ λk st2 g2 pe a1 a2 u2 o2=>h k st2 g2 pe a1 a2 u2 (gOut.trans (λk _=>qB4 c a k) o2)))
    intro i j f p z;show gK (mirror (arrOf st) _ _ _) j<=gK (mirror (arrOf st) _ _ _) i;rw[qB4 c a,qB4 c a];by_cases x:j<lo+n
    ·rw[a i f (by lia),a j (by lia) x]
     exact O6 _
    ·have v:j=lo+n:=by lia
     rw[v];by_cases l:i=lo+n
     ·rw[l];exact O6 _
     ·rw[a i f (by lia)]
      exact A01 d
  ·refine gifF r ?_;have e1:n=1:=by lia
   rw[e1] at d;rw[e1];refine qRF t g y (by lia) ?_ h
   intro i j f p z;by_cases l:i=j
   ·rw[l];exact O6 _
   ·have l:i=lo:=by lia
    have v:j=lo+1:=by lia
    rw[l,v];exact A01 d
end
end L2.G
namespace L2.G
open PySem PyProof.Rows
variable[NM]
def qD5 (xs:Array Keyed):List (Nat×Nat×Nat)->Nat->Nat->Prop
 |[],a,b=>a=b
 |r::rs,a,b=>r.1=a/\0<r.2.1/\gSeg xs a (a+r.2.1)/\qD5 xs rs (a+r.2.1) b
theorem qI8 {xs:Array Keyed} :∀{l:List (Nat×Nat×Nat)} {a b:Nat},qD5 xs l a b->a+l.length<=b
 |[],a,b,h=>by
  have:a=b:=h;simp
  lia
 |r::rs,a,b,h=>by
  have:=qI8 h.2.2.2;have:=h.2.1;simp
  lia
theorem gruns_app {xs:Array Keyed} :∀{l m:List (Nat×Nat×Nat)} {a b:Nat},qD5 xs (l++m) a b↔∃c,qD5 xs l a c/\qD5 xs m c b
 |[],m,a,b=>⟨λh=>⟨a,rfl,h⟩,λ⟨c,e,h⟩=>by cases(show a=c from e);exact h⟩
 |r::rs,m,a,b=>by
  constructor
  ·rintro⟨h1,h2,h3,h4⟩;obtain⟨c,q1,q2⟩:=gruns_app.mp h4;exact⟨c,⟨h1,h2,h3,q1⟩,q2⟩
  ·rintro⟨c,⟨h1,h2,h3,q1⟩,q2⟩;exact⟨h1,h2,h3,gruns_app.mpr ⟨c,q1,q2⟩⟩
theorem qJB {xs ys:Array Keyed} :∀{l:List (Nat×Nat×Nat)} {a b:Nat},(∀k,a<=k->k<b->gK ys k=gK xs k)->qD5 xs l a b->qD5 ys l a b
 |[],a,b,_,h=>h
 |r::rs,a,b,e,h=>by
  have le:=qI8 h.2.2.2;refine⟨h.1,h.2.1,λi j hl hij hj=>?_,qJB (λk h1 h2=>e k (by lia) h2) h.2.2.2⟩
  rw[e i hl (by lia),e j (by lia) (by lia)]
  exact h.2.2.1 i j hl hij hj
theorem qV9 {α:Type} :∀{l:List α} {i:Nat},i+1<l.length->∃pre x y post,l=pre++x::y::post/\pre.length=i
 |[],_,h=>by simp at h
 |[x],_,h=>by simp at h
 |x::y::r,0,_=>⟨[],x,y,r,rfl,rfl⟩
 |x::y::r,i+1,h=>by
  obtain⟨pre,a,b,post,e,el⟩:=qV9 (l:=y::r) (i:=i) (by simp at h ⊢;lia)
  exact⟨x::pre,a,b,post,by rw[e];rfl,by simp[el]⟩
section
variable{prog:B79}{w:World}{A:Around}{E:Aa1}{s:Shared}{κ0:C13}[LtOk prog w A s κ0]{a₀:Array Keyed}
theorem qHA {st:SortSt} {i b:Nat} {Q:Bool->SortSt->Prop} (h0:qC4 a₀)(g:gSG κ0 a₀ st)(r:qD5 (arrOf st) (B81 st).toList 0 b)(hb:b<=a₀.size)(hi:i+1<(B81 st).size)
  (h:∀st2,gSG κ0 a₀ st2->qD5 (arrOf st2) (B81 st2).toList 0 b->(B81 st2).size+1=(B81 st).size->(∀k,b<=k->gK (arrOf st2) k=gK (arrOf st) k)->Q true st2):wpS (model prog w) A E s (mergeAt' i) Q st:=by
 obtain⟨a0,⟨d,j,p⟩,⟨sb,n,q⟩,a,e,el⟩:=qV9 (l:=(B81 st).toList) (i:=i) (by simpa using hi)
 rw[e] at r;obtain⟨c,r1,r2⟩:=gruns_app.mp r;obtain⟨x,x2,t,z,v,y,m⟩:=r2;dsimp only at x x2 t z v y m;subst x;subst z;have le:=qI8 m;refine qY6 h0 g e el.symm x2 v (by lia) t y λst2 g2 pe u o=>h st2 g2 ?_ ?_ λk f=>o k (.inr (by lia))
 ·rw[pe];refine gruns_app.mpr ⟨d,qJB (λk _ f=>o k (.inl f)) r1,rfl,by show 0<j+n;lia,?_,?_⟩
  ·show gSeg _ d (d+(j+n));rw[<- A28];exact u
  ·show qD5 _ a (d+(j+n)) b;rw[<- A28];exact qJB (λk f _=>o k (.inr f)) m
 ·have l1:=congrArg V6 pe;have l2:=congrArg V6 e;simp at l1 l2
  lia
theorem qNL (f:Nat×Nat×Nat->Nat×Nat×Nat)(y:Nat×Nat×Nat):∀l:List (Nat×Nat×Nat),(l++[y]).modify l.length f=l++[f y]
 |[]=>rfl
 |z::l=>by
  show z::(l++[y]).modify l.length f=z::(l++[f y]);rw[qNL f y l]
theorem qNK {xs:Array Keyed} {p:Array (Nat×Nat×Nat)} {b pw:Nat} {f:Nat×Nat×Nat->Nat×Nat×Nat} (d:∀y,(f y).1=y.1/\(f y).2.1=y.2.1)(r:qD5 xs p.toList 0 b):qD5 xs (p.modify (p.size-1) f).toList 0 b:=by
 rw[Array.toList_modify,<- C0];generalize p.toList=l at r;rcases List.eq_nil_or_concat l with e|⟨l',y,e⟩
 ·rw[e] at r ⊢;exact r
 ·rw[e] at r ⊢;rw[List.concat_eq_append] at r ⊢;obtain⟨c,k,j⟩:=gruns_app.mp r;rw[A8,C1,A04,qNL];refine gruns_app.mpr ⟨c,k,?_⟩;obtain⟨m,h,n,i⟩:=j;have g:=(d y).1;have a:=(d y).2;refine⟨g.trans m,by rw[a];exact h,by rw[a];exact n,by rw[a];exact i⟩
theorem gwpS_runs {st:SortSt} {Q:Unit->SortSt->Prop} (h0:qC4 a₀)(g:gSG κ0 a₀ st)(hp:B81 st=#[])(h:∀st2,gSG κ0 a₀ st2->gSortedTo (arrOf st2) a₀.size->Q () st2):wpS (model prog w) A E s sortRuns' Q st:=by
 rw [sortRuns'_eq];refine B78 (C24 ?_);dsimp only;rw [g.size];refine B78 (C07 (B93
  (I:=λx c st2=>∃lo,c=(none,lo)/\x<=lo/\lo<=a₀.size/\gSG κ0 a₀ st2/\qD5 (arrOf st2) (B81 st2).toList 0 lo)
  (Q:=λc st2=>c.1=none/\gSG κ0 a₀ st2/\qD5 (arrOf st2) (B81 st2).toList 0 a₀.size) ?step ?fin ⟨0,rfl,A6 _,E7 _,g,by rw[hp];rfl⟩) ?post)
 case fin=>
  rintro c st2 ⟨lo,rfl,h1,h2,g2,r2⟩;have e:lo=a₀.size:=by lia
  rw[e] at r2;exact⟨rfl,g2,r2⟩
 case post=>
  rintro ⟨c,lo⟩ st2 ⟨e,g2,r2⟩;cases (show c=none from e);dsimp only;have le:=qI8 r2;refine B78 (C07 (B93 (I:=fun x c b=>c=(none,())/\gSG κ0 a₀ b/\qD5 (arrOf b) (B81 b).toList 0 a₀.size/\(B81 b).size+x<=a₀.size)
   (Q:=λc b=>c=(none,())/\gSG κ0 a₀ b/\qD5 (arrOf b) (B81 b).toList 0 a₀.size/\(B81 b).size<=1) ?_ ?_ ⟨rfl,g2,r2,by simpa using le⟩) ?_)
  ·rintro x c b _ _ ⟨rfl,g3,r3,le3⟩;refine B78 (C24 ?_);by_cases y:(B81 b).size<=1
   ·rw[if_pos y];exact B80 ⟨rfl,g3,r3,y⟩
   ·rw[if_neg y];refine B78 (qHA h0 g3 r3 (A6 _) ?_ λf g4 r4 l4 _=>?_)
    ·repeat' split
     all_goals lia
    ·rw[if_neg (by simp)]
     exact B80 ⟨rfl,g4,r4,by lia⟩
  ·rintro c b ⟨e,g3,r3,le3⟩;exact⟨e,g3,r3,by lia⟩
  ·rintro c b ⟨rfl,g3,r3,le3⟩;refine B80 (h b g3 ?_);have l3:(B81 b).toList.length<=1:=by simpa using le3
   generalize (B81 b).toList=l at r3 l3
   match l,r3,l3 with
   |[],r3,_=>
    have e:0=a₀.size:=r3;intro i j _ o
    lia
   |[r],r3,_=>
    have e:0+r.2.1=a₀.size:=r3.2.2.2;intro i j m o;exact r3.2.2.1 i j (E7 _) m (by lia)
   |_::_::_,_,l3=>simp at l3
 case step=>
  rintro x c st2 _ hx ⟨lo,rfl,hxl,hlo,g2,r2⟩;dsimp only;by_cases y:lo>=a₀.size
  ·rw[if_pos y];have e:lo=a₀.size:=by lia
   rw[e] at r2;exact B80 ⟨rfl,g2,r2⟩
  rw[if_neg y];refine B78 (qY8 h0 g2 (by lia) (by lia) λk b g3 a1 k1 k2 u3 o3=>?_)
  have r3:qD5 (arrOf b) (B81 b).toList 0 lo:=by
   rw[a1];exact qJB (λj _ o=>o3 j (.inl o)) r2
  dsimp only;have d:∀(st5:SortSt) (n:Nat),gSG κ0 a₀ st5->1<=n->lo+n<=a₀.size->gSeg (arrOf st5) lo (lo+n)->qD5 (arrOf st5) (B81 st5).toList 0 lo->
    gSG κ0 a₀ (setPending st5 ((B81 st5).push (lo,n,0)))/\qD5 (arrOf st5) ((B81 st5).push (lo,n,0)).toList 0 (lo+n):=by
   intro st5 n g5 h1 h2 u5 r5;refine⟨⟨g5.perm,g5.kind,g5.failed⟩,?_⟩;rw[V3];exact gruns_app.mpr ⟨lo,r5,rfl,h1,u5,rfl⟩
  by_cases c2:k<minRun' a₀.size a₀.size 0
  ·rw[if_pos c2];refine B78 (wpS_lift (C03 ⟨rfl,?_⟩));refine B78 (qY9 h0 g3 (by lia) (by lia) u3 λf g4 a0 u4 o4=>?_)
   have r4:qD5 (arrOf f) (B81 f).toList 0 lo:=by
    rw[a0];exact qJB (λj _ o=>o4 j (.inl o)) r3
   rw[if_neg (by simp)]
   refine B78 (C24 ?_);cases eb:(B81 f).back? with
   |none=>
    dsimp only;refine B78 (B97 (B80 ?_));obtain⟨p,u⟩:=d f (min (a₀.size-lo) (minRun' a₀.size a₀.size 0)) g4 (by lia) (by lia) u4 r4
    exact⟨_,rfl,by lia,by lia,p,u⟩
   |some t=>
    obtain ⟨s1,v,q1⟩:=t;dsimp only;refine B78 (C07 (B93 (I:=fun _ c a=>c=(none,())/\gSG κ0 a₀ a/\qD5 (arrOf a) (B81 a).toList 0 lo/\gSeg (arrOf a) lo (lo+(min (a₀.size - lo) (minRun' a₀.size a₀.size 0))))
     (Q:=λc a=>c=(none,())/\gSG κ0 a₀ a/\qD5 (arrOf a) (B81 a).toList 0 lo/\gSeg (arrOf a) lo (lo+(min (a₀.size-lo) (minRun' a₀.size a₀.size 0)))) ?_ (λ_ _ q=>q) ⟨rfl,g4,r4,u4⟩) ?_)
    ·rintro x c a _ _ ⟨rfl,g6,r6,u6⟩;refine B78 (C24 ?_);by_cases z:(B81 a).size>1
     ·rw[if_pos z];cases ep:(B81 a)[(B81 a).size-2]? with
      |none=>
       dsimp only;exact B80 ⟨rfl,g6,r6,u6⟩
      |some t=>
       obtain⟨s2,n2,a3⟩:=t;dsimp only
       split
       ·exact B80 ⟨rfl,g6,r6,u6⟩
       ·refine B78 (qHA h0 g6 r6 (by lia) (by lia) λa2 g7 r7 _ o7=>?_)
        rw[if_neg (by simp)]
        refine B80 ⟨rfl,g7,r7,λi j hl m o=>?_⟩;rw[o7 i hl,o7 j (by lia)]
        exact u6 i j hl m o
     ·rw[if_neg z];exact B80 ⟨rfl,g6,r6,u6⟩
    ·rintro c a ⟨rfl,g6,r6,u6⟩;dsimp only;refine B78 (B97 (B78 (B97 (B80 ?_))));obtain⟨p,u⟩:=d (setPending a ((B81 a).modify ((B81 a).size-1) λx=>(x.fst,x.2.fst,power' a₀.size (2*s1+v) (2*s1+v+v+(min (a₀.size-lo) (minRun' a₀.size a₀.size 0))) a₀.size))) (min (a₀.size-lo) (minRun' a₀.size a₀.size 0)) ⟨g6.perm,g6.kind,g6.failed⟩ (by lia) (by lia) u6 (qNK (pw:=0) (λ_=>⟨rfl,rfl⟩) r6)
     exact⟨_,rfl,by lia,by lia,p,u⟩
  ·rw[if_neg c2];refine B78 (C24 ?_);cases eb:(B81 b).back? with
   |none=>
    dsimp only;refine B78 (B97 (B80 ?_));obtain⟨p,u⟩:=d b k g3 (by lia) (by lia) u3 r3
    exact⟨_,rfl,by lia,by lia,p,u⟩
   |some t=>
    obtain ⟨s1,v,q1⟩:=t;dsimp only;refine B78 (C07 (B93 (I:=fun _ c a=>c=(none,())/\gSG κ0 a₀ a/\qD5 (arrOf a) (B81 a).toList 0 lo/\gSeg (arrOf a) lo (lo+k))
     (Q:=λc a=>c=(none,())/\gSG κ0 a₀ a/\qD5 (arrOf a) (B81 a).toList 0 lo/\gSeg (arrOf a) lo (lo+k)) ?_ (λ_ _ q=>q) ⟨rfl,g3,r3,u3⟩) ?_)
    ·rintro x c a _ _ ⟨rfl,g6,r6,u6⟩;refine B78 (C24 ?_);by_cases z:(B81 a).size>1
     ·rw[if_pos z];cases ep:(B81 a)[(B81 a).size-2]? with
      |none=>
       dsimp only;exact B80 ⟨rfl,g6,r6,u6⟩
      |some t=>
       obtain⟨s2,n2,a3⟩:=t;dsimp only
       split
       ·exact B80 ⟨rfl,g6,r6,u6⟩
       ·refine B78 (qHA h0 g6 r6 (by lia) (by lia) λa2 g7 r7 _ o7=>?_)
        rw[if_neg (by simp)]
        refine B80 ⟨rfl,g7,r7,λi j hl m o=>?_⟩;rw[o7 i hl,o7 j (by lia)]
        exact u6 i j hl m o
     ·rw[if_neg z];exact B80 ⟨rfl,g6,r6,u6⟩
    ·rintro c a ⟨rfl,g6,r6,u6⟩;dsimp only;refine B78 (B97 (B78 (B97 (B80 ?_))));obtain⟨p,u⟩:=d (setPending a ((B81 a).modify ((B81 a).size-1) λx=>(x.fst,x.2.fst,power' a₀.size (2*s1+v) (2*s1+v+v+k) a₀.size))) k ⟨g6.perm,g6.kind,g6.failed⟩ (by lia) (by lia) u6 (qNK (pw:=0) (λ_=>⟨rfl,rfl⟩) r6)
     exact⟨_,rfl,by lia,by lia,p,u⟩
end
end L2.G
namespace L2
open PySem PySem.Spec PyProof.Rows
section
variable{prog:B79}{w:World}{A:Around}{E:Aa1}{s:Shared}
theorem qTO {a:Addr} {vs:List Value} {ns:List Int} {n:Nat} {P:Fin->Shared->Prop} (l:s.heap.get? a=some (seqObj "list" vs.toArray n)) (e:B85 vs ns) (q:vs.length<=B77)
  (h:∀(out:Array Value) (zs:List Int),B85 out.toList zs->zs.Perm ns->zs.Pairwise (·<=·)->P (.done (.ret .none)) {s with heap:=sortedHeap s.heap a vs out}):wpAny (model prog w) A (Builtin.«list.sort» ⟨[.ref a],[]⟩) P E s:=by
 have z:=B1 l;have z0:vs.toArray.size<=B77:=by simpa using q
 rw[list_sort_plain];refine B75 (listItems_at l rfl (B75 (C33 l rfl ?_ z0 (E7 _))));have o:∃k,(s.heap.update a (P7 λ_=>#[])).get? a=some (seqObj "list" #[] k):=⟨_,get?_update_seq l λ_=>#[]⟩;obtain⟨k,o⟩:=o;refine B75 (C49 o rfl (B75 (C45 ?_ (by simpa using q))))
 refine B75 (C53 (B83 ?_));have f:(((s.heap.update a (P7 λ_=>#[])).push (seqObj "tuple" vs.toArray 0)).push (seqObj "list" #[] 0)).get? a=some (seqObj "list" #[] k):=by
  rw[j6,j6]
  ·exact o
  ·rw[m7];exact C4 z
  ·rw[size_push',m7];exact C4 (O8 z)
 have d:∀xs:Array Keyed,xs.Perm (B99 vs)->SortedTo xs (B99 vs).size->P (.done (.ret .none)) {s with heap:=sortedHeap s.heap a vs (xs.map (·.2))}:=by
  intro xs p sx;obtain⟨zs,q1,q2,q3⟩:=sorted_out e p sx;exact h _ zs q1 q2 q3
 have r:∀xs:Array Keyed,xs.Perm (B99 vs)->(xs.map (·.2)).size<=B77+1:=by
  intro xs p;rw[A10,p.size_eq,pairsOf_size]
  lia
 show wpAny _ A _ P E {s with heap:=((s.heap.update a (P7 λ_=>#[])).push (seqObj "tuple" vs.toArray 0)).push (seqObj "list" #[] 0)};dsimp only;by_cases b:vs.toArray.size<2
 ·simp only[if_pos b];refine B75 (B76 ?_);rw[B38];refine B75 (B76 (B75 (C49 f rfl (B75 (C33 f rfl ?_ (E7 _) (r (B99 vs) (.refl _)))))));simp only[bne_self_eq_false,G7,if_false];refine B76 (d (B99 vs) (.refl _) λi j a0 hj=>?_);rw[pairsOf_size] at hj;rw[B8] at b;rw[show i=j by lia]
  exact O6 _
 ·simp only[if_neg b];have kk:keyKind' vs.toArray=pure oneType':=by
   match vs,b,e with
   |[],b,_=>exact absurd (by simp) b
   |[_],b,_=>exact absurd (by simp) b
   |_::_::_,_,e=>exact keyKind_ints e
  rw[kk]
  letI:G.NM:=⟨numOf,λv=>∃n t,v=.int n t⟩
  haveI:G.LtOk prog w A {s with heap:=((s.heap.update a (P7 λ_=>#[])).push (seqObj "tuple" vs.toArray 0)).push (seqObj "list" #[] 0)} oneType':=⟨λ{x y Q E} hx hy h=>by
   obtain⟨n,t,rfl⟩:=hx;obtain⟨m,u,rfl⟩:=hy;rw[keyLt'_oneType];exact oneLt_int h⟩
  refine B75 (B76 (B75 (B90 (G.gwpS_runs (κ0:=oneType') (a₀:=B99 vs) (Q:=λ_ c=>G.gSG oneType' (B99 vs) c/\G.gSortedTo (arrOf c) (B99 vs).size) e.intKeys ⟨.refl _,rfl,rfl⟩ rfl λc g u=>⟨g,u⟩) ?_ λ_ _ x=>x)));rintro⟨_,c⟩ s2 ⟨es,g,u⟩;cases(show s2=_ from es);refine B75 (C49 f rfl (B75 (C33 f rfl ?_ (E7 _) (r _ g.perm))));dsimp only;rw[g.failed];simp only[bne_self_eq_false,G7,if_false];exact B76 (d _ g.perm u)
end
section
variable{X:Cx}
theorem qMZ {Ab:List (Addr×Obj)} {σ:St} {H:Hp} {Q:VK} {ns:List Int} {D:Addr} (I:Inv X Ab σ (Ag H D (.lst (ns.map V.int))) s)
  (q:∀zs:List Int,zs.Perm ns->zs.Pairwise (·<=·)->Q (.ref D) (Ag H D (.lst (zs.map V.int)))):
  wpAny (model X.prog X.w) A (call (.builtin "list.sort") [.ref D]) (λ_ s'=>EP X Ab σ Q (.ref D) s') E s:=by
 obtain⟨z,g,n,i,r,e⟩:=I.lstM qA1;have o:=qCH i;have c:=i.length;refine B87 slot_list_sort ⟨_,e,rfl⟩ entry_list_sort (qTO (ns:=ns) (n:=n) e o (by rw[<- c];exact z) λout zs m h l=>⟨_,rfl,?_⟩) (args_list_sort _)
 obtain⟨j,d⟩:=sortedHeap_at (vs:=g) (out:=out) e;refine⟨.ref D,Ag H D (.lst (zs.map V.int)),?_,rfl,q zs h l⟩;have p:Ag (Ag H D (.lst (ns.map V.int))) D (.lst (zs.map V.int))=Ag H D (.lst (zs.map V.int)):=qIH;rw[<- p];refine I.write (x:=D) (e:=D) (t':=s.toks) (by rw[qA1];exact trivial) (.inl rfl) (λb u k a=>?_) ⟨_,d⟩ ?_
 ·rw[sortedHeap_old k (B1 a)];exact a
 ·refine⟨?_,out.toList,j,qHH m,by simpa using d⟩
  rw[A0,h.length_eq,<- A0 (f:=V.int)];exact z
theorem qV5:∀{vs:List Value} {ns:List Int},vs.length=ns.length->(∀(i:Nat) (v:Value),vs[i]?=some v->∃n t,ns[i]?=some n/\v=.int n t)->B85 vs ns
 |[],[],_,_=>.nil
 |[],_::_,h,_=>by simp at h
 |_::_,[],h,_=>by simp at h
 |v::vs,n::ns,h,f=>by
  obtain⟨m,t,e1,e2⟩:=f 0 v rfl;cases(show n=m from D7 e1);rw[e2];exact .cons _ _ (qV5 (by simpa using h) λi u hu=>by simpa using f (i+1) u (by simpa using hu))
theorem qaL {κ:Type} :∀{Af:List (κ×V)} {vs:List (κ×Value)},KV Af vs->Af.map (·.1)=vs.map (·.1):=by
 intro Af vs r;unfold KV at r
 induction r with
 |nil=>rfl
 |cons h t ih=>rw[C7,C7,ih,h.1]
theorem qF5 (hc:X.calm=true):qCF X (.builtin "sorted") (fun xs H Q=>∃ p ns,xs=[.ref p]/\(SqL X.K H p (ns.map V.int)\/SqT X.K H p (ns.map V.int)\/∃ Af,H p=some (.dK Af)/\Af.map (·.1)=ns.map E8)/\
  ∀(a:Addr) (zs:List Int),H a=none->zs.Perm ns->zs.Pairwise (·<=·)->Q (.ref a) (Ag H a (.lst (zs.map V.int)))):=by
 intro Ab s σ H xs us Q I r h;obtain ⟨p,ns,rfl,hq,q⟩:=h;obtain ⟨u,rfl,rx⟩:=qDQ r;cases rx;refine Z0 kind_sorted plain_sorted entry_sorted (args_sorted1 _) ?_;unfold Builtin.«sorted»;refine B75 (m:=checkCount "sorted" 1 1 _) (B76 ?_);have f:∀ (s1:Shared) (vs:List Value) (zs:List Int),Inv X Ab σ H s1->B85 vs zs->zs.length<=B77->zs.Perm ns->wpAny (model X.prog X.w) X.A.in1 (do
   let l <- newList vs
   let _ <- C21 [l] (call (.builtin "list.sort") [l] [])
   ret l) (λf s'=>∃r,f=.done (.ret r)/\EP X Ab σ Q r s') X.xe s1:=by
  intro s1 vs zs I1 hv d hp;have c:=IntsAre.length hv;refine B75 (C53 ?_ (by rw[c];exact d))
  have hf:=I1.hok.fresh (A6 s1.heap.objs.size);refine B75 (B83 (B90 (qMZ (E:=X.xe) (qKO I1 hv d) λzs a b=>q _ zs hf (a.trans hp) b) (λ_ s' x=>?_) λ_ _ e=>e));exact B76 ⟨_,rfl,x⟩
 rcases hq with hq|hq|⟨Af,hq,hk⟩
 ·obtain⟨a1,z,pl,d⟩:=I.list hq;obtain⟨o,ho,j,n,hd⟩:=pl.isList;have c:=z.length;refine B75 (wpAny_collect_seq p (.inl rfl) ho j hd (λh' hk=>?_) (by rw[B8,<- c];exact d))
  exact f _ _ ns (I.kept (t':=s.toks) hk) (by simpa using qCH z) (by rw[A0] at d;exact d) (.refl _)
 ·obtain⟨a1,z,pl,d⟩:=I.tuple hq;obtain⟨o,ho,j,n,hd⟩:=pl;have c:=z.length;refine B75 (wpAny_collect_seq p (.inr rfl) ho j hd (λh' hk=>?_) (by rw[B8,<- c];exact d))
  exact f _ _ ns (I.kept (t':=s.toks) hk) (by simpa using qCH z) (by rw[A0] at d;exact d) (.refl _)
 ·obtain⟨d,hd,vs,a0,dd⟩:=qaX I.hok hq;obtain⟨ep,da⟩:=dd.dictAt;have lv:vs.length=Af.length:=a0.length.symm;have ln:ns.length=Af.length:=by
   have:=congrArg V6 hk;simpa using this.symm
  refine B75 (t5 (A:=X.A.in1) (PySem.W.kdl_dict (ep:=ep) hd) (I.ok.hd hc) da (by rw[lv];exact d) λh' tk a2 kept g=>?_)
  refine f _ _ ns (I.kept (t':=tk) kept) ?_ (by rw[ln];exact d) (.refl _)
  obtain⟨l1,l2⟩:=g;refine qV5 (by rw[C0,l1,lv,ln]) λi v hv=>?_
  obtain⟨k,x,e1,e2⟩:=l2 i v (by rw[<- F1];exact hv)
  have y:(Af.map (·.1))[i]?=some k:=by rw[qaL a0,B6,e1];rfl
  rw[hk,B6] at y;cases en:ns[i]? with
  |none=>rw[en] at y;cases y
  |some n=>
   rw[en] at y;cases y;obtain⟨t,e3⟩:=B01 (k:=n) (v:=v) e2;exact⟨n,t,rfl,e3⟩
noncomputable def Itd (lo:Int)(n:Nat):It:=⟨λi _=>i<n,λi H x H'=>H'=H/\x=.int (lo-i),λi _=>n<=i⟩
theorem qTB {K:Ab1} {tg:Expr} (d:Addr)(lo:Int)(n:Nat):Turn P w K tg (Itd lo n) [d] d (λi h=>IsRangeIter h d (lo+(i:Nat)*(-1)) ((n:Int)-(i:Nat)) (-1)) where
 mem:=A7.mpr rfl
 obj:=λi h a b c=>by
  cases A7.mp c;exact⟨_,a,λv z=>nomatch(show A26 _=A14 v from z)⟩
 keep:=λi h j a k=>k d (A7.mpr rfl) _ a
 item:=by
  intro X y r l p i Ab s σ H E I g a u;subst y r l;obtain⟨x,f1,f2,q,m,f5⟩:=g d (A7.mpr rfl);refine(Walks.range (prog:=X.prog) (w:=X.w) (I.ok.hd p) d lo (-1) n).item i s _ _ u a λv j tk hv f kk=>?_;obtain⟨t,rfl⟩:=hv;have I1:Inv X Ab σ H {s with heap:=j,toks:=tk}:=I.turned (λb o c e=>kk b o (by simpa using c) e) x f1 q m f5
  refine⟨_,rfl,qSM (s:={s with heap:=j,toks:=tk}) (n:="range_iterator") f rfl rfl (by decide) ⟨.int (lo-i),H,I1,⟨t,?_⟩,⟨rfl,rfl⟩,f,λb c=>(g b c).1⟩⟩
  rw[show lo+(i:Int)*(-1)=lo-i by lia]
 done:=by
  intro X y r l p i Ab s σ H E I g a u;subst y r l;obtain⟨x,f1,f2,q,m,f5⟩:=g d (A7.mpr rfl);have a0:n<=i:=u;exact wpAny_pyNext_range_end (I.ok.hd p) a (by lia) λj eb=>⟨rfl,I.turned (t':=s.toks) (λb o c e=>eb b o c e) x f1 q m f5⟩
 self:=λ_ _ _ _ _ a h=>wpAny_pyIter_rangeiter a h
def qeD (ta:TA):TI:=λσ H R=>ta σ H λvs H1=>∃i j:Int,vs=[.int i,.int j,.int (-1)]/\(-(2^62)<=i/\i<2^62/\-(2^62)<=j/\j<2^62)/\R (Itd i (i-j).toNat) H1
theorem qU2 {y a b c:Expr} {n:TA} {p pos:Pos} (hg:Gl X "range") (hm:X.mg "range" = none) (ha:PA X [a,b,c] n) (hs:B84 [a,b,c] X.env=[(false,eval a X.env),(false,eval b X.env),(false,eval c X.env)]:=by rfl)
  (d:B84 [b,c] X.env=[(false,eval b X.env),(false,eval c X.env)]:=by rfl):PI X y (.Call (.Name "range" p) [a,b,c] [] pos) (qeD n):=by
 intro t s σ H R I h;refine Call_ (qFR I hg hm boot_range (J3 (thn (ha pos t s σ H _ I h) λus s1 ⟨vs,H1,I1,r1,q1⟩=>?_) (by rw[hs,d]) (by rw[d];rfl)))
 obtain⟨i,j,e,⟨q1,q2,q3,v⟩,q⟩:=q1;subst e;obtain⟨u1,f,rfl,⟨g,rfl⟩,z⟩:∃u f,us=u::f/\RelV (.int i) u/\Vals [.int j,.int (-1)] f:=by cases r1 with|cons r f=>exact⟨_,_,rfl,r,f⟩
 obtain⟨u2,u3,rfl,⟨m,rfl⟩,⟨k,rfl⟩⟩:=qK2 z;refine call_range_3 (by decide) ?_ (E2 (d0 (by lia)))
 refine wpAny_pyIter_range (B71 ..) (PySem.W.small_down q1 q2 q3 v) ?_;have l:Inv X t σ H1 {s1 with heap:=s1.heap.push {cls:=.type "range",data:=.fields #[.int i g,.int j m,.int (-1) k]},toks:=s1.toks}:=I1.kept λb o e=>A3 _ e;refine⟨(s1.heap.push {cls:=.type "range",data:=.fields #[.int i g,.int j m,.int (-1) k]}).objs.size,[(s1.heap.push {cls:=.type "range",data:=.fields #[.int i g,.int j m,.int (-1) k]}).objs.size],_,_,H1,rfl,
  l.kept (t':=s1.toks) λb o e=>A3 _ e,qTB _ i (i-j).toNat,?_,λb x=>?_,q⟩
 ·have e1:i+((0:Nat):Int)*(-1)=i:=by simp
  have w:(((i-j).toNat:Nat):Int)-((0:Nat):Int)=R0 i j (-1):=by rw[PySem.W.rangeSize_downNat];simp
  show IsRangeIter _ _ (i+((0:Nat):Int)*(-1)) ((((i-j).toNat:Nat):Int)-((0:Nat):Int)) (-1);rw[e1,w];exact A9 _ rfl
 ·cases A7.mp x;exact l.fpOk (A6 _) (l.hok.fresh (A6 _))
theorem qRG {lo:Int} {n:Nat} {g:TG} {a:TS} {D:Ends} {σ:St} {H:Hp} (Pv:Nat->St->Hp->Prop)(b:Pv 0 σ H)
  (j:∀i σ H,i<n->Pv i σ H->g (.int (lo-i)) σ H λσ2 H2=>a {D with nx:=Pv (i+1),ct:=Pv (i+1),bk:=D.nx} σ2 H2) (h:∀σ H,Pv n σ H->D.nx σ H):
  ForG (Itd lo n) g a D σ H:=by
 refine⟨λi m σ H=>m=n-i/\i<=n/\Pv i σ H,⟨n,by simp,E7 _,b⟩,λi m σ H ⟨e,hi,p⟩=>?_⟩
 rcases Nat.lt_or_ge i n with hlt|hge
 ·refine .inr ⟨hlt,Pv (i+1),λσ' d f=>⟨n-(i+1),by lia,rfl,hlt,f⟩,λx d y=>?_⟩
  rw[y.1,y.2];exact j i σ H hlt p
 ·have c:i=n:=by lia
  rw[c] at p;exact .inl ⟨hge,h σ H p⟩
theorem qUD (f:X.A.units<cLine):OpR X (B95 .NotEq) (λx y H Q=>∃p l xs,x=.ref p/\y=.ref l/\SqL X.K H p xs/\SqL X.K H l []/\Q (.bl (!xs.isEmpty)) H):=by
 intro w s σ H x y v u Q I o k h;obtain⟨p,l,xs,rfl,rfl,m,i,q⟩:=h;cases o;cases k;obtain⟨g,n,c,z1⟩:=I.list m;obtain⟨b,t,d,z⟩:=I.list i;cases t;cases n with
 |nil=>exact B53 (e:=λ_=>true) c.isList d.isList rfl f (λj h _=>absurd h (by simp)) _ _ _ _ ⟨.bl false,H,I,rfl,q⟩
 |cons a r=>exact B00 c.isList d.isList (by simp) f _ _ _ _ ⟨.bl true,H,I,rfl,q⟩
end
open PySem.AutoSeq1 in
section
variable{X:Cx}
end
noncomputable def topI (b:Int)(l:List Int):Int:=l.foldl (λb x=>if x>b then x else b) b
theorem qIJ:∀(l:List Int) (b:Int),b<=topI b l/\(∀x∈l,x<=topI b l)/\(topI b l=b\/topI b l∈l)
 |[],b=>⟨O6 _,(λ_ z=>nomatch z),.inl rfl⟩
 |y::l,b=>by
  obtain⟨h1,h2,h3⟩:=qIJ l (if y>b then y else b)
  have e:topI b (y::l)=topI (if y>b then y else b) l:=rfl
  rw[e];have hb:b<=(if y>b then y else b)/\y<=(if y>b then y else b):=by split<;>omega
  refine⟨by omega,λx hx=>?_,?_⟩
  ·rcases B7.mp hx with hx|hx
   ·omega
   ·exact h2 x hx
  ·rcases h3 with h3|h3
   ·split at h3
    ·rw[if_pos (by assumption)]
     exact .inr (by rw[h3];exact F0)
    ·rw[if_neg (by assumption)]
     exact .inl h3
   ·exact .inr (B9 _ h3)
section
variable{prog:B79}{w:World}{A:Around}{R:Result->Shared->Prop}{I:Addr}{fp wr:List Addr}{n:Nat}{P:Nat->Value->Prop}{St:Nat->Heap->Prop}
end
section
variable{prog:B79}{w:World}{A:Around}{E:Aa1}{s:Shared}
theorem qO0 {id:String} {b:Builtin} {a:List Value} {d:List (Str×Value)} {Q:Aa1} (m:builtinKind id=none)(i:plainId id=true)(j:entryFor table id=some b)(h:argsOk id ⟨a,d⟩)
  (k:wpAny (model prog w) A.in1 (b ⟨a,d⟩) (λfin s'=>∃c',fin=.again c'/\c'.quiet=true/\C16 (model prog w) A c' (λr s'=>∃v,r=.ok (.ret v)/\Q v s') s') E s):wpAny (model prog w) A (call (.builtin id) a d) Q E s:=by
 refine wpAny_call (C66 i j ?_);have c:=B90 k (Q':=fun fin s'=>match fin with
   |.done f=>(match(Except.ok f:Result) with|.ok (.ret v)=>Q v s'|.ok _=>False|.error e=>E e s')
   |.again c'=>c'.quiet=true/\C16 (model prog w) A c' (λr s'=>match r with|.ok (.ret v)=>Q v s'|.ok _=>False|.error e=>E e s') s')
  (λfin s' ⟨c',e,h1,c⟩=>by subst e;exact⟨h1,C10 c λr s' ⟨v,e,q⟩=>by subst e;exact q⟩) λ_ _ l=>l
 simp only[checkBuiltinCall,m];cases sg:Manifest.signature? id with
 |none=>exact B76 c
 |some sig=>
  have g:Bind.checkArgs id sig ⟨a,d⟩=pure ():=by simpa only[argsOk,sg] using h
  simp only[g];exact B76 c
end
section
variable{X:Cx}
noncomputable def topD (dv:Option Int):List Int->Option Int
 |[]=>dv
 |y::r=>some (topI y r)
end
theorem qGU:entryFor table "dict.update.loop" = some Builtin.«dict.update.loop»:=entryFor_of_tree (by kernel_rfl)
theorem qCS:plainId "dict.update.loop" = true:=by decide +kernel
theorem qP9:typeLookup (.type "list") "keys" = pure none:=by rw[typeLookup_type,C58];kernel_rfl
section
variable{prog:B79}{w:World}{A:Around}{E:Aa1}{s:Shared}
theorem qNC {a:Addr} {o:Obj} {xs:Array Value} {k:Nat} {Q:Option Value->Shared->Prop} (m:s.heap.get? a=some o) (j:o.cls=.type "list") (d:o.data=.seq xs k) (l:o.dict=none) (r:A.handled=none)
  (h:∀h' tk,(∀b u,s.heap.get? b=some u->h'.get? b=some u)->Q none {s with heap:=h',toks:=tk}):wpAny (model prog w) A (getAttr? (.ref a) "keys") Q E s:=by
 obtain⟨c,p,n,v⟩:=o;simp only at j d l;subst j d l;obtain⟨x,g,t,tk,q⟩:=s;have i:∀tk',(⟨x,g,t,tk',q⟩:Shared).TypeIs (.ref a) "list":=λ_=>⟨_,m,rfl⟩;have f1:=sub_AttributeError;have z:=b7.lookup;have y:=b7.bind (.ref a);have f5:=am_list_getattr_none;unfold getAttr? getAttrBy? getAttrBy
 repeat (any_goals (first|assumption|exact i _|((with_reducible show wpAny _ _ (call (Value.builtin "list.__getattribute__") _ _) _ _ _);refine C43 b7 (i _) am_entry_list_getattribute (F.args_list_getattribute_2 _ _) (meets_getattribute_miss_list a xs k v "keys" _ qP9 (by decide +kernel) (by decide +kernel)) ⟨m,r,λh' tk' e f=>?_⟩)|wp_step))
 obtain⟨t',u',he⟩:=f.there;show wpAny _ _ (getattributeRaised _ _ _ _ _ _ _) _ _ _;unfold getattributeRaised
 repeat (any_goals (first|assumption|wp_step))
 exact h _ _ f.of.keeps
end
section
variable{prog:B79}{w:World}{A:Around}{R:Result->Shared->Prop}{I:Addr}{fp wr:List Addr}{n:Nat}{P:Nat->Value->Prop}{St:Nat->Heap->Prop}
theorem qYH (W:Walks prog w A.in1 I fp wr n P St)(h0:Heap)(d:Addr)(u:d∉fp)(ps:List (Int×Value))(hn:ps.length=n)(hz:n<=B77)
  (a4:∀i v,P i v->∃r k t x,v=.ref r/\r∉wr/\r≠d/\h0.IsTuple r #[.int k t,x]/\ps[i]?=some (k,x)):
  ∀(m i:Nat) (j:Int) (tj:Tok) (s:Shared) (Af:List (Key×Value)),n-i=m->i<=n->St i s.heap->s.heap.DictOf (qB3 prog w) d Af->Af.length<=i->(∀b o,b∉wr->b≠d->h0.get? b=some o->s.heap.get? b=some o)->
  (∀h' tk,h'.DictOf (qB3 prog w) d ((ps.drop i).foldl (λm q=>stored m (E8 q.1) q.2) Af)->(∀b o,b∉wr->b≠d->h0.get? b=some o->h'.get? b=some o)->R (.ok (.ret .none)) {s with heap:=h',toks:=tk})->
  C16 (model prog w) A (.builtin "dict.update.loop" ⟨[.ref d,.ref I,.int j tj,.none],[]⟩) R s:=by
 have a1:d∉wr:=λh=>u (W.sub _ h);intro m
 induction m with
 |zero=>
  intro i j tj s Af hm hi st hd hl hk y;have e:i=n:=by lia
  refine B91 qGU ?_;rw[F8 qCS _];show wpAny _ A.in1 (pyNext (.ref I) >>= _) _ _ s;refine B75 (W.done s _ _ (e▸st) λh' tk a=>?_);show wpAny _ A.in1 (A22 d [] >>= λ_=>ret M6) _ _ _;rw[W9 (by lia)] at y
  exact B75 (B76 (B76 (y h' tk (hd.at λo eo=>a d o a1 eo) λb o f c p=>a b o f (hk b o f c p))))
 |succ m ih=>
  intro i j tj s Af hm hi st hd hl hk y;have l:i<n:=by lia
  refine B91 qGU ?_;rw[F8 qCS _];show wpAny _ A.in1 (pyNext (.ref I) >>= _) _ _ s;refine B75 (W.item i s _ _ l st λv h' tk hP a5 a=>?_);obtain⟨r,k,t,x,rfl,g,a2,ht,ep⟩:=a4 i v hP;have ed:ps.drop i=(k,x)::ps.drop (i+1):=by
   obtain⟨a3,e⟩:=A5.mp ep;rw[Q1 a3,e]
  rw[ed] at y;have a7:h'.IsTuple r #[.int k t,x]:=by
   obtain⟨o,e1,e2,e3⟩:=ht;exact⟨o,a r o g (hk r o g a2 e1),e2,e3⟩
  obtain⟨o,ho,ac,no,ad⟩:=a7;have aa:h'.DictOf (qB3 prog w) d Af:=hd.at λo eo=>a d o a1 eo;refine B75 (B83 (B75 ?_));show wpAny _ A.in1 (tryCatch (X0 (.ref r)) _) _ _ _;refine C09 ?_;unfold X0;refine B75 (C14 (T:="tuple") ⟨o,ho,ac⟩ ?_);rw[if_pos (by decide)]
  refine B75 (B96 ho ad (B76 ?_));show wpAny _ A.in1 (C21 [U8 k t,x] (dictSet d (.int k t) x)) _ _ _;refine B83 (wpAny_dictSet_pairs (hsz:=by lia) (k:=E8 k) (by rw[qSB];exact qNF k t) aa λh2 a8 sb=>?_)
  have a0:(stored Af (E8 k) x).length<=i+1:=by
   unfold stored
   split
   ·rw[A0];lia
   ·rw[A8,C1];lia
  refine B76 ⟨C00 qCS _,ih (i+1) _ _ _ (stored Af (E8 k) x) (by lia) l (W.frame _ _ _ a5 λb f o p=>?_) a8 a0 (λb o f c p=>?_) λh3 ab a6 a9=>y h3 ab a6 a9⟩
  ·rw[sb.2 b (λz:b=d=>u (z▸f))];exact p
  ·rw[sb.2 b c];exact a b o f (hk b o f c p)
end
section
variable{prog:B79}{w:World}{A:Around}{E:Aa1}{s:Shared}
theorem qO1 {l:Addr} {o:Obj} {a:Array Value} {nl:Nat} {ps:List (Int×Value)} {Q:Aa1} (hA:A.handled=none) (hl:s.heap.get? l=some o) (hc:o.cls=.type "list") (d:o.data=.seq a nl) (a6:o.dict=none) (hn:ps.length=a.size) (hz:a.size<=B77)
  (a1:∀(i:Nat) v,a[i]?=some v->∃r k t x,v=.ref r/\s.heap.IsTuple r #[.int k t,x]/\ps[i]?=some (k,x))
  (h:∀h' tk,h'.DictOf (qB3 prog w) s.heap.objs.size (ps.foldl (λm q=>stored m (E8 q.1) q.2) [])->(∀b u,s.heap.get? b=some u->h'.get? b=some u)->Q (.ref s.heap.objs.size) {s with heap:=h',toks:=tk}):
  wpAny (model prog w) A (call (.type "dict") [.ref l]) Q E s:=by
 refine callType_codes (Q₁:=λj s₁=>j=.ref s.heap.objs.size/\s₁={s with heap:=s.heap.push {cls:=.type "dict",data:=.dict #[]}}) B24 (A66 _) B06 (kt_code_dict_new _ ⟨rfl,rfl⟩) ?_;rintro j s₁ ⟨rfl,rfl⟩;have nw:(s.heap.push {cls:=.type "dict",data:=.dict #[]}).DictOf (qB3 prog w) s.heap.objs.size []:=B37 s.heap;have c:(s.heap.push {cls:=.type "dict",data:=.dict #[]}).get? l=some o:=A3 _ hl;have a4:l<s.heap.objs.size:=B1 hl;refine⟨nw.typeIs,A93 _ _,?_⟩;unfold Builtin.«dict.__init__»;refine B75 ?_;unfold A23;refine B75 (C59 nw.typeIs ?_);show wpAny _ _ (pure (s.heap.objs.size,[C8 l])) _ _ _;refine B76 ?_;show wpAny _ _ (W2 "dict.__init__" s.heap.objs.size (.ref l) [] .none) _ _ _;unfold W2;refine B75 (C14 (T:="list") ⟨o,c,hc⟩ ?_);rw[if_pos (by decide)]
 refine B75 (qNC c hc d a6 hA λh1 a9 g=>?_);rw[if_pos (show(none:Option Value).isNone=true from rfl)];have y:h1.IsList l a:=⟨o,g _ _ c,hc,nl,d⟩;have p:l<h1.objs.size:=B1 (g _ _ c);have f:s.heap.objs.size<h1.objs.size:=by
  obtain⟨_,_,_,e,_⟩:=nw;exact B1 (g _ _ e)
 refine B75 (C03 (B75 (C01 y ?_)));refine B76 ⟨C00 qCS _,?_⟩;refine qYH (n:=a.size) (A58 (A:=A.in1.in1) hA _ l (C4 p) a) h1 s.heap.objs.size ?_ ps hn hz (λi v hv=>?_) a.size 0 _ _ _ [] rfl (E7 _) ⟨⟨_,A9 _ rfl,rfl,rfl⟩,y.push _⟩ ((nw.keep g).push _) (A6 _) (λb u hb a8 eb=>A3 _ eb) λh' tk a2 a3=>?_
 ·simp only[B7,L8,or_false,not_or];exact⟨C4 f,R1 a4⟩
 ·obtain⟨r,k,t,x,e1,e2,e3⟩:=a1 i v hv;obtain⟨or,hr,a5,a7⟩:=e2;have a0:=B1 hr;refine⟨r,k,t,x,e1,?_,C4 a0,⟨or,g _ _ (A3 _ hr),a5,a7⟩,e3⟩;simp only[B7,L8,or_false];exact C4 (T6 a0 f)
 ·refine⟨rfl,h h' tk a2 λb u eb=>?_⟩;have z:=B1 eb;refine a3 b u ?_ (C4 z) (g _ _ (A3 _ eb));simp only[B7,L8,or_false];exact C4 (T6 z f)
end
theorem qGH {α β:Type} {F:α->β->Prop} :∀{l₁:List α} {l₂:List β} {i:Nat} {a:α},Paired F l₁ l₂->l₁[i]?=some a->∃b,l₂[i]?=some b/\F a b
 |_,_,_,_,.nil,e=>by simp at e
 |_,_,0,_,.cons r _,e=>by simp at e;subst e;exact⟨_,rfl,r⟩
 |_,_,i+1,a,.cons _ t,e=>by
  obtain⟨b,h1,h2⟩:=qGH (i:=i) (a:=a) t (by simpa using e)
  exact⟨b,by simpa using h1,h2⟩
theorem qIU {h:Heap} {p:Addr} {a:Array Value} (x:PlainL h p a):∃o,h.get? p=some o/\o.cls=.type "list"/\o.dict=none/\∃n,o.data=.seq a n:=by
 obtain⟨o,n,b,e,d,c⟩:=x;exact⟨o,b,e,d,n,c⟩
section
variable{X:Cx}
def qQU (H:Hp)(K:Ab1)(rs:List Addr)(ps:List (Int×V)):Prop:=Paired (λr (q:Int×V)=>SqT K H r [.int q.1,q.2]) rs ps
noncomputable def qCP (Af:List (Key×V))(ps:List (Int×V)):List (Key×V):=ps.foldl (λm q=>putK m (E8 q.1) q.2) Af
theorem qKG:∀(ps:List (Int×V)) (Af:List (Key×V)),(qCP Af ps).length<=Af.length+ps.length
 |[],Af=>by simp[qCP]
 |q::ps,Af=>by
  have:=qKG ps (putK Af (E8 q.1) q.2);have:=qC8 Af (E8 q.1) q.2;show(qCP (putK Af (E8 q.1) q.2) ps).length<=Af.length+(q::ps).length;rw[D3]
  lia
theorem qTR {Ab:List (Addr×Obj)} {σ:St} {H:Hp} (I:Inv X Ab σ H s):∀{rs:List Addr} {ps:List (Int×V)},qQU H X.K rs ps->
  ∃qs:List (Int×Value),Paired (λr (q:Int×Value)=>∃t,s.heap.IsTuple r #[.int q.1 t,q.2]) rs qs/\Paired (λ(p:Int×V) (q:Int×Value)=>p.1=q.1/\RelV p.2 q.2) ps qs:=by
 intro rs ps h;unfold qQU at h
 induction h with
 |nil=>exact⟨[],.nil,.nil⟩
 |@cons r q rs ps h t ih=>
  obtain⟨qs,c,b⟩:=ih;obtain⟨a,g,d,j⟩:=I.tuple h;obtain⟨k,f,rfl,⟨e,rfl⟩,i⟩:=qK2 g;exact⟨(q.1,f)::qs,.cons ⟨e,d⟩ c,.cons ⟨rfl,i⟩ b⟩
theorem qa5:∀{ps:List (Int×V)} {qs:List (Int×Value)} {Af:List (Key×V)} {vs:List (Key×Value)},Paired (λ(p:Int×V) (q:Int×Value)=>p.1=q.1/\RelV p.2 q.2) ps qs->KV Af vs->KV (qCP Af ps) (qs.foldl (λm q=>stored m (E8 q.1) q.2) vs):=by
 intro ps qs Af vs h
 induction h generalizing Af vs with
 |nil=>exactλr=>r
 |cons h t ih=>
  intro r;refine ih ?_;dsimp only;rw[<- h.1];exact r.put _ h.2
theorem qT0 (hc:X.calm=true):qCF X (.type "dict") (λxs H Q=>∃(p:Addr) (rs:List Addr) (ps:List (Int×V)),xs=[.ref p]/\SqL X.K H p (rs.map V.ref)/\qQU H X.K rs ps/\∀d,H d=none->Q (.ref d) (Ag H d (.dK (qCP [] ps)))):=by
 intro Ab s σ H xs us Q I r h;obtain⟨p,rs,ps,rfl,hq,hp,q⟩:=h;obtain⟨u,rfl,rx⟩:=qDQ r;cases rx;obtain⟨j,rv,pl,hz⟩:=I.list hq;obtain⟨g,y,w⟩:=qTR I hp;have l0:=rv.length;rw[A0] at l0;have l1:rs.length=g.length:=C2 y;have l2:ps.length=g.length:=C2 w;obtain⟨o,ho,k,l,n,c⟩:=qIU pl;rw[A0] at hz;refine qO1 (ps:=g) (I.ok.hd hc) ho k c l (by simp;lia) (by simp;lia) (λi v hv=>?_) λh' tk f hk=>?_
 ·have e:j[i]?=some v:=by simpa using hv
  have m:i<rs.length:=by rw[l0];exact(A5.mp e).1
  obtain⟨u,hu,ru⟩:=rv.get (i:=i) (x:=.ref rs[i]) (by rw[B6,A4 m];rfl)
  rw[e] at hu;cases hu;cases ru;obtain⟨b,hb,t,ht⟩:=qGH y (A4 m);exact⟨rs[i],b.1,t,b.2,rfl,ht,hb⟩
 ·have z:(qCP [] ps).length<=B77:=by
   have:=qKG ps [];simp at this
   lia
  refine⟨.ref s.heap.objs.size,_,I.laid (a:=s.heap.objs.size) (o:=.dK (qCP [] ps)) (t':=tk) hk (A6 _) (qVU z (beq_eq_false_iff_ne.mpr (F5 (C4 I.big))) (qa5 w .nil) f),rfl,q _ (I.hok.fresh (A6 _))⟩
def qdX (K:Ab1):R2:=λx y H Q=>∃a b xs ys,x=.ref a/\y=.ref b/\SqT K H a xs/\SqT K H b ys/\ys≠[]/\xs.length+ys.length<=B77/\(xs=[]->Q (.ref b) H)/\(xs≠[]->∀p,H p=none->Q (.ref p) (Ag H p (.tup (xs++ys))))
theorem qP0:OpR X (C04 .Add) (qdX X.K):=by
 intro Ab s σ H x y v u Q I r q h;obtain⟨a,b,o,ys,rfl,rfl,ha,l,hy,hz,q1,q2⟩:=h;by_cases k:o=[]
 ·subst k;cases r;cases q;obtain⟨a1,r1,p1,_⟩:=I.tuple ha;obtain⟨e,r2,p2,_⟩:=I.tuple l;cases r1;obtain⟨⟨a0,dd,m,sl⟩,ho,p,n,w⟩:=id p1;obtain⟨⟨t,i,g,j⟩,f,c,n2,d⟩:=id p2;simp only at p w c d;subst p w c d;exact concat_meets ⟨_,ho,rfl⟩ ⟨_,f,rfl⟩ C54 seq_tuple_add W8 V7 (V0 _ _) (tuple_addW0 a b #[] e.toArray n n2 dd i sl j rfl) ⟨ho,f,.ref b,H,I,rfl,q1 rfl⟩
 ·exact qUF Ab s σ H (.ref a) (.ref b) v u Q I r q ⟨a,b,o,ys,rfl,rfl,ha,l,k,hz,λz=>absurd z hy,λ_=>q2 k⟩
end
open PySem
noncomputable def g5:Nat->Nat
 |0=>0
 |n+1=>5*g5 n+1
theorem qQM:∀n:Nat,5^n=4*g5 n+1
 |0=>rfl
 |n+1=>by
  rw[T9,qQM n,g5]
  lia
theorem qVF (m:Nat):∀n:Nat,g5 (m+n)=5^n*g5 m+g5 n
 |0=>by simp[g5]
 |n+1=>by
  rw[<- A28,g5,qVF m n,g5,T9,j7,<- W3,V5 5 (5^n)]
  lia
theorem qZF (n:Nat):g5 (n+n)=2*(g5 n*(2*g5 n+1)):=by
 rw[qVF,qQM,B39,j7 (g5 n),j7 2];have a:4*g5 n*g5 n=2*(g5 n*(2*g5 n)):=by
  rw[A24 (g5 n) 2,<- W3 2 2,W3 4]
 rw[a]
 lia
theorem qP1 (k m:Nat)(h:m%2=1):Nat.Coprime (2^k) m:=by
 refine Nat.Coprime.pow_left k ?_;have:Nat.gcd 2 m=1:=by
  rw[Nat.gcd_rec,h]
  rfl
 exact this
theorem qZE:∀(k n:Nat),2^k ∣ g5 n->2^k ∣ n
 |0,n,_=>by simp
 |k+1,n,h=>by
  rcases Nat.mod_two_eq_zero_or_one n with e|e
  ·obtain⟨m,rfl⟩:∃m,n=m+m:=⟨n/2,by lia⟩
   rw[qZF,T9,V5 (2^k)] at h;have h2:2^k ∣ g5 m*(2*g5 m+1):=Nat.dvd_of_mul_dvd_mul_left (by decide) h
   have h3:2^k ∣ g5 m:=(qP1 k (2*g5 m+1) (by lia)).dvd_of_dvd_mul_right h2
   obtain⟨c,hc⟩:=qZE k m h3;exact⟨c,by rw[T9,V5 (2^k) 2,W3,<- hc];lia⟩
  ·obtain⟨m,rfl⟩:∃m,n=m+m+1:=⟨n/2,by lia⟩
   exfalso
   rw[g5,qZF] at h;have h2:2 ∣ 5*(2*(g5 m*(2*g5 m+1)))+1:=Nat.dvd_trans ⟨2^k,by rw[T9,V5]⟩ h
   lia
def it5 (i n:Nat):Nat:=5^n*i+g5 n
theorem qRB (i n:Nat):it5 i (n+1)=5*it5 i n+1:=by
 unfold it5;rw[T9,g5,j7,<- W3,V5 5 (5^n)]
 lia
theorem qaM {k i n d:Nat} (g:0<d)(c:d<2^k)(h:it5 i n%2^k=it5 i (n+d)%2^k):False:=by
 have e:it5 i (n+d)=it5 i n+5^n*(g5 d*(4*i+1)):=by
  unfold it5;rw[A00 n d,qVF d n,Nat.pow_add,qQM d,j7 (g5 d),Nat.mul_one,j7 (5^n)];have:(4*g5 d+1)*5^n*i=5^n*i+5^n*(g5 d*(4*i)):=by
   rw[B39,B40,B39,A00];congr 1;rw[V5 4,W3,W3,A24 (5^n),A24 4 (5^n)]
  rw[this]
  lia
 have a:2^k ∣ 5^n*(g5 d*(4*i+1)):=by
  rw[e] at h;have:=(Nat.dvd_iff_mod_eq_zero ..).mpr (Nat.sub_mod_eq_zero_of_mod_eq h.symm)
  rwa[A29] at this
 have f:2^k ∣ g5 d*(4*i+1):=(qP1 k (5^n) (by rw[qQM];lia)).dvd_of_dvd_mul_left a
 have b:2^k ∣ g5 d:=(qP1 k (4*i+1) (by lia)).dvd_of_dvd_mul_right f
 have j:=Nat.le_of_dvd g (qZE k d b)
 lia
theorem qV2 {k i j:Nat} (r:j<2^k):∃n,n<2^k/\it5 i n%2^k=j:=by
 apply G4;intro p;have q:((E6 (2^k)).map λn=>it5 i n%2^k).Nodup:=by
  rw[y7,J4];refine T1.imp_of_mem λ{a b} s l m e=>?_;have g:=D6.mp l;refine qaM (k:=k) (i:=i) (n:=a) (d:=b-a) (by lia) (by lia) ?_
  rw[show a+(b-a)=b by lia]
  exact e
 have c:((E6 (2^k)).map λn=>it5 i n%2^k) ⊆ (E6 (2^k)).filter λx=>decide (x≠j):=λx f=>by
  obtain⟨n,o,e⟩:=D4.mp f;refine E4.mpr ⟨D6.mpr (by rw[<- e];exact a9 _ (A50 k)),decide_eq_true λz=>p ⟨n,D6.mp o,e.trans z⟩⟩
 have h:=N9 q c;have t:((E6 (2^k)).filter λx=>decide (x≠j)).length<(E6 (2^k)).length:=by
  refine List.length_filter_lt_length_iff_exists.mpr ⟨j,D6.mpr r,by simp⟩
 rw[A0] at h
 lia
structure TabG (byText:Bool)(t:C06)(n:Nat):Prop where
 pow:∃k,3<=k/\t.mask+1=2^k
 dum:t.dummies=#[]
 plain:t.plain=true
 led:t.led=!byText
 size:t.place.size=n
 up:t.place.toList.Pairwise (·<·)
 le:∀j∈t.place.toList,j<=t.mask
def qIZ (mask i pt:Nat):SetTable.Probe:={j:=i,more:=O4 mask i-i,i:=i,perturb:=pt,dummy:=none}
theorem qN4 {mask i:Nat} (h:i<=mask):O4 mask i<=mask/\i<=O4 mask i/\O4 mask i<=i+9:=by
 unfold O4
 split<;>lia
section
variable{byText:Bool}{t:C06}{n:Nat}
theorem TabG.slot (T:TabG byText t n)(j:Nat):(t.slot j=.empty/\j∉t.place.toList)\/(∃i,t.slot j=.live i/\j∈t.place.toList):=by
 have k:B68 t.dummies j=false:=by rw[T.dum];rfl
 obtain⟨o,d,e⟩:=qHG (j:=j) T.up;unfold SetTable.slot;dsimp only;by_cases b:t.place[E5 t.place j]?=some j
 ·rw[if_pos (by rw[b];simp)]
  exact .inr ⟨_,rfl,by rw[<- Array.mem_def];exact Array.mem_of_getElem? b⟩
 ·rw[if_neg (by simpa using b),k,if_neg (by simp)]
  refine .inl ⟨rfl,λl=>b ?_⟩;obtain⟨i,h,c⟩:=Y7.mp l;have a:i<t.place.size:=by simpa using h
  have m:t.place.getD i j=j:=by
   rw[E9,C3 a];simpa using c
  have g:¬i<E5 t.place j:=λz=>by have:=d i z;lia
  have f:E5 t.place j=i:=by
   apply Nat.le_antisymm (Z3 g);apply Z3;intro z;have:=e (E5 t.place j) (A6 _) (by lia)
   have:=qZP j T.up _ _ z a
   lia
  rw[f,C3 a];simpa using c
theorem TabG.run (T:TabG byText t n)(h:Int)(i a:Nat):∀(more j f:Nat),(∃j',G6 t (λ_=>h+1) h (more+1+f) {j:=j,more:=more,i:=i,perturb:=a,dummy:=none}=some (.empty j' none)/\j'∉t.place.toList/\j'<=j+more)\/
  (G6 t (λ_=>h+1) h (more+1+f) {j:=j,more:=more,i:=i,perturb:=a,dummy:=none}=G6 t (λ_=>h+1) h f (qIZ t.mask ((i*5+1+a/32)%(t.mask+1)) (a/32))/\j∈t.place.toList):=by
 intro more
 induction more with
 |zero=>
  intro j f;rw[B17,A00 1 f];rcases T.slot j with⟨e,m⟩|⟨k,e,m⟩
  ·left
   refine⟨j,?_,m,A6 _⟩;unfold G6;dsimp only;rw[e]
  ·right
   refine⟨?_,m⟩;rw[G6];dsimp only;rw[e];dsimp only;rw[if_neg (by simp;lia)]
   rfl
 |succ more ih=>
  intro j f;rw[show more+1+1+f=more+1+f+1 by lia]
  rcases T.slot j with⟨e,m⟩|⟨k,e,m⟩
  ·left
   refine⟨j,?_,m,B25 _ _⟩;unfold G6;dsimp only;rw[e]
  ·have c:G6 t (λ_=>h+1) h (more+1+f+1) {j:=j,more:=more+1,i:=i,perturb:=a,dummy:=none}=G6 t (λ_=>h+1) h (more+1+f) {j:=j+1,more:=more,i:=i,perturb:=a,dummy:=none}:=by
    rw[G6];dsimp only;rw[e];dsimp only;rw[if_neg (by simp;lia)]
    unfold SetTable.advance;dsimp only;rw[if_pos (by lia)]
    rfl
   rw[c];rcases ih (j+1) f with⟨j',b,d,g⟩|⟨b,_⟩
   ·exact .inl ⟨j',b,d,by lia⟩
   ·exact .inr ⟨b,m⟩
theorem TabG.leap (T:TabG byText t n)(h:Int)(i a F:Nat)(hi:i<=t.mask)(g:10<=F):(∃j',G6 t (λ_=>h+1) h F (qIZ t.mask i a)=some (.empty j' none)/\j'∉t.place.toList/\j'<=t.mask)\/
  (∃F',F<=F'+10/\G6 t (λ_=>h+1) h F (qIZ t.mask i a)=G6 t (λ_=>h+1) h F' (qIZ t.mask ((i*5+1+a/32)%(t.mask+1)) (a/32))/\i∈t.place.toList):=by
 obtain⟨j,k,d⟩:=qN4 hi;have e:F=(O4 t.mask i-i)+1+(F-1-(O4 t.mask i-i)):=by lia
 rcases T.run h i a (O4 t.mask i-i) i (F-1-(O4 t.mask i-i)) with⟨j',c,b,f⟩|⟨c,b⟩
 ·refine .inl ⟨j',?_,b,by lia⟩
  rw[e];exact c
 ·refine .inr ⟨F-1-(O4 t.mask i-i),by lia,?_,b⟩
  conv=>lhs;rw[e]
  exact c
theorem TabG.go0 (T:TabG byText t n)(h:Int):∀(m q i F:Nat),i<=t.mask->10*m<=F->(∃j',G6 t (λ_=>h+1) h F (qIZ t.mask (it5 i q%(t.mask+1)) 0)=some (.empty j' none)/\j'∉t.place.toList/\j'<=t.mask)\/(∀c,c<m->it5 i (q+c)%(t.mask+1)∈t.place.toList)
 |0,q,i,F,hi,hF=>.inr λc hc=>absurd hc (by lia)
 |m+1,q,i,F,hi,hF=>by
  have lt:it5 i q%(t.mask+1)<t.mask+1:=a9 _ (by lia)
  rcases T.leap h (it5 i q%(t.mask+1)) 0 F (by lia) (by lia) with ok|⟨F',hF',e,z⟩
  ·exact .inl ok
  ·have e2:((it5 i q%(t.mask+1))*5+1+0/32)%(t.mask+1)=it5 i (q+1)%(t.mask+1):=by
    rw[qRB,A51,m4,V5,A81,A82,Nat.mod_mod,<- A82,<- A81]
   rw[e2,A51] at e;rw[e];rcases T.go0 h m (q+1) i F' hi (by lia) with ok|all
   ·exact .inl ok
   ·refine .inr λc hc=>?_;cases c with
    |zero=>exact z
    |succ c=>
     have:=all c (by lia)
     rw[show q+(c+1)=q+1+c by lia]
     exact this
theorem TabG.goK (T:TabG byText t n)(hn:n<=t.mask)(h:Int):∀(k i pt F:Nat),i<=t.mask->pt<32^k->10*(k+(t.mask+1))<=F->∃j',G6 t (λ_=>h+1) h F (qIZ t.mask i pt)=some (.empty j' none)/\j'∉t.place.toList/\j'<=t.mask
 |0,i,pt,F,hi,hp,hF=>by
  have e:pt=0:=by lia
  subst e;have e0:it5 i 0%(t.mask+1)=i:=by
   unfold it5 g5;rw[Nat.pow_zero,B40,m4,B26 (by lia)]
  have q:=T.go0 h (t.mask+1) 0 i F hi (by lia)
  rw[e0] at q;rcases q with ok|all
  ·exact ok
  ·exfalso
   obtain⟨k,_,hk⟩:=T.pow;have sub:E6 (t.mask+1) ⊆ t.place.toList:=λj hj=>by
    have hj':=D6.mp hj;rw[hk] at hj';obtain⟨m,hm,e⟩:=qV2 (i:=i) hj';rw[<- hk] at hm e;have:=all m hm;rw[B17,e] at this;exact this
   have:=N9 m8 sub;have hs:=T.size;simp at this
   lia
 |k+1,i,pt,F,hi,hp,hF=>by
  rcases T.leap h i pt F hi (by lia) with ok|⟨F',hF',e,z⟩
  ·exact ok
  ·rw[e];have lt:(i*5+1+pt/32)%(t.mask+1)<t.mask+1:=a9 _ (by lia)
   refine T.goK hn h k _ _ F' (by lia) ?_ (by lia)
   rw[T9] at hp
   lia
theorem qWE (h:Int):J1 h<32^13:=by
 unfold J1;have a:0<=h%(2^64:Int):=X9 _ (by decide)
 have b:h%(2^64:Int)<2^64:=U0 _ (by decide)
 have:((2:Int)^64)=18446744073709551616:=by decide
 rw[this] at a b ⊢;have c:(32:Nat)^13=36893488147419103232:=by decide
 lia
theorem TabG.free (T:TabG byText t n)(b:n<=t.mask)(h:Int):∃j,t.freeSlot h=some (j,false)/\j∉t.place.toList/\j<=t.mask:=by
 have c:J1 h%(t.mask+1)<t.mask+1:=a9 _ (by lia)
 obtain⟨j,e,z,l⟩:=T.goK b h 13 (J1 h%(t.mask+1)) (J1 h) (10*U4 t.mask) (by lia) (qWE h) (by unfold U4;lia)
 refine⟨j,?_,z,l⟩;unfold SetTable.freeSlot SetTable.probe;have a:t.probeStart h=qIZ t.mask (J1 h%(t.mask+1)) (J1 h):=rfl;rw[a,e]
 rfl
theorem TabG.lay (T:TabG byText t n)(hn:n<t.mask){es:Array (Int×Value)}(y:es.size=n)(h:Int)(x:Value):
  ∃p t',layNew t es h x=(F6 es p (h,x),t',false,false)/\TabG byText t' (n+1)/\t'.mask=t.mask/\p<=es.size:=by
 obtain⟨j,e,z,l⟩:=T.free (by lia) h
 obtain⟨o,s,u⟩:=qHG (j:=j) T.up;have hd:B68 t.dummies j=false:=by rw[T.dum];rfl
 have k:(F6 t.place (E5 t.place j) j).toList=t.place.toList.take (E5 t.place j)++j::t.place.toList.drop (E5 t.place j):=qDF _ _ _;have q:(F6 t.place (E5 t.place j) j).size=n+1:=by
  rw[<- C0,k,A8,D3,C5,G0,C0,T.size];rw[T.size] at o
  lia
 have v:TabG byText {t with place:=F6 t.place (E5 t.place j) j,dummies:=t.dummies} (n+1):=by
  refine⟨T.pow,T.dum,T.plain,T.led,q,?_,?_⟩
  ·show(F6 t.place (E5 t.place j) j).toList.Pairwise (·<·);rw[k];have r:∀a∈t.place.toList.take (E5 t.place j),a<j:=λa f=>by
    obtain⟨i,hi,c⟩:=Y7.mp f;rw[C5,C0] at hi;have d:i<t.place.size:=by lia
    have:=s i (by lia)
    rw[E9,C3 d] at this;rw[A20] at c;rw[<- c];simpa using this
   have hi:∀a∈t.place.toList.drop (E5 t.place j),j<a:=λa f=>by
    have hm:a∈t.place.toList:=U6 f;obtain⟨i,hi,c⟩:=Y7.mp f;rw[G0,C0] at hi;have d:E5 t.place j+i<t.place.size:=by lia
    have:=u _ (B25 _ i) d;rw[E9,C3 d] at this;rw[A19] at c;have w:j<=a:=by
     rw[<- c];simpa using this
    rcases Nat.lt_or_eq_of_le w with h4|h4
    ·exact h4
    ·exact absurd (h4▸hm) z
   refine Q6.mpr ⟨T.up.sublist (Y1 _ _),Q4.mpr ⟨hi,T.up.sublist (V4 _ _)⟩,λa f b hb=>?_⟩;rcases B7.mp hb with e|hb
   ·rw[e];exact r a f
   ·exact T6 (r a f) (hi b hb)
  ·show∀i∈(F6 t.place (E5 t.place j) j).toList,i<=t.mask;rw[k];intro i hi;rcases B0.mp hi with hi|hi
   ·exact T.le i (Q7 hi)
   ·rcases B7.mp hi with e|hi
    ·lia
    ·exact T.le i (U6 hi)
 have g:o6 {t with place:=F6 t.place (E5 t.place j) j,dummies:=t.dummies} (n+1)=true:=by
  unfold o6 A30;dsimp only;rw[q,T.dum];have:((#[]:Array Nat)).size=0:=rfl;simp only[this,beq_self_eq_true,o8,decide_eq_true_eq]
  lia
 have m:(F6 es (E5 t.place j) (h,x)).size=n+1:=by
  rw[<- C0,qDF,A8,D3,C5,G0,C0];rw[T.size] at o
  lia
 refine⟨E5 t.place j,{t with place:=F6 t.place (E5 t.place j) j,dummies:=t.dummies},?_,v,rfl,by rw[y,<- T.size];exact o⟩
 unfold layNew;rw[e];dsimp only;unfold SetTable.put;rw[hd];dsimp only;rw[m];unfold SetTable.orStandIn;simp only[G7,if_false];rw[g];simp
end
theorem qU4 {α:Type} :∀{l m:List α},l.Nodup->m.Nodup->(∀x,x∈l↔x∈m)->l.Perm m
 |[],[],_,_,_=>.refl _
 |[],y::m,_,_,h=>absurd ((h y).mpr F0) (by simp)
 |x::l,m,hl,hm,h=>by
  obtain⟨s,t,rfl⟩:=List.append_of_mem ((h x).mp F0);have l1:=P4.mp hl;have m1:(x::(s++t)).Nodup:=(A37.nodup_iff).mp hm;have m2:=P4.mp m1;refine((qU4 l1.2 m2.2 λy=>?_).cons x).trans A37.symm;have key:=h y;rw[B7,A37.mem_iff,B7] at key
  constructor
  ·intro hy;rcases key.mp (.inr hy) with e|e
   ·exact absurd (e▸hy) l1.1
   ·exact e
  ·intro hy;rcases key.mpr (.inr hy) with e|e
   ·exact absurd (e▸hy) m2.1
   ·exact e
theorem qHJ:∀(fuel k n:Nat),3<=k->n<2^k*2^fuel->∃k',3<=k'/\A52 n fuel (2^k)=2^k'/\n<2^k'
 |0,k,n,hk,h=>⟨k,hk,rfl,by simpa using h⟩
 |fuel+1,k,n,hk,h=>by
  rw[A52];by_cases c:2^k<=n
  ·rw[if_pos c,<- T9];exact qHJ fuel (k+1) n (by lia) (by rw[T9,W3,<- Nat.pow_succ'];exact h)
  ·rw[if_neg c];exact⟨k,hk,rfl,by lia⟩
theorem qN1 {n:Nat} (h:n<=1000000):∃k,3<=k/\c6 n=2^k/\n<2^k:=by
 unfold c6;exact qHJ 64 3 n (A6 _) (X3 h (by decide))
section
variable{mask:Nat}{owner:Array (Option Nat)}
theorem qcT (i a F:Nat)(hi:i<=mask):(∃j,F9 mask owner (F+1) i a=some j/\owner.getD j (some 0)=none/\j<=mask)\/
  (F9 mask owner (F+1) i a=F9 mask owner F ((i*5+1+a/32)%(mask+1)) (a/32)/\owner.getD i (some 0)≠none):=by
 obtain⟨f,g,c⟩:=qN4 hi;cases e:(E6 (O4 mask i+1-i)).find? λk=>(owner.getD (i+k) (some 0)).isNone with
 |some k=>
  left
  have b:=A53 e;have d:=D6.mp (Z1 e);refine⟨i+k,?_,by simpa using b,by lia⟩
  rw[F9,e]
 |none=>
  right
  refine⟨?_,?_⟩
  ·rw[F9,e]
   rfl
  ·have:=A94.mp e 0 (D6.mpr (by lia))
   simpa using this
theorem qcU:∀(m q i F:Nat),i<=mask->m<=F->(∃j,F9 mask owner F (it5 i q%(mask+1)) 0=some j/\owner.getD j (some 0)=none/\j<=mask)\/(∀c,c<m->owner.getD (it5 i (q+c)%(mask+1)) (some 0)≠none)
 |0,q,i,F,hi,hF=>.inr λc hc=>absurd hc (by lia)
 |m+1,q,i,F,hi,hF=>by
  have lt:it5 i q%(mask+1)<mask+1:=a9 _ (by lia)
  obtain⟨F',rfl⟩:∃F',F=F'+1:=⟨F-1,by lia⟩
  rcases qcT (mask:=mask) (owner:=owner) (it5 i q%(mask+1)) 0 F' (by lia) with ok|⟨e,z⟩
  ·exact .inl ok
  ·have e2:((it5 i q%(mask+1))*5+1+0/32)%(mask+1)=it5 i (q+1)%(mask+1):=by
    rw[qRB,A51,m4,V5,A81,A82,Nat.mod_mod,<- A82,<- A81]
   rw[e2,A51] at e;rw[e];rcases qcU m (q+1) i F' hi (by lia) with ok|all
   ·exact .inl ok
   ·refine .inr λc hc=>?_;cases c with
    |zero=>exact z
    |succ c=>
     have:=all c (by lia)
     rw[show q+(c+1)=q+1+c by lia]
     exact this
theorem qcS {p:Nat} (hp:mask+1=2^p){j0:Nat}(h0:j0<=mask)(hj0:owner.getD j0 (some 0)=none):∀(k i pt F:Nat),i<=mask->pt<32^k->k+(mask+1)<=F->∃j,F9 mask owner F i pt=some j/\owner.getD j (some 0)=none/\j<=mask
 |0,i,pt,F,hi,hpt,hF=>by
  have e:pt=0:=by lia
  subst e;have e0:it5 i 0%(mask+1)=i:=by
   unfold it5 g5;rw[Nat.pow_zero,B40,m4,B26 (by lia)]
  have q:=qcU (mask:=mask) (owner:=owner) (mask+1) 0 i F hi (by lia)
  rw[e0] at q;rcases q with ok|all
  ·exact ok
  ·exfalso
   obtain⟨m,hm,e⟩:=qV2 (k:=p) (i:=i) (j:=j0) (by lia)
   rw[<- hp] at hm e;have:=all m hm;rw[B17,e] at this;exact this hj0
 |k+1,i,pt,F,hi,hpt,hF=>by
  obtain⟨F',rfl⟩:∃F',F=F'+1:=⟨F-1,by lia⟩
  rcases qcT (mask:=mask) (owner:=owner) i pt F' hi with ok|⟨e,z⟩
  ·exact ok
  ·rw[e];have lt:(i*5+1+pt/32)%(mask+1)<mask+1:=a9 _ (by lia)
   refine qcS hp h0 hj0 k _ _ F' (by lia) ?_ (by lia)
   rw[T9] at hpt
   lia
end
structure Own (N:Nat)(L:List Nat)(owner:Array (Option Nat)):Prop where
 size:owner.size=N
 nd:L.Nodup
 lt:∀j∈L,j<N
 at_:∀(m j:Nat),L[m]?=some j->owner[j]?=some (some m)
 no:∀j,j<N->j∉L->owner[j]?=some none
theorem Own.put {N:Nat} {L:List Nat} {owner:Array (Option Nat)} (o:Own N L owner){j:Nat}(e:j<N)(d:j∉L):Own N (L++[j]) (owner.setIfInBounds j (some L.length)):=by
 refine⟨by simp[o.size],qH5 o.nd d,λi hi=>?_,λm i h=>?_,λi hi a=>?_⟩
 ·rcases B0.mp hi with hi|hi
  ·exact o.lt i hi
  ·rw[A7.mp hi];exact e
 ·by_cases c:m<L.length
  ·rw[J2 c] at h;have b:j≠i:=λz=>d (z▸B5 h);rw[j8 b];exact o.at_ m i h
  ·rw[G1 (by lia)] at h
   have f:m=L.length:=by
    have:=(A5.mp h).1;simp at this
    lia
   subst f;rw[A03] at h;cases h;rw[Array.getElem?_setIfInBounds_self_of_lt (by rw[o.size];exact e)]
 ·have b:j≠i:=λz=>a (B0.mpr (.inr (by rw[z];exact A7.mpr rfl)))
  rw[j8 b];exact o.no i hi λz=>a (B0.mpr (.inl z))
theorem qQW {mask p:Nat} (hp:mask+1=2^p):∀(hs:List Int) (L:List Nat) (owner:Array (Option Nat)),Own (mask+1) L owner->L.length+hs.length<=mask->
  ∃L' owner',hs.foldl (λ(acc:Option (Array (Option Nat)×Nat)) (h:Int)=>acc >>= λx=>F9 mask x.1 (U4 mask) (J1 h%(mask+1)) (J1 h) >>= λj=>some (x.1.setIfInBounds j (some x.2),x.2+1)) (some (owner,L.length))=some (owner',L'.length)/\Own (mask+1) L' owner'/\L'.length=L.length+hs.length
 |[],L,owner,o,_=>⟨L,owner,rfl,o,by simp⟩
 |h::hs,L,owner,o,hl=>by
  rw[D3] at hl;obtain⟨j0,hj0,hjn⟩:∃j0,j0<mask+1/\j0∉L:=by
   apply G4;intro no;have sub:E6 (mask+1) ⊆ L:=λj hj=>G4 λz=>no ⟨j,D6.mp hj,z⟩;have:=N9 m8 sub;simp at this
   lia
  have g0:owner.getD j0 (some 0)=none:=by
   rw[E9,o.no j0 hj0 hjn]
   rfl
  have lt:J1 h%(mask+1)<mask+1:=a9 _ (by lia)
  obtain⟨j,e,z,l⟩:=qcS hp (by lia) g0 13 (J1 h%(mask+1)) (J1 h) (U4 mask) (by lia) (qWE h) (by unfold U4;lia)
  have jn:j∉L:=λhm=>by
   obtain⟨m,hm⟩:=M9 hm;rw[E9,o.at_ m j hm] at z;cases z
  have st:=o.put (show j<mask+1 by lia) jn
  obtain⟨L',owner',e1,o',e2⟩:=qQW hp hs (L++[j]) _ st (by rw[A8,C1];lia)
  refine⟨L',owner',?_,o',by rw[e2,A8,C1,D3];lia⟩
  rw[V1];have e3:((some (owner,L.length):Option (Array (Option Nat)×Nat)) >>= λx=>F9 mask x.1 (U4 mask) (J1 h%(mask+1)) (J1 h) >>= λj=>some (x.1.setIfInBounds j (some x.2),x.2+1))=some (owner.setIfInBounds j (some L.length),(L++[j]).length):=by
   show(F9 mask owner (U4 mask) (J1 h%(mask+1)) (J1 h) >>= _)=_;rw[e,A8,C1]
   rfl
  rw[e3];exact e1
theorem qaA (N:Nat):Own N [] (B41 N none):=⟨by simp,.nil,λ_ h=>(nomatch h),λm j h=>by simp at h,λj a _=>by simp[a]⟩
theorem qPC {mask p:Nat} (d:mask+1=2^p)(a:Array Int)(c:a.size<=mask):∃L owner,B07 mask a=some owner/\Own (mask+1) L owner/\L.length=a.size:=by
 obtain⟨L,owner,e,o,l⟩:=qQW d a.toList [] _ (qaA (mask+1)) (by simpa using c)
 refine⟨L,owner,?_,o,by simpa using l⟩
 unfold B07;rw [<- Array.foldl_toList];have:(a.toList.foldl (fun (b:Option (Array (Option Nat) × Nat)) (h:Int)=>do
   let(owner,k) <- b
   let j <- F9 mask owner (U4 mask) (J1 h%(mask+1)) (J1 h)
   pure (owner.setIfInBounds j (some k),k+1)) (some (B41 (mask+1) none,0)))=some (owner,L.length):=e
 rw[this]
 rfl
theorem qN6 {α:Type} :∀l:List α,(E6 l.length).filterMap (λi=>l[i]?)=l
 |[]=>rfl
 |a::l=>by
  rw[D3,A43,O5];show a::((E6 l.length).map Nat.succ).filterMap (λi=>(a::l)[i]?)=a::l;rw[A91];congr 1;exact qN6 l
theorem qX7 {b:Bool} {t:C06} {n:Nat} (T:TabG b t n){es:Array (Int×Value)}(v:es.size=n){wanted:Nat}(hw:wanted<=1000000)(hn:n<wanted):
  ∃es' t',relayAll t es wanted=(es',t',false)/\es'.toList.Perm es.toList/\TabG b t' n/\wanted<=t'.mask:=by
 obtain⟨k,k3,hk,a2⟩:=qN1 hw;have u:c6 wanted-1+1=2^k:=by rw[hk];have:=A50 k;lia
 have h8:8<=2^k:=by
  have:=L0 (n:=2) (by decide) k3
  exact this
 obtain⟨L,f,e,o,l⟩:=qPC u (es.map (·.1)) (by rw[A10,v,hk];lia)
 rw[A10,v] at l;generalize hM:c6 wanted-1=M at *;have fa:∀j m,(f.getD j none).map (λx=>(j,x))=some (j,m)↔L[m]?=some j:=by
  intro j m;rw[E9];by_cases q:j<M+1
  ·by_cases p:j∈L
   ·obtain⟨m',g⟩:=M9 p;rw[o.at_ m' j g]
    constructor
    ·intro z;have:m'=m:=by simpa using z
     rw[<- this];exact g
    ·intro z;have:some (some m')=some (some m):=(o.at_ m' j g).symm.trans (o.at_ m j z);cases this
     rfl
   ·rw[o.no j q p]
    constructor
    ·intro z;simp at z
    ·intro z;exact absurd (B5 z) p
  ·rw[A44 (by rw[o.size];lia)]
   constructor
   ·intro z;simp at z
   ·intro z;exact absurd (o.lt j (B5 z)) q
 have r:∀j x,x∈((f.getD j none).map λy=>(j,y))->x.1=j/\L[x.2]?=some j:=by
  intro j x h;have w:(f.getD j none).map (λy=>(j,y))=some x:=h;obtain⟨y,hy,e⟩:=A42.mp w;subst e;exact⟨rfl,(fa j y).mp w⟩
 generalize hlive:(E6 (M+1)).filterMap (λj=>(f.getD j none).map (λx=>(j,x)))=d;have p1:d.Pairwise λa c=>a.1<c.1:=by
  rw[<- hlive,c8];refine T1.imp λ{a c} s x h y hy=>?_;rw[(r a x h).1,(r c y hy).1];exact s
 have p2:d.Pairwise λa c=>a.2≠c.2:=by
  rw[<- hlive,c8];refine T1.imp λ{a c} s x h y hy z=>?_;have h1:=(r a x h).2;have h2:=(r c y hy).2;rw[z,h2] at h1;cases h1
  lia
 have a1:∀m,m∈d.map (·.2)↔m∈E6 n:=by
  intro m;rw[D4,D6]
  constructor
  ·rintro⟨x,h,rfl⟩;rw[<- hlive] at h;obtain⟨j,_,q⟩:=P2.mp h;have:=(A5.mp (r j x q).2).1
   lia
  ·intro hm;have g:m<L.length:=by lia
   have hL:=A4 g;refine⟨(L[m],m),?_,rfl⟩;rw[<- hlive];exact P2.mpr ⟨L[m],D6.mpr (o.lt _ (T4 g)),(fa L[m] m).mpr hL⟩
 have pm:(d.map (·.2)).Perm (E6 n):=qU4 (by rw[y7,J4];exact p2) m8 a1
 have ll:d.length=n:=by have:=pm.length_eq;simpa using this
 have es':((d.map (·.2)).toArray.filterMap (λi=>es[i]?)).toList.Perm es.toList:=by
  rw[Array.toList_filterMap];have:=pm.filterMap (λi=>es[i]?);have e2:(E6 n).filterMap (λi=>es[i]?)=es.toList:=by
   have:=qN6 es.toList;rw[C0,v] at this;simpa using this
  rw[e2] at this;simpa using this
 have a0:((d.map (·.2)).toArray.filterMap (λi=>es[i]?)).size=n:=by
  rw[<- C0,es'.length_eq,C0,v]
 refine⟨(d.map (·.2)).toArray.filterMap (λi=>es[i]?),{mask:=M,place:=(d.map (·.1)).toArray,dummies:=#[],finger:=t.finger,led:=t.led,moves:=t.movedTo M,plain:=t.plain},?_,es',⟨⟨k,k3,u⟩,rfl,T.plain,T.led,by simp[ll],?_,?_⟩,?_⟩
 ·have er:t.relaid (es.map (·.1)) wanted=some ({mask:=M,place:=(d.map (·.1)).toArray,dummies:=#[],finger:=t.finger,led:=t.led,moves:=t.movedTo M,plain:=t.plain},(d.map (·.2)).toArray):=by
   unfold SetTable.relaid SetTable.laid;rw[hM,e];show some _=some _;rw[<- hlive]
  unfold relayAll;rw[er];dsimp only;have c1:coversAll (d.map (·.2)).toArray es.size=true:=by
   unfold coversAll;rw[v];exact List.isPerm_iff.mpr pm
  have c2:o6 {mask:=M,place:=(d.map (·.1)).toArray,dummies:=#[],finger:=t.finger,led:=t.led,moves:=t.movedTo M,plain:=t.plain} ((d.map (·.2)).toArray.filterMap (λi=>es[i]?)).size=true:=by
   unfold o6 A30;rw[a0];simp[ll]
   lia
  rw[c1,c2]
  rfl
 ·show(d.map (·.1)).toArray.toList.Pairwise (·<·);rw[A83,J4];exact p1
 ·show∀j∈(d.map (·.1)).toArray.toList,j<=M;intro j q;rw[A83] at q;obtain⟨x,h,rfl⟩:=D4.mp q;rw[<- hlive] at h;obtain⟨i,hi,h⟩:=P2.mp h;rw[(r i x h).1];have:=D6.mp hi
  lia
 ·show wanted<=M
  lia
def SetG (w:World)(a:Addr)(zs:List Int)(h:Heap):Prop:=
 ∃(es:Array (Int×Value)) (ep:Nat) (t:C06) (ks:List Int),h.get? a=some {cls:=.type "set",data:=.set es ep t}/\TabG (byT w) t es.size/\Ents ks es.toList/\ks.Perm zs/\zs.Nodup/\zs.length<4095/\es.size*5<t.mask*3
theorem SetG.at {a:Addr} {zs:List Int} {h h':Heap} (x:SetG w a zs h)(k:∀o,h.get? a=some o->h'.get? a=some o):SetG w a zs h':=
 let⟨es,ep,t,ks,h1,r⟩:=x;⟨es,ep,t,ks,k _ h1,r⟩
theorem TabG.fits {b:Bool} {t:C06} {n:Nat} (T:TabG b t n)(a:n<=t.mask):t.fits n=true:=by
 unfold o6 A30;rw[T.size,T.dum];have:((#[]:Array Nat)).size=0:=rfl;simp only[this,beq_self_eq_true,o8,decide_eq_true_eq]
 lia
theorem TabG.mask7 {b:Bool} {t:C06} {n:Nat} (T:TabG b t n):7<=t.mask:=by
 obtain⟨k,a,c⟩:=T.pow;have:=L0 (n:=2) (by decide) a
 lia
theorem insertAt_perm {es:Array (Int×Value)} {p:Nat} {x:Int×Value} :(F6 es p x).toList.Perm (es.toList++[x]):=by
 rw[qDF];have a:es.toList++[x]=es.toList.take p++(es.toList.drop p++[x]):=by
  rw[<- M7,l8]
 rw[a];exact k8 _ (List.perm_append_singleton _ _).symm
section
variable{prog:B79}{w:World}{A:Around}{E:Aa1}{s:Shared}
theorem qYZ {a:Addr} {es es':Array (Int×Value)} {ep:Nat} {t t':C06} {h:Heap} (b:h.get? a=some {cls:=.type "set",data:=.set es ep t}):
  (h.update a (Obj.putSet es' t')).get? a=some {cls:=.type "set",data:=.set es' (ep+1) t'}:=by
 have:=L5 (Obj.putSet es' t') b (by rw[putSet_of _ _ (ep:=ep) (es:=es) (t:=t) rfl];rfl)
 rw[putSet_of _ _ (ep:=ep) (es:=es) (t:=t) rfl] at this;exact this
theorem qX1 {a:Addr} {zs:List Int} {k:Int} {tk:Tok} {Q:Bool->Shared->Prop} (hS:SetG w a zs s.heap)(a2:zs.length<4094)
  (h:∀h',Heap.SameBut a s.heap h'->SetG w a (addI zs k) h'->∀b,Q b {s with heap:=h'}):wpAny (model prog w) A (setAddHashed a (.int k tk) (hashInt k)) Q E s:=by
 obtain⟨c,ep,t,ks,v,T,u,y,a0,a3,r⟩:=id hS;have g:c.size=zs.length:=SetI.size (a:=a) (h:=s.heap) u y;have m:ElemsOf (C27 prog w) c.toList:=u.elems;have h7:=T.mask7;have hb:c.size<scanBound:=by rw[g];unfold scanBound;lia
 have hf:t.fits c.size=true:=T.fits (by lia)
 unfold setAddHashed setAddHashedIn;refine B83 (B75 (C05 v rfl hf ?_));dsimp only;rw[byScan_of (knd:=C27 prog w) (x:=.int k tk) rfl hb m];simp only[↓reduceIte];unfold setAddByScan;refine B75 ?_;refine B75 (C03 ?_);refine B75 (wpAny_setScan_of (knd:=C27 prog w) (k:=k) (intKind_is _ _ _ _) v rfl hf m ?_);have f:=Ents.find (prog:=prog) (w:=w) (k:=k) u;cases hr:B59 (λe=>(C27 prog w).is k e.2) c.toList with
 |some j=>
  dsimp only;rw[hr] at f;have i:k∈zs:=y.mem_iff.mp (f.mp rfl);refine B76 (B76 ?_);have e:s={s with heap:=s.heap}:=by cases s;rfl
  rw[e];refine h s.heap (Heap.SameBut.refl a s.heap) ?_ _;unfold addI;rw[if_pos i];exact hS
 |none=>
  dsimp only;rw[hr] at f;have i:¬k∈zs:=λz=>by have:=f.mpr (y.mem_iff.mpr z);cases this
  obtain⟨p,t',e1,n,tm,a4⟩:=T.lay (by lia) rfl (hashInt k) (.int k tk)
  rw[e1];dsimp only;refine B75 (B76 ?_);rw[n.plain];simp only[↓reduceIte];rw[hashByValue_scannable 8 (x:=.int k tk) rfl];refine B75 (B76 ?_);have d:(F6 c p (hashInt k,U8 k tk)).size=c.size+1:=by
   rw[<- C0,insertAt_perm.length_eq,A8,C0]
   rfl
  rw[show plainKind (U8 k tk)=true from rfl];simp only[↓reduceIte];show wpAny _ _ (storeSet a (F6 c p (hashInt k,.int k tk)) t' >>= _) _ _ _;refine B75 (wpAny_storeSet_of v rfl ?_ (by rw[d,g,B88];lia))
  have o:∀(es2:Array (Int×Value)) (ep2:Nat) (t2:C06) (h2:Heap),h2.get? a=some {cls:=.type "set",data:=.set es2 ep2 t2}->es2.toList.Perm (F6 c p (hashInt k,U8 k tk)).toList->TabG (byT w) t2 (c.size+1)->(c.size+1)*5<t2.mask*3->SetG w a (addI zs k) h2:=by
   intro es2 ep2 t2 h2 g2 pm T2 q;obtain⟨a1,h4,h5⟩:=Ents.perm (ks:=ks++[k]) (R9 u ⟨tk,rfl⟩) (pm.trans insertAt_perm);have l:es2.size=c.size+1:=by rw[<- d,<- C0,pm.length_eq,C0]
   refine⟨es2,ep2,t2,a1,g2,by rw[l];exact T2,h4,?_,?_,?_,by rw[l];exact q⟩
   ·unfold addI;rw[if_neg i];exact h5.trans (y.append_right _)
   ·unfold addI;rw[if_neg i];exact qH5 a0 i
   ·unfold addI;rw[if_neg i,A8,C1]
    lia
  have hg:=qYZ (es':=F6 c p (hashInt k,.int k tk)) (t':=t') v;have fill:t'.fill=c.size+1:=by
   unfold A30;rw[n.size,n.dum]
   rfl
  cases tf:t'.tooFull with
  |false=>
   simp only[k7,G7,↓reduceIte];refine B76 (B76 ?_);refine h _ (P9 s.heap a _) (o _ _ _ _ hg (.refl _) n ?_) _;unfold SetTable.tooFull at tf;rw[fill] at tf;have:=of_decide_eq_false tf
   lia
  |true=>
   simp only[B46,Bool.and_self,↓reduceIte];rw[d];have gr:A75 (c.size+1)=(c.size+1)*4:=by
    unfold A75;rw[if_neg (by lia)]
   obtain⟨es2,t2,e2,p2,T2,m2⟩:=qX7 n d (wanted:=A75 (c.size+1)) (by rw[gr];lia) (by rw[gr];lia)
   rw[gr] at m2;rw[e2];dsimp only;refine B75 (B76 ?_);refine B75 (wpAny_storeSet_of hg rfl ?_ (by rw[<- C0,p2.length_eq,C0,d,g,B88];lia))
   refine B76 (B76 ?_);exact h _ ((P9 s.heap a _).trans (P9 _ a _)) (o _ _ _ _ (qYZ hg) p2 T2 (by lia)) _
end
section
variable{prog:B79}{w:World}{A:Around}{R:Result->Shared->Prop}{I:Addr}{fp wr:List Addr}{G:Array C37->Array C37->Prop}{n:Nat}{P:Nat->Value->Prop}{St:Nat->Shared->Prop}
theorem qHK (W:WalksS prog w A.in1 I fp wr G n P St)(S:Addr)(g:S∉fp)(ns:List Int)(a3:ns.length=n)(h4:n<=4000)(u:∀i v,P i v->∃t,v=.int (ns.getD i 0) t):
  ∀(k i:Nat) (s:Shared),n-i=k->i<=n->St i s->SetG w S (dedI (ns.take i)) s.heap->
   (∀s',Moved (S::wr) G s s'->SetG w S (dedI ns) s'.heap->R (.ok (.ret .none)) s')->
   C16 (model prog w) A (.builtin "set.update.loop" ⟨[.ref S,.ref I],[]⟩) R s:=by
 have x:S∉wr:=λh=>g (W.sub _ h);have a:∀b∈wr,b∈S::wr:=λb j=>B9 _ j;intro k
 induction k with
 |zero=>
  intro i s hk hi c hS hR;have a1:i=n:=by lia
  subst a1;refine B91 F.entry_set_update_loop ?_;rw[F8 F.plain_set_update_loop _];show wpAny _ A.in1 (pyNext (.ref I) >>= _) _ _ s;refine B75 (W.done s _ _ c λs' z=>?_);show wpAny _ A.in1 (ret M6) _ _ s';rw[C6 (by lia)] at hS
  exact B76 (hR s' (z.mono a) (hS.at λo e=>z.heap S _ x e))
 |succ k ih=>
  intro i s hk hi c hS hR;have p:i<n:=by lia
  refine B91 F.entry_set_update_loop ?_;rw[F8 F.plain_set_update_loop _];show wpAny _ A.in1 (pyNext (.ref I) >>= _) _ _ s;refine B75 (W.item i s _ _ p c λv s' hP r z=>?_);obtain⟨t,rfl⟩:=u i v hP;have a0:SetG w S (dedI (ns.take i)) s'.heap:=hS.at λo e=>z.heap S _ x e;show wpAny _ A.in1 (C21 [U8 (ns.getD i 0) t] (setAdd S (.int (ns.getD i 0) t)) >>= _) _ _ s';refine B75 (B83 ?_);unfold setAdd;refine B83 ?_;refine B75 ((C27 prog w).pyHash (k:=ns.getD i 0) (intKind_is _ _ _ _) ?_);have d:(dedI (ns.take i)).length<4094:=by
   have:=qDU (ns.take i) [];rw[C5] at this;unfold dedI;simp at this
   lia
  refine qX1 (s:={s' with toks:=s'.toks+1}) a0 d λh' l m b=>?_;have e2:addI (dedI (ns.take i)) (ns.getD i 0)=dedI (ns.take (i+1)):=by
   have f:i<ns.length:=by lia
   rw[C9,A4 f,D2];unfold dedI;rw[B08,V1,B47,Y5,A4 f,Z5]
  rw[e2] at m;refine B76 ⟨C00 F.plain_set_update_loop _,ih (i+1) _ (by lia) p (W.frame _ s' _ _ r (S0 _) λb j o e=>?_) m λa2 y q=>?_⟩
  ·rw[l.2 b (λh:b=S=>g (by rw[<- h];exact j))];exact e
  ·refine hR a2 (Moved.trans W.gtrans ((z.mono a).then_heap (S0 _) λb o j e=>?_) y) q;rw[l.2 b (λh:b=S=>j (by rw[h];exact F0))];exact e
end
section
variable{prog:B79}{w:World}{A:Around}{E:Aa1}{s:Shared}
theorem SetG.fresh {a:Addr} {h:Heap} (e:h.get? a=some (freshSet w)):SetG w a [] h:=
 ⟨#[],0,_,[],e,⟨⟨3,A6 _,rfl⟩,rfl,rfl,rfl,rfl,.nil,λ_ z=>nomatch z⟩,.nil,.refl _,.nil,by decide,by show 0*5<7*3;decide⟩
theorem qSW {l:Addr} {a:Array Value} {ns:List Int} {Q:Aa1} (hh:A.handled=none)(hl:s.heap.IsList l a)(hi:B85 a.toList ns)(h4:a.size<=4000)
  (h:∀(h':Heap) (tk:Nat),SetG w s.heap.objs.size (dedI ns) h'->(∀b o,s.heap.get? b=some o->h'.get? b=some o)->Q (.ref s.heap.objs.size) {s with heap:=h',toks:=tk}):
  wpAny (model prog w) A (call (.type "set") [.ref l]) Q E s:=by
 have x:ns.length=a.size:=by have:=IntsAre.length hi;simpa using this.symm
 obtain⟨c,tl,ab⟩:=L7.mro;have a8:=L7.made;have af:=L7.sub;refine wpAny_call (C64 ?_);show wpAny _ _ (callAny (.type "set") _) _ _ _;refine B76 ⟨A95 _ (by decide +kernel),B91 B09 ?_⟩
 rw[A96 (weight_type_call_type "set" [.ref l] []) rfl];have h1:=L7.notType;have h2:=L7.canCreate;have aj:=B27 (.ref l)
 repeat (any_goals (first|assumption|wp_step))
 refine C10 (qN2 (.ref l) (E:=E) (Q₁:=λn s₁=>n=.ref s.heap.objs.size/\s₁={s with heap:=s.heap.push (freshSet w)}) ⟨rfl,rfl⟩) λr s₁ q=>?_;cases r with
 |error e=>exact q
 |ok fl=>
  cases fl with
  |ret n=>
   obtain⟨rfl,rfl⟩:=q;have hS:(s.heap.push (freshSet w)).get? s.heap.objs.size=some (freshSet w):=A9 _ rfl;have hT:Shared.TypeIs {s with heap:=s.heap.push (freshSet w)} (.ref s.heap.objs.size) "set":=⟨_,hS,rfl⟩;have ai:=L7.init.lookup;have ag:=L7.init.bind (.ref s.heap.objs.size)
   repeat (any_goals (first|assumption|wp_step))
   refine C10 (C66 (R:=wants (fun r s₂=>r=.none/\∃ h' tk,s₂={ s with heap:=h',toks:=tk }/\SetG w s.heap.objs.size (dedI ns) h'/\
     (∀b o,s.heap.get? b=some o->h'.get? b=some o)) E) L7.init.plain B28 (check_set_init_1 hT ?_)) λr₂ s₂ d=>?_
   ·obtain⟨ol,a1,k,nl,m⟩:=hl;obtain⟨ad,j,a9,f⟩:=ol;simp only at k m;subst k;subst m;have a0:(s.heap.push (freshSet w)).get? l=some {cls:=.type "list",dict:=j,data:=.seq a nl,slots:=f}:=A3 _ a1;have ae:=F.sub_list_set;have ac:=F.sub_list_frozenset;have ah:(R7 "list" == R7 "dict")=false:=by decide
    have y:(s.heap.push (freshSet w)).IsList l a:=⟨_,a0,rfl,nl,rfl⟩;unfold Builtin.«set.__init__» noKeywords o9;generalize hPI:pyIter=PI
    wp_walk
    subst hPI;refine C01 y ?_;refine B75 (wpAny_runValue ?_);have u:l<s.heap.objs.size:=B1 a1;have a3:A.in1.in1.in1.handled=none:=by simp[hh]
    have p:l≠(s.heap.push (freshSet w)).objs.size:=by
     rw[J6];exact C4 (O8 u)
    have a2:s.heap.objs.size∉[(s.heap.push (freshSet w)).objs.size,l]:=by
     rw[J6];simp only[B7,A7,L8,or_false,not_or];exact⟨C4 (B29 _),R1 u⟩
    have z:∀(i:Nat) (v:Value),a[i]?=some v->∃t,v=.int (ns.getD i 0) t:=λi v hv=>
     t6 hi i v (by rw[F1];exact hv)
    refine qHK ((A58 a3 _ l p a).toS) s.heap.objs.size a2 ns x h4 z (a.size-0) 0 _ (by lia) (E7 _)
     ⟨⟨_,A9 _ rfl,rfl,rfl⟩,(y.push _)⟩ ?hS0 ?hR
    case hS0=>exact SetG.fresh (A3 _ hS)
    case hR=>
     intro s' hm g;obtain⟨h',g',d',a6,aa⟩:=s';have eg:g'=s.gens:=hm.gens;have ed:d'=s.drawn:=hm.drawn;have eo:aa=s.os:=hm.os;subst eg;subst ed;subst eo;show wpAny _ _ _ _ _ _;refine B76 ?_;show wpAny _ _ (ret M6) _ _ _;refine B76 ⟨rfl,h',a6,rfl,g,λb o e=>?_⟩;have hb:=B1 e;have a4:b≠s.heap.objs.size:=C4 hb;have a5:b≠(s.heap.push (freshSet w)).objs.size:=by
      rw[J6];exact C4 (O8 hb)
     exact hm.heap b o (by simp only[B7,A7,L8,or_false,not_or];exact⟨a4,a5⟩) (A3 _ (A3 _ e))
   ·cases r₂ with
    |error e=>exact d
    |ok fl₂=>
     cases fl₂ with
     |ret r=>
      obtain⟨rfl,h',tk,rfl,g,a7⟩:=d
      repeat (any_goals (first|assumption|wp_step))
      exact h _ _ g a7
     |next=>exact d
     |brk=>exact d
     |cont=>exact d
  |next=>exact q
  |brk=>exact q
  |cont=>exact q
end
theorem TabG.below_at {b:Bool} {t:C06} {n:Nat} (T:TabG b t n)(i:Nat)(hi:i<=n):E5 t.place (if i=0 then 0 else t.place.getD (i-1) 0+1)=i:=by
 obtain⟨h,e,f⟩:=qHG (j:=if i=0 then 0 else t.place.getD (i-1) 0+1) T.up
 have p:=T.size;have k:∀a c d,a<t.place.size->t.place.getD a c=t.place.getD a d:=λa c d l=>by
  rw[E9,E9,C3 l]
  rfl
 by_cases g:i=0
 ·rw[if_pos g] at h e f ⊢;subst g;apply Nat.eq_zero_of_not_pos;intro z;have:=e 0 z
  lia
 ·rw[if_neg g] at h e f ⊢;have o:¬E5 t.place (t.place.getD (i-1) 0+1)<i:=λz=>by
   have:=f (i-1) (by lia) (by lia)
   rw[k (i-1) (t.place.getD (i-1) 0+1) 0 (by lia)] at this
   lia
  have m:¬i<E5 t.place (t.place.getD (i-1) 0+1):=λz=>by
   have q:=e i z;have:=qZP 0 T.up (i-1) i (by lia) (by lia)
   rw[k i (t.place.getD (i-1) 0+1) 0 (by lia)] at q
   lia
  lia
section
variable{prog:B79}{w:World}{A:Around}{E:Aa1}{s:Shared}{a I:Addr}{es:Array (Int×Value)}{ep:Nat}{t:C06}{i:Nat}
theorem qN3 {Q:Option (Value×Nat)->Shared->Prop} (T:TabG (byT w) t es.size) (k:es.size<=t.mask) (d:s.heap.get? a=some {cls:=.type "set",data:=.set es ep t}) (hi:i<=es.size)
  (h:Q (match(qEM w a ep es)[i]? with|some e=>some (e.2,qEO w t (i+1))|none=>none) s):wpAny (model prog w) A (setNext a (qEO w t i) i ep) Q E s:=by
 have f:=T.fits k;unfold setNext;refine B75 (C05 d rfl f ?_);dsimp only;unfold setsByText;refine B75 (B75 (C31 (B76 ?_)));show wpAny _ _ (if byT w=true then _ else _) _ _ _
 cases hb:byT w with
 |true=>
  rw[if_pos rfl];simp only[bne_self_eq_false,G7,if_false];refine B75 ?_;unfold setWalk;refine B75 (C05 d rfl f ?_);dsimp only;unfold setsByText;refine B75 (B75 (C31 (B76 ?_)));show wpAny _ _ (if byT w=true then _ else _) _ _ _
  rw[hb,if_pos rfl];refine B75 (C31 (B76 (B76 ?_)));have e:qEM w a ep es=(pickOrder (w.params.setOrder a ep) es).toList:=by unfold qEM;rw[if_pos hb]
  have b:∀j,qEO w t j=0:=λj=>by unfold qEO;rw[if_pos hb]
  rw[e,F1,b] at h;rw[b];show Q (Option.map _ (pickOrder (w.params.setOrder a ep) es)[i]?) s;cases hx:(pickOrder (w.params.setOrder a ep) es)[i]? with
  |none=>rw[hx] at h;exact h
  |some v=>rw[hx] at h;exact h
 |false=>
  rw[if_neg (by simp)]
  show wpAny _ _ (if(!t.plain&&decide (es.size>1))=true then _ else _) _ _ _
  rw[T.plain];simp only[A97,A08,G7,if_false];refine B75 ?_;show wpAny _ _ (if(!t.led && !es.isEmpty)=true then _ else _) _ _ _
  rw[T.led,hb];simp only[B46,A97,A08,G7,if_false];refine B76 (B76 ?_);have e:qEM w a ep es=es.toList:=by unfold qEM;rw[if_neg (by rw[hb];simp)]
  have b:∀j,qEO w t j=if j=0 then 0 else t.place.getD (j-1) 0+1:=λj=>by unfold qEO;rw[if_neg (by rw[hb];simp)]
  rw[e,F1] at h;rw[b,T.below_at i hi];cases hx:es[i]? with
  |none=>rw[hx] at h;exact h
  |some v=>
   rw[hx] at h;have c:i<t.place.size:=by rw[T.size];exact(Array.getElem?_eq_some_iff.mp hx).1
   rw[C3 c];dsimp only at h ⊢;have g:qEO w t (i+1)=t.place[i]+1:=by
    rw[b,if_neg (by lia),A04,E9,C3 c]
    rfl
   rw[g] at h;exact h
theorem qa1 {Q:Option Value->Shared->Prop} (T:TabG (byT w) t es.size)(n:es.size<=t.mask)(c:SetIt w a I es ep t i s.heap)(d:a≠I){e:Int×Value}(k:(qEM w a ep es)[i]?=some e)
  (r:∀h',SetIt w a I es ep t (i+1) h'->(∀b o,b≠I->s.heap.get? b=some o->h'.get? b=some o)->Q (some e.2) {s with heap:=h'}):wpAny (model prog w) A (pyNext (.ref I)) Q E s:=by
 obtain⟨⟨o,g,v,f⟩,j⟩:=id c;have q:i<es.size:=by
  have:=(A5.mp k).1;rw[(qEL w a ep es).length_eq,C0] at this;exact this
 unfold pyNext;refine B75 (C19 (wpAny_callSpecial?_slot (name:=D0 "__next__") c.typeIs slot_si_next (B87 slot_si_next c.typeIs qGT ?_ (qHP _))));unfold Builtin.«set_iterator.__next__»;refine B75 (B76 ?_);refine B75 (wpAny_fieldsOf g f ?_);dsimp only;unfold setEntries;refine B75 (B75 (C05 j rfl (T.fits n) (B76 ?_)));rw[if_neg (by simp)]
 simp only[D9];refine B75 (qN3 T n j (T5 q) ?_);rw[k];dsimp only;show wpAny _ _ (setField (.ref I) 0 (rawInt _) >>= _) _ _ s;refine B75 (C22 g f (by simp) ?_)
 have m:=L5 (p7 (·.setIfInBounds 0 (rawInt ((qEO w t (i+1):Nat):Int)))) g (l6 (T8 f _));have h:=T8 f (·.setIfInBounds 0 (rawInt ((qEO w t (i+1):Nat):Int)));refine B75 (C22 m h (by simp) ?_)
 have u:=L5 (p7 (·.setIfInBounds 1 (rawInt ((i:Int)+1)))) m (l6 (T8 h _));have p:=T8 h (·.setIfInBounds 1 (rawInt ((i:Int)+1)));refine B76 ⟨_,rfl,B76 (r _ ⟨⟨_,u,(A17 ..).trans ((A17 ..).trans v),?_⟩,?_⟩ λb x l e=>?_)⟩
 ·rw[p];simp[rawInt]
 ·exact(F3 _ _ (F5 d)).trans ((F3 _ _ (F5 d)).trans j)
 ·exact(F3 _ _ (F5 l)).trans ((F3 _ _ (F5 l)).trans e)
theorem qbT {Q:Option Value->Shared->Prop} (i:A.handled=none)(T:TabG (byT w) t es.size)(f:es.size<=t.mask)(c:SetIt w a I es ep t es.size s.heap)
  (j:∀h',(∀b o,b≠I->s.heap.get? b=some o->h'.get? b=some o)->Q none {s with heap:=h'}):wpAny (model prog w) A (pyNext (.ref I)) Q E s:=by
 obtain⟨⟨o,d,k,e⟩,g⟩:=id c;unfold pyNext;refine B75 (C19 (wpAny_callSpecial?_slot (name:=D0 "__next__") c.typeIs slot_si_next (B87 slot_si_next c.typeIs qGT ?_ (qHP _))));unfold Builtin.«set_iterator.__next__»;refine B75 (B76 ?_);refine B75 (wpAny_fieldsOf d e ?_);dsimp only;unfold setEntries;refine B75 (B75 (C05 g rfl (T.fits f) (B76 ?_)));rw[if_neg (by simp)]
 simp only[D9];have h:(qEM w a ep es)[es.size]?=none:=O9 (by rw[(qEL w a ep es).length_eq,C0];exact A6 _)
 refine B75 (qN3 T f g (A6 _) ?_);rw[h];dsimp only;show wpAny _ _ (setField (.ref I) 2 .none >>= _) _ _ s;refine B75 (C22 d e (by simp) ?_)
 show wpAny _ _ (newExc (.type "StopIteration") [] >>= _) _ _ _;refine B75 ?_;simp only[newExc,newTuple];refine B75 (B86 ?_ (by size_fits))
 refine B75 (m:=C28 _ _) (C26 (a:=M6) (by first|rfl|(simp only[C28];rfl)) ?_)
 refine B86 ?_ (by size_fits)
 simp only[raiseNew];refine B75 (wpAny_handled ?_);rw[show A.in1.handled=none from i];refine B75 (B76 (wpAny_throw ?_));refine B75 (C32 (T:="StopIteration") (b:=true) ⟨_,A9 _ rfl,rfl⟩ isSubtype_stop ?_);exact B76 (j _ (((P9 ..).extBut.push _).push _))
theorem qbS {Q:Aa1} (T:TabG (byT w) t es.size) (e:es.size<=t.mask) (b:s.heap.get? a=some {cls:=.type "set",data:=.set es ep t})
  (f:Q (.ref s.heap.objs.size) {s with heap:=s.heap.push {cls:=.type "set_iterator",data:=.fields #[.int 0 0,.int 0 0,.ref a,.int es.size 0,.int ep 0]}}):wpAny (model prog w) A (pyIter (.ref a)) Q E s:=by
 have d:s.TypeIs (.ref a) "set":=⟨_,b,rfl⟩;have c:=T.fits e;refine wpAny_pyIter_slot d F.slot_set_iter (B87 F.slot_set_iter d qKA ?_ (F.args_set_iter_1 _));unfold Builtin.«frozenset.__iter__» B62 B54 setEntries;refine B75 (B75 (B76 ?_));show wpAny _ _ (pure a) _ _ s;refine B76 ?_;refine B75 (B75 (B75 (C05 b rfl c (B76 (B76 ?_)))));unfold setDrawn setsByText;refine B75 (B75 (C05 b rfl c ?_));dsimp only;refine B75 (B75 (C31 (B76 (B76 ?_))));show wpAny _ _ (if(!byT w&&(!t.plain&&decide (es.size>1)))=true then _ else _) _ _ _
 rw[T.plain];simp only[A97,A08,k7,G7,if_false];refine B75 (B76 ?_);unfold setEpoch;refine B75 (B75 (C05 b rfl c (B76 ?_)));refine B75 (B86 (B76 ⟨_,rfl,"set_iterator",_,⟨_,A9 _ rfl,rfl⟩,slot_si_next.lookup,?_⟩));simpa[rawInt] using f
theorem qbR (T:TabG (byT w) t es.size) (m:es.size<=t.mask):PySem.W.KdlSrc prog w "set" a a es.size (λi v=>∃e,(qEM w a ep es)[i]?=some e/\v=e.2) (λh=>h.get? a=some {cls:=.type "set",data:=.set es ep t}) where
 type:=λs h=>⟨_,h,rfl⟩
 there:=λh x=>⟨B1 x,B1 x⟩
 keep:=λh f x k=>k a (.inl rfl) _ x
 notList:=by decide
 notTuple:=by decide
 hint:=λA E s Q x q=>qZZ ⟨_,x,rfl⟩ q
 iter:=λA s u x=>by
  have l:a≠s.heap.objs.size:=C4 (B1 x);refine⟨_,λi h=>SetIt w a s.heap.objs.size es ep t i h,λE Q q=>qbS T m x q,?_,⟨⟨_,A9 _ rfl,rfl,?_⟩,A3 _ x⟩⟩
  ·refine⟨λb d=>?_,λi h f c k=>?_,λi g Q E hi c q=>?_,λg Q E c q=>?_,λi g Q E c q=>qZY c q⟩
   ·have e:b=s.heap.objs.size:=by simpa using d
    simp[e]
   ·obtain⟨⟨o,r,p,h3⟩,y⟩:=c;exact⟨⟨o,k _ (by simp) _ r,p,h3⟩,k _ (by simp) _ y⟩
   ·have n:i<(qEM w a ep es).length:=by rw[(qEL w a ep es).length_eq,C0];exact hi
    refine qa1 T m c l (A4 n) λf j k=>?_;exact q _ f g.toks ⟨_,A4 n,rfl⟩ j λb o d e=>k b o (λz=>d (by simp[z])) e
   ·refine qbT u T m c λf k=>?_;exact q f g.toks λb o d e=>k b o (λz=>d (by simp[z])) e
  ·unfold qEO
   split<;>rfl
end
section
variable{X:Cx}
def SetM (w:World)(a:Addr)(zs:List Int):HO:=.ext (SetG w a zs)
theorem qGW (g:X.calm=true):qCF X (.type "set") (λxs H Q=>∃p ns,xs=[.ref p]/\SqL X.K H p (ns.map V.int)/\ns.length<=4000/\∀a,H a=none->Q (.ref a) (Ag H a (SetM X.w a (dedI ns)))):=by
 intro Ab s σ H xs us Q I r h;obtain⟨p,ns,rfl,m,y,q⟩:=h;obtain⟨u,rfl,i⟩:=qDQ r;cases i;obtain⟨l,c,f,hz⟩:=I.list m;have b:=c.length;rw[A0] at b;refine qSW (ns:=ns) (I.ok.hd g) f.isList (by simpa using qCH c) (by simp;lia) λz n d j=>?_
 refine⟨.ref s.heap.objs.size,_,I.laid (t':=n) j (A6 _) ?_,rfl,q _ (I.hok.fresh (A6 _))⟩;obtain⟨v,o,t,ks,e,_⟩:=id d;exact⟨d,⟨_,e⟩,λh1 h2 x k=>x.at k⟩
theorem qVQ {ks:List Int} {l:List (Int×Value)} (h:Ents ks l):∀vs:List Value,vs.length=l.length->(∀(i:Nat) (v:Value),vs[i]?=some v->∃e:Int×Value,l[i]?=some e/\v=e.2)->B85 vs ks:=by
 induction h with
 |nil=>
  intro vs a _;have:vs=[]:=M8.mp a;subst this;exact .nil
 |cons r t ih=>
  intro vs a c;cases vs with
  |nil=>simp at a
  |cons v vs=>
   obtain⟨f,rfl⟩:=r;obtain⟨e,b,rfl⟩:=c 0 v rfl;simp at b;subst b;exact IntsAre.cons _ _ (ih vs (by simpa using a) λi v d=>by simpa using c (i+1) v (by simpa using d))
theorem qCU (hc:X.calm=true):qCF X (.builtin "sorted") (fun xs H Q=>∃ p ns,xs=[.ref p]/\H p=some (SetM X.w p ns)/\
  ∀(a:Addr) (zs:List Int),H a=none->zs.Perm ns->zs.Pairwise (·<=·)->Q (.ref a) (Ag H a (.lst (zs.map V.int)))):=by
 intro Ab s σ H xs us Q I r h;obtain ⟨p,ns,rfl,hq,q⟩:=h;obtain ⟨u,rfl,rx⟩:=qDQ r;cases rx;refine Z0 kind_sorted plain_sorted entry_sorted (args_sorted1 _) ?_;unfold Builtin.«sorted»;refine B75 (m:=checkCount "sorted" 1 1 _) (B76 ?_);have c:∀ (s1:Shared) (vs:List Value) (zs:List Int),Inv X Ab σ H s1->B85 vs zs->zs.length<=B77->zs.Perm ns->wpAny (model X.prog X.w) X.A.in1 (do
   let l <- newList vs
   let _ <- C21 [l] (call (.builtin "list.sort") [l] [])
   ret l) (λc s'=>∃r,c=.done (.ret r)/\EP X Ab σ Q r s') X.xe s1:=by
  intro s1 vs zs y hv z g;have d:=IntsAre.length hv;refine B75 (C53 ?_ (by rw[d];exact z))
  have hf:=y.hok.fresh (A6 s1.heap.objs.size);refine B75 (B83 (B90 (qMZ (E:=X.xe) (qKO y hv z) λzs a b=>q _ zs hf (a.trans g) b) (λ_ s' x=>?_) λ_ _ e=>e));exact B76 ⟨_,rfl,x⟩
 obtain⟨hS,_,_⟩:=(show ObjOk X.prog X.w H s.heap p (.ext (SetG X.w p ns)) from I.hok p _ hq);obtain⟨j,ep,t,ks,e,T,he,g,a1,h4,a0⟩:=hS;have k:j.size=ns.length:=SetI.size (a:=p) (h:=s.heap) he g;obtain⟨o,h1,h2⟩:=he.perm (qEL X.w p ep j);have h7:=T.mask7;refine B75 (t5 (A:=X.A.in1) (qbR (ep:=ep) T (by lia)) (I.ok.hd hc) e (by rw[k,B88];lia) λh' tk n hk f=>?_)
 refine c _ _ o (I.kept (t':=tk) hk) ?_ (by rw[h2.length_eq,g.length_eq,B88];lia) (h2.trans g)
 obtain⟨l1,l2⟩:=f;refine qVQ h1 n.toList ?_ λi v hi=>l2 i v (by rw[<- F1];exact hi)
 rw[C0,l1,(qEL X.w p ep j).length_eq,C0]
theorem qSY {K:Ab1} (b:X.K=K) (c:X.w=w) (d:X.calm=true):qCF X (.type "set") (λxs H Q=>∃p ns,xs=[.ref p]/\SqL K H p (ns.map V.int)/\ns.length<=4000/\∀a,H a=none->Q (.ref a) (Ag H a (SetM w a (dedI ns)))):=by
 subst b c;exact qGW d
theorem qMF (b:X.w=w) (c:X.calm=true):qCF X (.builtin "sorted") (fun xs H Q=>∃ p ns,xs=[.ref p]/\H p=some (SetM w p ns)/\
  ∀(a:Addr) (zs:List Int),H a=none->zs.Perm ns->zs.Pairwise (·<=·)->Q (.ref a) (Ag H a (.lst (zs.map V.int)))):=by
 subst b;exact qCU c
def qdV (K:Ab1):R2:=λx y H Q=>∃a b xs ys,x=.ref a/\y=.ref b/\SqT K H a xs/\SqT K H b ys/\((xs≠[]/\H a=some (.tup xs))\/(ys≠[]/\H b=some (.tup ys)))/\xs.length+ys.length<=B77/\∀p H',Same H H'->H' p=some (.tup (xs++ys))->Q (.ref p) H'
theorem qaC:OpR X (C04 .Add) (qdV X.K):=by
 intro l s σ H x y v u Q I m i h;obtain⟨a,b,c,d,rfl,rfl,g,k,hd,f,q⟩:=h;have j:∀p,H p=none->Q (.ref p) (Ag H p (.tup (c++d))):=λp o=>q p _ (λb u e=>by rw[qA8 (qA6 e o)];exact e) qA1
 rcases hd with⟨r,n⟩|⟨w,t⟩
 ·exact qUF l s σ H (.ref a) (.ref b) v u Q I m i ⟨a,b,c,d,rfl,rfl,g,k,r,f,λz=>q a H (λ_ _ e=>e) (by rw[z,P3];exact n),λ_=>j⟩
 ·exact qP0 l s σ H (.ref a) (.ref b) v u Q I m i ⟨a,b,c,d,rfl,rfl,g,k,w,f,λz=>q b H (λ_ _ e=>e) (by rw[z];exact t),λ_=>j⟩
end
section
variable{prog:B79}{w:World}{A:Around}{E:Aa1}{s:Shared}
theorem qPU {l:Addr} {a:Array Value} {ns:List Int} {Q:Aa1} (hh:A.handled=none)(hl:s.heap.IsTuple l a)(hi:B85 a.toList ns)(h4:a.size<=4000)
  (h:∀(h':Heap) (tk:Nat),SetG w s.heap.objs.size (dedI ns) h'->(∀b o,s.heap.get? b=some o->h'.get? b=some o)->Q (.ref s.heap.objs.size) {s with heap:=h',toks:=tk}):
  wpAny (model prog w) A (call (.type "set") [.ref l]) Q E s:=by
 have x:ns.length=a.size:=by have:=IntsAre.length hi;simpa using this.symm
 obtain⟨c,tl,ab⟩:=L7.mro;have a8:=L7.made;have af:=L7.sub;refine wpAny_call (C64 ?_);show wpAny _ _ (callAny (.type "set") _) _ _ _;refine B76 ⟨A95 _ (by decide +kernel),B91 B09 ?_⟩
 rw[A96 (weight_type_call_type "set" [.ref l] []) rfl];have h1:=L7.notType;have h2:=L7.canCreate;have aj:=B27 (.ref l)
 repeat (any_goals (first|assumption|wp_step))
 refine C10 (qN2 (.ref l) (E:=E) (Q₁:=λn s₁=>n=.ref s.heap.objs.size/\s₁={s with heap:=s.heap.push (freshSet w)}) ⟨rfl,rfl⟩) λr s₁ q=>?_;cases r with
 |error e=>exact q
 |ok fl=>
  cases fl with
  |ret n=>
   obtain⟨rfl,rfl⟩:=q;have hS:(s.heap.push (freshSet w)).get? s.heap.objs.size=some (freshSet w):=A9 _ rfl;have hT:Shared.TypeIs {s with heap:=s.heap.push (freshSet w)} (.ref s.heap.objs.size) "set":=⟨_,hS,rfl⟩;have ai:=L7.init.lookup;have ag:=L7.init.bind (.ref s.heap.objs.size)
   repeat (any_goals (first|assumption|wp_step))
   refine C10 (C66 (R:=wants (fun r s₂=>r=.none/\∃ h' tk,s₂={ s with heap:=h',toks:=tk }/\SetG w s.heap.objs.size (dedI ns) h'/\
     (∀b o,s.heap.get? b=some o->h'.get? b=some o)) E) L7.init.plain B28 (check_set_init_1 hT ?_)) λr₂ s₂ d=>?_
   ·obtain⟨ol,a1,k,nl,m⟩:=hl;obtain⟨ad,j,a9,f⟩:=ol;simp only at k m;subst k;subst m;have a0:(s.heap.push (freshSet w)).get? l=some {cls:=.type "tuple",dict:=j,data:=.seq a nl,slots:=f}:=A3 _ a1;have ae:=F.sub_tuple_set;have ac:=F.sub_tuple_frozenset;have ah:(R7 "tuple" == R7 "dict")=false:=by decide
    have y:(s.heap.push (freshSet w)).IsTuple l a:=⟨_,a0,rfl,nl,rfl⟩;unfold Builtin.«set.__init__» noKeywords o9;generalize hPI:pyIter=PI
    wp_walk
    subst hPI;refine C38 y ?_;refine B75 (wpAny_runValue ?_);have u:l<s.heap.objs.size:=B1 a1;have a3:A.in1.in1.in1.handled=none:=by simp[hh]
    have p:l≠(s.heap.push (freshSet w)).objs.size:=by
     rw[J6];exact C4 (O8 u)
    have a2:s.heap.objs.size∉[(s.heap.push (freshSet w)).objs.size,l]:=by
     rw[J6];simp only[B7,A7,L8,or_false,not_or];exact⟨C4 (B29 _),R1 u⟩
    have z:∀(i:Nat) (v:Value),a[i]?=some v->∃t,v=.int (ns.getD i 0) t:=λi v hv=>
     t6 hi i v (by rw[F1];exact hv)
    refine qHK ((Walks.tuple a3 _ l p a).toS) s.heap.objs.size a2 ns x h4 z (a.size-0) 0 _ (by lia) (E7 _)
     ⟨⟨_,A9 _ rfl,rfl,rfl⟩,(y.push _)⟩ ?hS0 ?hR
    case hS0=>exact SetG.fresh (A3 _ hS)
    case hR=>
     intro s' hm g;obtain⟨h',g',d',a6,aa⟩:=s';have eg:g'=s.gens:=hm.gens;have ed:d'=s.drawn:=hm.drawn;have eo:aa=s.os:=hm.os;subst eg;subst ed;subst eo;show wpAny _ _ _ _ _ _;refine B76 ?_;show wpAny _ _ (ret M6) _ _ _;refine B76 ⟨rfl,h',a6,rfl,g,λb o e=>?_⟩;have hb:=B1 e;have a4:b≠s.heap.objs.size:=C4 hb;have a5:b≠(s.heap.push (freshSet w)).objs.size:=by
      rw[J6];exact C4 (O8 hb)
     exact hm.heap b o (by simp only[B7,A7,L8,or_false,not_or];exact⟨a4,a5⟩) (A3 _ (A3 _ e))
   ·cases r₂ with
    |error e=>exact d
    |ok fl₂=>
     cases fl₂ with
     |ret r=>
      obtain⟨rfl,h',tk,rfl,g,a7⟩:=d
      repeat (any_goals (first|assumption|wp_step))
      exact h _ _ g a7
     |next=>exact d
     |brk=>exact d
     |cont=>exact d
  |next=>exact q
  |brk=>exact q
  |cont=>exact q
end
section
variable{X:Cx}
theorem qSX (g:X.calm=true):qCF X (.type "set") (λxs H Q=>∃p ns,xs=[.ref p]/\SqT X.K H p (ns.map V.int)/\ns.length<=4000/\∀a,H a=none->Q (.ref a) (Ag H a (SetM X.w a (dedI ns)))):=by
 intro Ab s σ H xs us Q I r h;obtain⟨p,ns,rfl,m,y,q⟩:=h;obtain⟨u,rfl,i⟩:=qDQ r;cases i;obtain⟨l,c,f,hz⟩:=I.tuple m;have b:=c.length;rw[A0] at b;refine qPU (ns:=ns) (I.ok.hd g) f (by simpa using qCH c) (by simp;lia) λz n d j=>?_
 refine⟨.ref s.heap.objs.size,_,I.laid (t':=n) j (A6 _) ?_,rfl,q _ (I.hok.fresh (A6 _))⟩;obtain⟨v,o,t,ks,e,_⟩:=id d;exact⟨d,⟨_,e⟩,λh1 h2 x k=>x.at k⟩
end
structure Ex (B:Heap)(l:List Env)(e:Addr)(cls:Value)(dd:Option Addr)(nt:Bool)(h:Heap):Prop where
 stays:B.StaysIn h
 new:B.get? e=none
 frames:h.FunFrames B l
 rec_:∃(oe:Obj) (vs:Array Value) (x1:Value),h.get? e=some oe/\oe.cls=cls/\oe.dict=dd/\oe.data=.fields vs/\vs[1]?=some x1/\
  ((x1=.none/\nt=false)\/∃(T:Addr) (oT:Obj) (ts:Array Value) (x3:Value),x1=.ref T/\B.get? T=none/\T≠e/\h.get? T=some oT/\oT.data=.fields ts/\ts[3]?=some x3)
section
variable{M:Model}{A:Around}{E:Aa1}{s:Shared}{B:Heap}{env:Env}{outer l:List Env}{L e:Addr}{cls:Value}{dd:Option Addr}{nt:Bool}{Q:Unit->Shared->Prop}
end
def Kp (outer:List Env)(H':Hp)(h0:Heap)(b:Addr):Prop:=(∃o,H' b=some o)\/((∃o,h0.get? b=some o)/\b∉frs outer)
structure XD (P:B79)(w:World)(outer l:List Env)(H:Hp)(h0:Heap)(e:Addr)(cls:Value)(dd:Option Addr)(H':Hp)(B:Heap)(nt:Bool)(h:Heap):Prop where
 un:Un (frs outer) [] H H' h0 h
 hok:HOk P w H' h
 ex:Ex B l e cls dd nt h
 kp:∀b o,h.get? b=some o->Kp outer H' h0 b->B.get? b=some o
 ne:H' e=none
 ge:h0.objs.size<=e
def XP (X:Cx)(G:XK)(ev:Value)(s':Shared):Prop:=X.A.frames=some X.stack/\∃(e:Addr) (cls:Value) (dd:Option Addr) (H':Hp) (B:Heap) (nt:Bool),ev=.ref e/\s'.os=X.s₀.os/\AllBare s'.gens/\XD X.prog X.w X.outer X.stack X.H₀ X.s₀.heap e cls dd H' B nt s'.heap/\G cls dd H'
section
variable{X:Cx}{E:XK}{G:XK}{Ab:List (Addr×Obj)}{σ:St}{H:Hp}{s s':Shared}
end
section
variable{P:B79}{w:World}{K:Ab1}{mg:Ab0}{base:Heap}
end
section
variable{X:Cx}{Ab:List (Addr×Obj)}{σ:St}{H:Hp}{s:Shared}{ev:Value}
end
section
variable{X:Cx}
end
noncomputable def bmV:List Value:=[.type "ValueError",.type "Exception",.type "BaseException",.type "object"]
noncomputable def xcIn (K:Ab1)(C:Addr)(init:Option Value):Bool:=match K.lookup C with
 | some ⟨.type "type",_,.cls cd,sl⟩=>(match cd.mro,sl.toList with
  |.ref C'::bm,[_,_,_,_,some (.builtin n),_]=>C'==C&&n == "ValueError.__new__" && !cd.hasDel&&cd.hasDict&&PySem.W.tailIn K bmV bm&&PySem.W.nsOkIn K cd.ns&&A05 K cd.ns "__init__" == some init
  |_,_=>false)
 |_=>false
structure XCls (K:Ab1)(C:Addr)(init:Option Value):Prop where
 cls:xcIn K C init=true
 set:Q0 K (.ref C) "__setattr__" = some (some (.builtin "object.__setattr__"))
 kp:R3 K (.ref C)=true
section
variable{prog:B79}{w:World}{A:Around}{E:Aa1}{h:Heap}{g:Array C37}{d:Drawn}{t:Nat}{os:OsState}{K:Ab1}{C x:Addr}{init:Option Value}{mA:Ab0}{name:Str}{v:Value}{ns:List Str}
end
section
variable{prog:B79}{w:World}{A:Around}{R:Result->Shared->Prop}{h:Heap}{g:Array C37}{d:Drawn}{t:Nat}{os:OsState}{K:Ab1}{C fI:Addr}{rest:List Value}
end
section
variable{M:Model}{A:Around}{E:Aa1}{env:Env}{K:Ab1}{C:Addr}{init:Option Value}
end
section
variable{X:Cx}{Ab:List (Addr×Obj)}{σ:St}{H:Hp}{s:Shared}
end
section
variable{X:Cx}
end
structure XGet (K:Ab1)(C:Addr):Prop where
 ga:Q0 K (.ref C) "__getattribute__" = some (some (.builtin "BaseException.__getattribute__"))
 gt:Q0 K (.ref C) "__getattr__" = some none
 be:A89 K C (.type "BaseException")=some true
 hd:B02 K C=true
section
variable{prog:B79}{w:World}{A:Around}{E:Aa1}{s:Shared}{K:Ab1}{x C:Addr}{ox:Obj}{od:Option Obj}{name:Str}{tk:Tok}
end
structure XTy (K:Ab1)(C:Addr):Prop extends XGet K C where
 ca:Q0 K (.ref C) "__class__" = some (some (.builtin "object.__class__"))
 cn:A15 K (.builtin "object.__class__") "__get__" = some (some (.builtin "getset_descriptor.__get__"))
 ct:B35 K (.builtin "object.__class__")=some true
 cm:A89 K C (.type "object")=some true
section
variable{K:Ab1}
end
section
variable{X:Cx}
end
structure RoomH (k:Nat)(A:Around):Prop where
 dp:A.depth+3*k+5<recursionLimit
 un:A.units+16*k+200<cLine
structure FnOkH (P:B79)(w:World)(K:Ab1)(mg:Ab0)(base:Heap)(CX:CXT)(k:Nat)(f:Addr)(fd:B98)(ps:List Str)(sp:Sp):Prop where
 len:∀vs H Q E,sp vs H Q E->vs.length=ps.length
 run:∀(A:Around) (outer:List Env) (s:Shared) (H:Hp) (args:Args) (us:List Value) (vs:List V) (Q:VK) (E:XK),RoomH k A->Env0 P w K mg base A outer s H->BindsTo s fd args (ps.zip us)->Vals vs us->sp vs H Q E->
  C16 (model P w) A (.call (.ref f) args) (CR CX outer P w H s Q E) s
section
variable{P:B79}{w:World}{K:Ab1}{mg:Ab0}{base:Heap}
end
section
variable{X:Cx}{CX:CXT}{k:Nat}{f C:Addr}{fd:B98}{ps:List Str}{sp:Sp}{dvs:List V}{ds:List Value}{E:XK}{x m:Str}{p pos apos:Pos}{e o:Expr}{es:List Expr}{ta:TE}{t:TA}
end
section
variable{X:Cx}
end
section
variable{prog:B79}{w:World}{A:Around}{E:Aa1}{s:Shared}
end
section
variable{X:Cx}
theorem qME (n:X.calm=true):qCF X (.builtin "sum") (λxs H Q=>∃(p:Addr) (ns:List Int),xs=[.ref p]/\SqL X.K H p (ns.map V.int)/\Q (.int ns.sum) H):=by
 intro x s σ H xs y Q I r h;obtain⟨p,ns,rfl,m,q⟩:=h;obtain⟨u,rfl,k⟩:=qDQ r;cases k;obtain⟨c,l,i,v⟩:=I.list m;have f:=qCH l;obtain⟨xs,d⟩:=f.allInts.items;have a:s.heap.IsList p (intItems xs):=d▸i.isList;refine sum_intListG (I.ok.hd n) a λh' w z t=>?_;have j:ns=xs.toList.map (·.1):=by
  rw[<- nums_intItems,<- d];exact(show numsOf c.toArray.toList=ns from f.numsOf).symm
 have g:preSum (numAt xs) xs.size=ns.sum:=by
  rw[preSum_eq,C6 (by simp),j]
 rw[g];exact⟨.int ns.sum,H,I.kept λb o e=>t b o e,⟨_,rfl⟩,q⟩
end
structure LcScopeO (X:Cx)(scope:Scope)(own:List Str)(fv:List Nat):Prop where
 kind:scope.kind=.function
 names:∀y∈scope.names,y.2=.local->scope.names.lookup y.1=some .local
 cells:∀y∈scope.names,y.2=.cell->scope.names.lookup y.1=some .cell
 frees:∀y∈scope.names,y.2=.free->scope.names.lookup y.1=some .free
 free:∀y∈scope.names,y.2=.free->X.env.kindOf y.1=some .cell\/X.env.kindOf y.1=some .free
 nd:(own++fv.map λi=>X.N.getD i Q5).Nodup
 fvs:∀i∈fv,i<X.N.length/\scope.names.lookup (X.N.getD i Q5)=some .free
 owns:∀x∈own,scope.names.lookup x=some .local\/scope.names.lookup x=some .cell
section
variable{X:Cx}{Ab:List (Addr×Obj)}{σ:St}{H:Hp}{s:Shared}
end
section
variable{X:Cx}{tg iter elt:Expr}{ifs:List Expr}{scope:Scope}{pos:Pos}{own:List Str}{fv:List Nat}{wi:TI}{g:TG}{tc:TT}{te:TE}
end
noncomputable abbrev tpK (prog:B79)(w:World):=C36 (qB3 prog w)
theorem qOG {h h':Heap} {k:List Key} {b:Addr} (x:(tpK prog w).is h k b)(e:∀o,h.get? b=some o->h'.get? b=some o):(tpK prog w).is h' k b:=by
 obtain⟨o,a,n,c,d⟩:=x;exact⟨o,a,n,e _ c,d⟩
theorem qb0 {h h':Heap} {d:Addr} {xs:List (List Key×Addr×Value)} (x:h.DictOfH (tpK prog w) d xs)(e:∀o,h.get? d=some o->h'.get? d=some o)(j:∀x∈xs,∀o,h.get? x.2.1=some o->h'.get? x.2.1=some o):h'.DictOfH (tpK prog w) d xs:=by
 obtain⟨o,k,b,g,c,l,i,f,m⟩:=x;exact⟨o,k,b,e _ g,c,l,i,λx a=>qOG (f x a) (j x a),m⟩
theorem qMT {xs:List (List Key×Addr×Value)} {k:List Key} {b:Addr} {v:Value} {F:Addr->Prop} (c:∀x∈xs,F x.2.1)(e:F b):∀x∈C44 xs k b v,F x.2.1:=by
 intro x a;unfold C44 at a
 split at a
 ·obtain⟨y,d,rfl⟩:=D4.mp a;unfold putAt
  split
  ·exact c y d
  ·exact c y d
 ·rcases B0.mp a with h|h
  ·exact c x h
  ·simp only[A7] at h;subst h;exact e
section
variable{prog:B79}{w:World}{A:Around}{R:Result->Shared->Prop}{I:Addr}{fp wr:List Addr}{n:Nat}{P:Nat->Value->Prop}{St:Nat->Heap->Prop}
theorem qVV (hu:A.units+1<cLine)(W:Walks prog w A.in1 I fp wr n P St)(h0:Heap)(d:Addr)(a0:d∉fp)(ps:List (List Key×Addr×Value))(hn:ps.length=n)(hz:n<=B77)
  (a6:∀i v,P i v->∃r k b x,v=.ref r/\r∉wr/\r≠d/\b∉wr/\b≠d/\h0.IsTuple r #[.ref b,x]/\(tpK prog w).is h0 k b/\ps[i]?=some (k,b,x)):
  ∀(m i:Nat) (j:Int) (tj:Tok) (s:Shared) (Af:List (List Key×Addr×Value)),n-i=m->i<=n->St i s.heap->s.heap.DictOfH (tpK prog w) d Af->Af.length<=i->(∀x∈Af,x.2.1∉wr)->(∀b o,b∉wr->b≠d->h0.get? b=some o->s.heap.get? b=some o)->
  (∀h' tk,h'.DictOfH (tpK prog w) d ((ps.drop i).foldl (λm q=>C44 m q.1 q.2.1 q.2.2) Af)->(∀b o,b∉wr->b≠d->h0.get? b=some o->h'.get? b=some o)->R (.ok (.ret .none)) {s with heap:=h',toks:=tk})->
  C16 (model prog w) A (.builtin "dict.update.loop" ⟨[.ref d,.ref I,.int j tj,.none],[]⟩) R s:=by
 have a3:d∉wr:=λh=>a0 (W.sub _ h);intro m
 induction m with
 |zero=>
  intro i j tj s Af hm hi st hd hl l hk hR;have e:i=n:=by lia
  refine B91 qGU ?_;rw[F8 qCS _];show wpAny _ A.in1 (pyNext (.ref I) >>= _) _ _ s;refine B75 (W.done s _ _ (e▸st) λh' tk a=>?_);show wpAny _ A.in1 (A22 d [] >>= λ_=>ret M6) _ _ _;rw[W9 (by lia)] at hR
  exact B75 (B76 (B76 (hR h' tk (qb0 hd (λo g=>a d o a3 g) λx hx o g=>a _ o (l x hx) g) λb o p f eb=>a b o p (hk b o p f eb))))
 |succ m ih=>
  intro i j tj s Af hm hi st hd hl l hk hR;have y:i<n:=by lia
  refine B91 qGU ?_;rw[F8 qCS _];show wpAny _ A.in1 (pyNext (.ref I) >>= _) _ _ s;refine B75 (W.item i s _ _ y st λv h' tk hP a7 a=>?_);obtain⟨r,k,b,x,rfl,u,a4,t,f,ht,af,ep⟩:=a6 i v hP;have ed:ps.drop i=(k,b,x)::ps.drop (i+1):=by
   obtain⟨a5,e⟩:=A5.mp ep;rw[Q1 a5,e]
  rw[ed] at hR;have a9:h'.IsTuple r #[.ref b,x]:=by
   obtain⟨o,e1,e2,e3⟩:=ht;exact⟨o,a r o u (hk r o u a4 e1),e2,e3⟩
  have a2:(tpK prog w).is h' k b:=qOG af λo g=>a b o t (hk b o t f g);obtain⟨o,ho,ae,no,ag⟩:=a9;have ac:h'.DictOfH (tpK prog w) d Af:=qb0 hd (λo g=>a d o a3 g) λx hx o g=>a _ o (l x hx) g;refine B75 (B83 (B75 ?_));show wpAny _ A.in1 (tryCatch (X0 (.ref r)) _) _ _ _;refine C09 ?_;unfold X0;refine B75 (C14 (T:="tuple") ⟨o,ho,ae⟩ ?_);rw[if_pos (by decide)]
  refine B75 (B96 ho ag (B76 ?_));show wpAny _ A.in1 (C21 [C8 b,x] (dictSet d (.ref b) x)) _ _ _;refine B83 (wpAny_dictSet_heap (hsz:=by lia) (C25 hu) a2 ac λh2 aa sb=>?_)
  have a1:(C44 Af k b x).length<=i+1:=by
   unfold C44
   split
   ·rw[A0];lia
   ·rw[A8,C1];lia
  refine B76 ⟨C00 qCS _,ih (i+1) _ _ _ (C44 Af k b x) (by lia) y (W.frame _ _ _ a7 λb p o eb=>?_) aa a1 (qMT (F:=λc=>c∉wr) l t) (λb o p f eb=>?_) λh3 ad a8 ab=>hR h3 ad a8 ab⟩
  ·rw[sb.2 b (λz:b=d=>a0 (z▸p))];exact eb
  ·rw[sb.2 b f];exact a b o p (hk b o p f eb)
end
section
variable{prog:B79}{w:World}{A:Around}{E:Aa1}{s:Shared}
theorem qMG {l:Addr} {o:Obj} {a:Array Value} {nl:Nat} {ps:List (List Key×Addr×Value)} {Q:Aa1} (hu:A.units+64<cLine) (hA:A.handled=none) (hl:s.heap.get? l=some o) (hc:o.cls=.type "list") (g:o.data=.seq a nl) (a6:o.dict=none) (hn:ps.length=a.size) (hz:a.size<=B77)
  (a1:∀(i:Nat) v,a[i]?=some v->∃r k b x,v=.ref r/\s.heap.IsTuple r #[.ref b,x]/\(tpK prog w).is s.heap k b/\ps[i]?=some (k,b,x))
  (h:∀h' tk,h'.DictOfH (tpK prog w) s.heap.objs.size (ps.foldl (λm q=>C44 m q.1 q.2.1 q.2.2) [])->(∀b u,s.heap.get? b=some u->h'.get? b=some u)->Q (.ref s.heap.objs.size) {s with heap:=h',toks:=tk}):
  wpAny (model prog w) A (call (.type "dict") [.ref l]) Q E s:=by
 refine callType_codes (Q₁:=λp s₁=>p=.ref s.heap.objs.size/\s₁={s with heap:=s.heap.push {cls:=.type "dict",data:=.dict #[]}}) B24 (A66 _) B06 (kt_code_dict_new _ ⟨rfl,rfl⟩) ?_;rintro p s₁ ⟨rfl,rfl⟩;have nw:(s.heap.push {cls:=.type "dict",data:=.dict #[]}).DictOfH (tpK prog w) s.heap.objs.size []:=Heap.DictOfH.new s.heap;have f:(s.heap.push {cls:=.type "dict",data:=.dict #[]}).get? l=some o:=A3 _ hl;have a4:l<s.heap.objs.size:=B1 hl;refine⟨nw.typeIs,A93 _ _,?_⟩;unfold Builtin.«dict.__init__»;refine B75 ?_;unfold A23;refine B75 (C59 nw.typeIs ?_);show wpAny _ _ (pure (s.heap.objs.size,[C8 l])) _ _ _;refine B76 ?_;show wpAny _ _ (W2 "dict.__init__" s.heap.objs.size (.ref l) [] .none) _ _ _;unfold W2;refine B75 (C14 (T:="list") ⟨o,f,hc⟩ ?_);rw[if_pos (by decide)]
 refine B75 (qNC f hc g a6 hA λh1 a9 j=>?_);rw[if_pos (show(none:Option Value).isNone=true from rfl)];have y:h1.IsList l a:=⟨o,j _ _ f,hc,nl,g⟩;have t:l<h1.objs.size:=B1 (j _ _ f);have d:s.heap.objs.size<h1.objs.size:=by
  obtain⟨_,_,_,e,_⟩:=nw;exact B1 (j _ _ e)
 refine B75 (C03 (B75 (C01 y ?_)));refine B76 ⟨C00 qCS _,?_⟩;refine qVV (n:=a.size) ?hu (A58 (A:=A.in1.in1) hA _ l (C4 t) a) h1 s.heap.objs.size ?_ ps hn hz (λi v hv=>?_) a.size 0 _ _ _ [] rfl (E7 _) ⟨⟨_,A9 _ rfl,rfl,rfl⟩,y.push _⟩ (qb0 nw (λo eo=>A3 _ (j _ _ eo)) λx hx=>nomatch hx) (A6 _) (λx hx=>nomatch hx) (λb u hb a8 eb=>A3 _ eb) λh' tk a2 a3=>?_
 case hu=>
  show A.units+1+1<cLine
  lia
 ·simp only[B7,L8,or_false,not_or];exact⟨C4 d,R1 a4⟩
 ·obtain⟨r,k,b,x,e1,e2,e3,e4⟩:=a1 i v hv;obtain⟨or,hr,a5,a7⟩:=e2;have a0:=B1 hr;have c:b<s.heap.objs.size:=by
   obtain⟨_,_,_,z,_⟩:=e3;exact B1 z
  refine⟨r,k,b,x,e1,?_,C4 a0,?_,C4 c,⟨or,j _ _ (A3 _ hr),a5,a7⟩,qOG e3 λo eo=>j _ _ (A3 _ eo),e4⟩
  ·simp only[B7,L8,or_false];exact C4 (T6 a0 d)
  ·simp only[B7,L8,or_false];exact C4 (T6 c d)
 ·refine⟨rfl,h h' tk a2 λb u eb=>?_⟩;have c:=B1 eb;refine a3 b u ?_ (C4 c) (j _ _ (A3 _ eb));simp only[B7,L8,or_false];exact C4 (T6 c d)
end
section
variable{X:Cx}
def qQT (H:Hp)(K:Ab1)(rs:List Addr)(ps:List (List Key×Addr×V)):Prop:=Paired (λr (q:List Key×Addr×V)=>SqT K H r [.ref q.2.1,q.2.2]/\H q.2.1=some (.tup (q.1.map kV))) rs ps
noncomputable def qBY (Af:List (List Key×V))(ps:List (List Key×Addr×V)):List (List Key×V):=ps.foldl (λm q=>putK m q.1 q.2.2) Af
theorem qIS:∀(ps:List (List Key×Addr×V)) (Af:List (List Key×V)),(qBY Af ps).length<=Af.length+ps.length
 |[],Af=>by simp[qBY]
 |q::ps,Af=>by
  have:=qIS ps (putK Af q.1 q.2.2);have:=qC8 Af q.1 q.2.2;show(qBY (putK Af q.1 q.2.2) ps).length<=Af.length+(q::ps).length;rw[D3]
  lia
theorem qS3 {Ab:List (Addr×Obj)} {σ:St} {H:Hp} (I:Inv X Ab σ H s):∀{rs:List Addr} {ps:List (List Key×Addr×V)},qQT H X.K rs ps->
  ∃qs:List (List Key×Addr×Value),Paired (λr (q:List Key×Addr×Value)=>s.heap.IsTuple r #[.ref q.2.1,q.2.2]) rs qs/\Paired (λ(p:List Key×Addr×V) (q:List Key×Addr×Value)=>p.1=q.1/\p.2.1=q.2.1/\H p.2.1=some (.tup (p.1.map kV))/\RelV p.2.2 q.2.2) ps qs:=by
 intro rs ps h;unfold qQT at h
 induction h with
 |nil=>exact⟨[],.nil,.nil⟩
 |@cons r q rs ps h t ih=>
  obtain⟨qs,c,b⟩:=ih;obtain⟨a,g,d,j⟩:=I.tuple h.1;obtain⟨k,e,rfl,f,i⟩:=qK2 g;cases f;exact⟨(q.1,q.2.1,e)::qs,.cons d c,.cons ⟨rfl,rfl,h.2,i⟩ b⟩
theorem qXB {H:Hp} :∀{ps:List (List Key×Addr×V)} {qs:List (List Key×Addr×Value)} {Af:List (List Key×V)} {vs:List (List Key×Addr×Value)},Paired (λ(p:List Key×Addr×V) (q:List Key×Addr×Value)=>p.1=q.1/\p.2.1=q.2.1/\H p.2.1=some (.tup (p.1.map kV))/\RelV p.2.2 q.2.2) ps qs->KT H Af vs->KT H (qBY Af ps) (qs.foldl (λm q=>C44 m q.1 q.2.1 q.2.2) vs):=by
 intro ps qs Af vs h
 induction h generalizing Af vs with
 |nil=>exactλr=>r
 |cons h t ih=>
  intro r;refine ih ?_;dsimp only;rw[<- h.1,<- h.2.1];exact r.put _ h.2.2.1 h.2.2.2
theorem qSZ (hc:X.calm=true) (j:X.A.units+64<cLine):qCF X (.type "dict") (λxs H Q=>∃(p:Addr) (rs:List Addr) (ps:List (List Key×Addr×V)),xs=[.ref p]/\SqL X.K H p (rs.map V.ref)/\qQT H X.K rs ps/\∀d,H d=none->Q (.ref d) (Ag H d (.dT (qBY [] ps)))):=by
 intro Ab s σ H xs us Q I r h;obtain⟨p,rs,ps,rfl,hq,hp,q⟩:=h;obtain⟨u,rfl,rx⟩:=qDQ r;cases rx;obtain⟨m,rv,pl,hz⟩:=I.list hq;obtain⟨l,h1,t⟩:=qS3 I hp;have l0:=rv.length;rw[A0] at l0;have l1:rs.length=l.length:=C2 h1;have l2:ps.length=l.length:=C2 t;obtain⟨o,ho,y,a0,n,e⟩:=qIU pl;rw[A0] at hz;refine qMG (ps:=l) j (I.ok.hd hc) ho y e a0 (by simp;lia) (by simp;lia) (λi v hv=>?_) λh' tk k hk=>?_
 ·have g:m[i]?=some v:=by simpa using hv
  have hi:i<rs.length:=by rw[l0];exact(A5.mp g).1
  obtain⟨u,j,ru⟩:=rv.get (i:=i) (x:=.ref rs[i]) (by rw[B6,A4 hi];rfl)
  rw[g] at j;cases j;cases ru;obtain⟨b,hb,ht⟩:=qGH h1 (A4 hi);obtain⟨b',f,e1,e2,e3,e4⟩:=qGH t (i:=i) (a:=ps[i]'(by lia)) (A4 _)
  rw[hb] at f;cases f;rw[e1,e2] at e3;exact⟨rs[i],b.1,b.2.1,b.2.2,rfl,ht,qJ6 I.hok e3,hb⟩
 ·have z:(qBY [] ps).length<=B77:=by
   have:=qIS ps [];simp at this
   lia
  have hn:H s.heap.objs.size=none:=I.hok.fresh (A6 _);obtain⟨o,es,ep,d1,d2,d3,d4,_,d5⟩:=k;refine⟨.ref s.heap.objs.size,_,I.laid (a:=s.heap.objs.size) (o:=.dT (qBY [] ps)) (t':=tk) hk (A6 _) ⟨z,beq_eq_false_iff_ne.mpr (F5 (C4 I.big)),_,(qXB t .nil).keeps λc ys w=>?_,o,es,ep,d1,d2,d3,d4,d5⟩,rfl,q _ hn⟩
  first
   |exact w
   |(rw[qA8 (qA6 w hn)];exact w)
theorem qLU:OpR X (C04 .Add) (λx y H Q=>∃a b xs ys,x=.ref a/\y=.ref b/\H a=some (.tup xs)/\H b=some (.tup ys)/\xs.length+ys.length<=B77/\∀p H',Same H H'->H' p=some (.tup (xs++ys))->Q (.ref p) H'):=by
 intro Ab s σ H x y v u Q I w t h;obtain⟨a,b,xs,ys,rfl,rfl,j,m,hz,q⟩:=h;by_cases hx:xs=[]
 ·subst hx;cases w;cases t;obtain⟨a1,r1,p1,_⟩:=I.tuple (Ac0 j);obtain⟨f,r2,p2,_⟩:=I.tuple (Ac0 m);cases r1;obtain⟨⟨a0,dd,o,sl⟩,ho,r,n,hd⟩:=id p1;obtain⟨⟨z,k,i,l⟩,g,c,n2,d⟩:=id p2;simp only at r hd c d;subst r hd c d;exact concat_meets ⟨_,ho,rfl⟩ ⟨_,g,rfl⟩ C54 seq_tuple_add W8 V7 (V0 _ _) (tuple_addW0 a b #[] f.toArray n n2 dd k sl l rfl) ⟨ho,g,.ref b,H,I,rfl,q b H (λ_ _ e=>e) m⟩
 ·exact qaC Ab s σ H (.ref a) (.ref b) v u Q I w t ⟨a,b,xs,ys,rfl,rfl,Ac0 j,Ac0 m,.inl ⟨hx,j⟩,hz,q⟩
end
theorem qd1:B82 "any" = some (.builtin "any"):=by decide +kernel
theorem qWA:B82 "sum" = some (.builtin "sum"):=by decide +kernel
theorem qS4 (d:List Bool):((E6 d.length).any λi=>(d[i]?).getD false)=d.any id:=by
 rw[O1,A38,A38]
 constructor
 ·rintro⟨i,c,h⟩;have a:=D6.mp c;rw[A4 a] at h;exact⟨_,T4 a,h⟩
 ·rintro⟨b,f,h⟩;obtain⟨i,c,e⟩:=L6 f;exact⟨i,D6.mpr c,by rw[A4 c,e];exact h⟩
section
variable{X:Cx}
theorem qYK (o:X.calm=true):qCF X (.builtin "any") (λxs H Q=>∃(p:Addr) (bs:List Bool),xs=[.ref p]/\SqL X.K H p (bs.map V.bl)/\Q (.bl (bs.any id)) H):=by
 intro Ab s σ H xs us Q I r h;obtain⟨p,bs,rfl,y,q⟩:=h;obtain⟨u,rfl,t⟩:=qDQ r;cases t;obtain⟨c,l,n,hz⟩:=I.list y;have j:=n.isList;have f:p<s.heap.objs.size:=by obtain⟨_,e,_⟩:=j;exact B1 e
 have a:=l.length;rw[A0] at a;refine call_any_walk (C01 j ?_);refine⟨s.heap.objs.size,[s.heap.objs.size,p],[s.heap.objs.size],c.toArray.size,_,_,λi=>(bs[i]?).getD false,rfl,A58 (A:=X.A.in1) (I.ok.hd o) _ p (C4 f) c.toArray,
  ⟨⟨_,A9 _ rfl,rfl,rfl⟩,j.push _⟩,λi v s' Q' E' z g=>?_,λh' tk w=>?_⟩
 ·have d:c[i]?=some v:=by simpa using z
  have k:i<bs.length:=by rw[a];exact(A5.mp d).1
  obtain⟨u,m,ru⟩:=l.get (i:=i) (x:=.bl bs[i]) (by rw[B6,A4 k];rfl)
  rw[d] at m;cases m;cases ru;dsimp only at g;rw[A4 k,Z5] at g;exact B92 g
 ·have e:((E6 c.toArray.size).any λi=>(bs[i]?).getD false)=bs.any id:=by
   rw[B8,<- a];exact qS4 bs
  refine⟨.bl (bs.any id),H,I.kept λb x e=>w b x (λhm=>by rw[A7.mp hm] at e;exact Q9 _ (B1 e)) (A3 _ e),?_,q⟩
  rw[e]
  rfl
end
section
variable{prog:B79}{w:World}{A:Around}{E:Aa1}{s:Shared}
end
section
variable{X:Cx}
def BareT (H:Hp) (a:Addr) (xs:List V):Prop:=∃o:Obj,H a=some (.frz o (.tup xs))/\o.cls=.type "tuple"/\o.dict=none
theorem BareT.sq {K:Ab1} {H:Hp} {a:Addr} {xs:List V} (h:BareT H a xs):SqT K H a xs:=by
 obtain⟨o,h,_⟩:=h;exact .inl (.inr ⟨o,h⟩)
theorem BareT.same {H H':Hp} {a:Addr} {xs:List V} (h:BareT H a xs)(s:∀b o,H b=some o->H' b=some o):BareT H' a xs:=by
 obtain⟨o,c,d⟩:=h;exact⟨o,s _ _ c,d⟩
theorem qJQ:qCF X (.type "tuple") (λxs H Q=>∃p ys,xs=[.ref p]/\SqL X.K H p ys/\∀l o,H l=none->o.cls=.type "tuple"->o.dict=none->Q (.ref l) (Ag H l (.frz o (.tup ys)))):=by
 intro g s σ H xs x Q I r h;obtain⟨p,ys,rfl,t,q⟩:=h;obtain⟨u,rfl,n⟩:=qDQ r;cases n;obtain⟨a,d,m,j⟩:=I.list t;have f:=d.length;refine call_tuple_list m.isList (λc v=>?_) (by simp only[B8]<;>lia)
 have i:Inv X g σ H {s with heap:=c}:=I.kept (t':=s.toks) v;have k:Inv X g σ (Ag H c.objs.size (.frz {cls:=.type "tuple",data:=.seq a.toArray} (.tup ys))) {s with heap:=c.push {cls:=.type "tuple",data:=.seq a.toArray}}:=
  i.laid (t':=s.toks) (λb o e=>A3 _ e) (A6 _) ⟨A9 _ rfl,show ObjOk X.prog X.w _ _ _ (.tup ys) from⟨j,a,d,IsTup.new _ _⟩⟩
 exact⟨.ref c.objs.size,_,k,rfl,q _ _ (i.hok.fresh (A6 _)) rfl rfl⟩
end
end L2
namespace HT
open PySem PySem.Spec PyProof.Rows
section
variable{prog:B79}{w:World}{A:Around}{E:Aa1}{s:Shared}
theorem getItem_tuple_whole {t f:Addr} {a:Array Value} {l i:Value} {lo hi:Option Int} {Q:Aa1} (b:IsTup s.heap t a)(k:s.heap.IsSliceOf f l i .none)(o:IsPart l lo)(n:IsPart i hi)
  (j:sIx a.size 0 lo=0/\sIx a.size a.size hi=a.size) (h:Q (.ref t) s):wpAny (model prog w) A (C42 (.ref t) (.ref f)) Q E s:=by
 obtain⟨m,e,d,p⟩:=id k;have g:s.TypeIs (.ref f) "slice":=⟨m,e,d⟩;unfold C42
 try with_reducible refine B83 ?_
 first|refine B75 (B76 ?_)|skip
 refine B75 (wpAny_sequenceKey b.typeIs (by decide) ?_)
 refine B75 (wpAny_callSpecial?_slot (name:=D0 "__getitem__") b.typeIs G5
  (B87 G5 b.typeIs entry_tuple_getitem ?_ (args_tuple_getitem _ _)))
 show wpAny _ _ (Y4 (.ref t) >>= _) _ _ s;refine B75 (tupleItemsOf_ b ?_);refine B75 (C14 g ?_);rw[if_pos (by decide)]
 refine B75 (qEG k o n ?_);have c:(((sIx a.size 0 lo:Nat):Int)==0&&(1:Int)==1&&(sIx a.size a.size hi-sIx a.size 0 lo)==a.size)=true:=by
  rw[j.1,j.2];simp
 show wpAny _ _ (if(((sIx a.size 0 lo:Nat):Int)==0&&(1:Int)==1&&(sIx a.size a.size hi-sIx a.size 0 lo)==a.size)=true then _ else _) _ _ s
 rw[if_pos c];unfold Builtin.Tuple.tupleIsExact;refine B75 (B75 (C14 b.typeIs (B76 ?_)));rw[if_pos (by decide)]
 exact B75 (C03 (B76 ⟨_,rfl,B76 h⟩))
end
end HT
namespace L2
open PySem PySem.Spec PyProof.Rows
section
variable{X:Cx}
end
section
variable{A:Around}{s:Shared}
end
section
variable{X:Cx}
end
section
variable{X:Cx}{e:Expr}{te:TE}{st:Option Expr}{tst:TO}{pos p2:Pos}
end
section
variable{X:Cx}
end
section
variable{prog:B79}{w:World}{A:Around}{E:Aa1}{s:Shared}
end
section
variable{X:Cx}
theorem qIF:∀(as:List Addr),Vals (as.map V.ref) (as.map C8)
 |[]=>.nil
 |_::as=>.cons rfl (qIF as)
end
section
variable{prog:B79}{w:World}{A:Around}{R:Result->Shared->Prop}{h:Heap}{g:Array C37}{d:Drawn}{t:Nat}{os:OsState}{K:Ab1}{C fI:Addr}{rest:List Value}
end
section
variable{X:Cx}
def TB:Type:=(St->XK)->TS
end
section
variable{prog:B79}{w:World}{A:Around}{E:Aa1}{s:Shared}
end
section
variable{X:Cx}{pos:Pos}
end
section
variable{X:Cx}{tg:Expr}
def tFrz (t:TE):TE:=λσ H Q=>t σ H λv H1=>∃d Af,v=.ref d/\H1 d=some (.dK Af)/\∀o,Q v (Ag H1 d (.frz o (.dK Af)))
theorem Inv.freeze {Ab:List (Addr×Obj)} {σ:St} {H:Hp} {d:Addr} {Af:List (Key×V)} (I:Inv X Ab σ H s)(h:H d=some (.dK Af)):∃o,Inv X Ab σ (Ag H d (.frz o (.dK Af))) s:=by
 have c:=I.hok d _ h;obtain⟨g,l,j,f,o,k,i,a,r⟩:=id c;refine⟨o,?_⟩;have:=I.write (h':=s.heap) (t':=s.toks) (x:=d) (e:=d) (o:=.frz o (.dK Af)) (by rw[h];trivial) (.inl rfl) (λb u _ q=>q) ⟨o,a⟩ ⟨a,c⟩
 exact this
theorem qc7 {e:Expr} {t:TE} (f:PE X e t):PE X e (tFrz t):=by
 intro c s σ H Q I h;refine thn (f c s σ H _ I h) λv s1 ⟨x,H1,I1,r1,d,Af,e,hd,q⟩=>?_;obtain⟨o,g⟩:=I1.freeze hd;exact⟨x,_,g,r1,q o⟩
noncomputable def Itk (a:Addr)(o:Obj)(Af:List (Key×V)):It:=
 ⟨λi H=>i<Af.length/\H a=some (.frz o (.dK Af)),λi H x b=>b=H/\∃k v,Af[i]?=some (k,v)/\x=kV k,λi H=>Af.length<=i/\H a=some (.frz o (.dK Af))⟩
theorem qX8 {k:Key} {v:Value} (h:qNG k v=true):RelV (kV k) v:=by
 rcases qBK h with⟨i,t,rfl,rfl⟩|⟨x,t,rfl,rfl⟩
 ·exact⟨t,rfl⟩
 ·exact⟨t,rfl⟩
theorem Inv.heldD {Ab:List (Addr×Obj)} {σ:St} {H:Hp} {d:Addr} {o:Obj} {Af:List (Key×V)} (I:Inv X Ab σ H s)(h:H d=some (.frz o (.dK Af))):s.heap.get? d=some o/\(d==C02)=false/\∃vs ep,KV Af vs/\s.heap.DictAt (qB3 X.prog X.w) d vs ep/\(∃es,o.data=.dict es ep):=by
 obtain⟨e,j,i,vs,c,g⟩:=(show ObjOk X.prog X.w H s.heap d (.frz o (.dK Af)) from I.hok d _ h);obtain⟨ep,f⟩:=g.dictAt;obtain⟨k,es,a,l,b,r⟩:=id f;rw[e] at a;cases a;exact⟨e,i,vs,ep,c,f,es,b⟩
theorem qRZ {K:Ab1} {tg:Expr} (a m:Addr)(o:Obj)(Af:List (Key×V))(ep:Nat)(es:_)(ho:o.data=.dict es ep):Turn P w K tg (Itk a o Af) [m] m (λi h=>h.IsKeyIter m a i Af.length ep) where
 mem:=by simp
 obj:=λi h f b l=>by
  have e:b=m:=by simpa using l
  subst e;obtain⟨o,e,c,d⟩:=f;exact⟨o,e,λv z=>by rw[d] at z;cases z⟩
 keep:=λi h y f k=>f.at λo e=>k m (by simp) o e
 item:=by
  intro X hP hw hK hc i Ab s σ H E I u f hg;subst hP hw hK;obtain⟨hi,hq⟩:=hg;obtain⟨e1,e2,n,a2,j,da,a1,t⟩:=I.heldD hq;rw[ho] at t;cases t;obtain⟨f0,f1,f2,f3,f4,f5⟩:=u m (by simp)
  have lv:n.length=Af.length:=j.length.symm;rw[<- lv] at f;obtain⟨⟨k,x⟩,hx⟩:∃p,n[i]?=some p:=⟨n[i]'(by lia),A4 (by lia)⟩
  obtain⟨⟨k',v'⟩,r⟩:∃p,Af[i]?=some p:=⟨Af[i],A4 hi⟩;have ek:k'=k:=by
   have h1:(Af.map (·.1))[i]?=some k':=by rw[B6,r];rfl
   have h2:(n.map (·.1))[i]?=some k:=by rw[B6,hx];rfl
   rw[j.keys,h2] at h1;cases h1
   rfl
  refine wpAny_pyNext_dict_item f da hx λa3 y q g a0=>?_;have I1:Inv X Ab σ H {s with heap:=y}:=I.turned (t':=s.toks) (λb o l e=>(a0.2 b l).trans e) f0 f1 f3 f4 f5;rw[lv] at g;obtain⟨oi,ei,c,d⟩:=id g;exact⟨a3,rfl,qSM (s:={s with heap:=y}) ei c d (by decide) ⟨kV k,H,I1,qX8 q,⟨rfl,k',v',r,by rw[ek]⟩,g,λb l=>(u b l).1⟩⟩
 done:=by
  intro X hP hw hK hc i Ab s σ H E I u f hg;subst hP hw hK;obtain⟨hi,hq⟩:=hg;obtain⟨e1,e2,n,a2,j,da,a1,t⟩:=I.heldD hq;rw[ho] at t;cases t;obtain⟨f0,f1,f2,f3,f4,f5⟩:=u m (by simp)
  have lv:n.length=Af.length:=j.length.symm;rw[<- lv] at f;exact wpAny_pyNext_dict_end (I.ok.hd hc) f da (by simp;lia) λy eb=>⟨rfl,I.turned (t':=s.toks) (λb o l e=>eb b o l e) f0 f1 f3 f4 f5⟩
 self:=λ_ _ _ _ _ f h=>C67 f h
def qcQ (tl:TE):TI:=λσ H R=>tl σ H λx H1=>∃a o Af,x=.ref a/\H1 a=some (.frz o (.dK Af))/\R (Itk a o Af) H1
theorem qXI {l:Expr} {f:TE} (i:PE X l f):PI X tg l (qcQ f):=by
 intro p s σ H R I h;refine thn (i p s σ H _ I h) λv s1 ⟨x,H1,I1,r1,q1⟩=>?_;obtain⟨a,o,d,e,w,q⟩:=q1;subst e;cases r1;obtain⟨y,j,r,g,c,n,t,k⟩:=I1.heldD w;have u:r.length=d.length:=c.length.symm;refine wpAny_pyIter_dict j n ?_;refine⟨s1.heap.objs.size,[s1.heap.objs.size],_,_,H1,rfl,I1.kept (t':=s1.toks) λb o e=>A3 _ e,qRZ a _ o d g t k,⟨_,A9 _ rfl,rfl,by rw[u];rfl⟩,λb m=>?_,q⟩
 have e:b=s1.heap.objs.size:=by simpa using m
 subst e;exact I1.fpOk (A6 _) (I1.hok.fresh (A6 _))
end
theorem qXW {a:Addr} {o:Obj} {Af:List (Key×V)} {g:TG} {h:TT} {d:TE} {Kf:Hp->Prop} {σ0:St} {H0:Hp} {p:Addr} (Pv:Nat->St->Hp->Prop)(j:Pv 0 σ0 H0)(l:∀i σ H,i<=Af.length->Pv i σ H->H a=some (.frz o (.dK Af)))
  (w:∀i k v σ H,Af[i]?=some (k,v)->Pv i σ H->g (kV k) σ H λσ2 H2=>h σ2 H2 λb H3=>if b=true then d σ2 H3 λy H4=>∃ys,H4 p=some (.lst ys)/\ys.length<B77/\Pv (i+1) σ2 (Ag H4 p (.lst (ys++[y]))) else Pv (i+1) σ2 H3)
  (u:∀σ H,Pv Af.length σ H->Kf H):
  LcG (Itk a o Af) g h d Kf σ0 H0 p:=by
 refine⟨λi m σ H=>m=Af.length-i/\i<=Af.length/\Pv i σ H,⟨Af.length,by simp,E7 _,j⟩,?_⟩
 rintro i m σ H ⟨rfl,hi,q⟩;have f:=l i σ H hi q;by_cases c:i<Af.length
 ·refine .inr ⟨⟨c,f⟩,Pv (i+1),λσ' r s=>⟨Af.length-(i+1),by lia,rfl,c,s⟩,λx r y=>?_⟩
  obtain⟨e,k,v,n,t⟩:=y;subst e t;exact w i k v σ _ n q
 ·have e:i=Af.length:=by lia
  subst e;exact .inl ⟨⟨A6 _,f⟩,u σ H q⟩
theorem qW7 {X:Cx} {K:Ab1} (a:X.K=K) (b:X.calm=true):qCF X (.builtin "sum") (λxs H Q=>∃(p:Addr) (ns:List Int),xs=[.ref p]/\SqL K H p (ns.map V.int)/\Q (.int ns.sum) H):=by subst a;exact qME b
section
variable{prog:B79}{w:World}{A:Around}{E:Aa1}{s:Shared}{it d:Addr}{i n ep:Nat}{od:Obj}{es:Array DictEntry}
theorem qNU {Q:Aa1} (a:s.TypeIs (.ref d) "dict") (e:(d==C02)=false) (b:s.heap.get? d=some od) (c:od.data=.dict es ep)
  (f:Q (.ref s.heap.objs.size) {s with heap:=s.heap.push {cls:=.type "dict_keyiterator",data:=.fields #[.ref d,rawInt 0,rawInt es.size,rawInt ep]}}):wpAny (model prog w) A (pyIter (.ref d)) Q E s:=by
 apply wpAny_pyIter_slot a B30;refine B87 B30 a F.entry_dict_iter ?go (F.args_dict_iter_1 (.ref d));unfold Builtin.«dict.__iter__»;apply B75;unfold Builtin.Dict.dictSlotNone;apply B75;apply C59 a;apply B76;apply B75;apply B76;apply B75;unfold Builtin.Dict.showsAll;rw[e];apply B76;apply B75;apply wpAny_dictEntries b c;apply B75;apply wpAny_dictEpoch b c;apply B75;refine B86 ?made;apply B76;exact⟨_,rfl,"dict_keyiterator",_,⟨_,A9 _ rfl,rfl⟩,P1.lookup,f⟩
def qT5 (h:Heap) (it d:Addr) (i n ep:Nat):Prop:=h.get? it=some {cls:=.type "dict_keyiterator",data:=.fields #[.ref d,rawInt i,rawInt n,rawInt ep]}
theorem qNV {Q:Option Value->Shared->Prop} (a:qT5 s.heap it d i es.size ep)(g:s.heap.get? d=some od)(h:od.data=.dict es ep)(hi:i<es.size)
  (k:∀h',qT5 h' it d (i+1) es.size ep->Heap.SameBut it s.heap h'->Q (some es[i].key) {s with heap:=h'}):wpAny (model prog w) A (pyNext (.ref it)) Q E s:=by
 have c:s.TypeIs (.ref it) "dict_keyiterator":=⟨_,a,rfl⟩;unfold pyNext;apply B75;apply C19;apply wpAny_callSpecial?_slot (name:=D0 "__next__") c P1;refine B87 P1 c n0 ?go (m5 (.ref it));apply B75;apply B76;apply B75;apply B75;apply B75
 first|apply C12 c|apply C23 c
 apply B76;apply B75;refine wpAny_fieldsOf a rfl ?fs;have e:p8 "dict_keyiterator" = false:=by decide
 have j:((C8 d==M6)=true)->False:=λz=>by cases z
 simp only[e,G7,if_false];show wpAny _ _ (if(C8 d==M6)=true then _ else _) _ _ s
 rw[if_neg j];apply B75;apply B76;apply B75;apply wpAny_dictEntries g h;rw[if_neg (by simp)]
 apply B75;apply B76;apply B75;apply wpAny_dictEpoch g h;rw[if_neg (by simp)]
 apply B76;have f:¬((i:Int)<0):=Int.not_lt.mpr (X2 i);simp only[f,if_false,D9,C3 hi];apply B75;apply B75
 first|apply C12 c|apply C23 c
 apply B76;apply B75;apply wpAny_isOneOf_keyiter c;show wpAny _ _ (setField (.ref it) 1 (rawInt ((i:Int)+1)) >>= _) _ _ s;apply B75;refine C22 a rfl (by show 1<4;decide) ?set
 have b:qT5 (s.heap.update it (p7 (·.setIfInBounds 1 (rawInt ((i:Int)+1))))) it d (i+1) es.size ep:=L5 _ a rfl;apply B75;apply B83;apply B75;refine wpAny_isOneOf_keyiter (s:={s with heap:=s.heap.update it (p7 (·.setIfInBounds 1 (rawInt ((i:Int)+1))))}) ⟨_,b,rfl⟩ ?one;apply B76;apply B76;exact⟨_,rfl,B76 (k _ b (P9 ..))⟩
theorem qRK {Q:Option Value->Shared->Prop} (p:A.handled=none)(c:qT5 s.heap it d i es.size ep)(hi:es.size<=i)(j:s.heap.get? d=some od)(k:od.data=.dict es ep)
  (r:∀h',Heap.ExtBut it s.heap h'->Q none {s with heap:=h'}):wpAny (model prog w) A (pyNext (.ref it)) Q E s:=by
 have f:s.TypeIs (.ref it) "dict_keyiterator":=⟨_,c,rfl⟩;unfold pyNext;apply B75;apply C19;apply wpAny_callSpecial?_slot (name:=D0 "__next__") f P1;refine B87 P1 f n0 ?go (m5 (.ref it));apply B75;apply B76;apply B75;apply B75;apply B75
 first|apply C12 f|apply C23 f
 apply B76;apply B75;refine wpAny_fieldsOf c rfl ?fs;have g:p8 "dict_keyiterator" = false:=by decide
 have q:((C8 d==M6)=true)->False:=λz=>by cases z
 simp only[g,G7,if_false];show wpAny _ _ (if(C8 d==M6)=true then _ else _) _ _ s
 rw[if_neg q];apply B75;apply B76;apply B75;apply wpAny_dictEntries j k;rw[if_neg (by simp)]
 apply B75;apply B76;apply B75;apply wpAny_dictEpoch j k;rw[if_neg (by simp)]
 apply B76;have h:¬((i:Int)<0):=Int.not_lt.mpr (X2 _);simp only[h,if_false,D9,A44 hi];apply B75;apply B75
 first|apply C12 f|apply C23 f
 apply B76;show wpAny _ _ (setField (.ref it) 0 .none >>= _) _ _ s;apply B75;refine C22 c rfl (by show 0<4;decide) ?set
 have n:Heap.ExtBut it s.heap (s.heap.update it (p7 (·.setIfInBounds 0 M6))):=λb o l e=>(F3 _ _ (F5 l)).trans e;show wpAny _ _ (newExc (.type "StopIteration") [] >>= _) _ _ _;apply B75;simp only[newExc,newTuple];apply B75;refine B86 ?t1 (by size_fits)
 refine B75 (m:=C28 _ _) (C26 (a:=M6) (by first|rfl|(simp only[C28];rfl)) ?t2)
 refine B86 ?t3 (by size_fits)
 simp only[raiseNew];apply B75;apply wpAny_handled;rw[show A.in1.handled=none from p]
 first|apply wpAny_throw|(apply B75;apply B76;apply wpAny_throw)
 apply B75;refine C32 (T:="StopIteration") (b:=true) ⟨_,A9 _ rfl,rfl⟩ isSubtype_stop ?t4;exact B76 (r _ ((n.push _).push _))
end
section
variable{X:Cx}{tg:Expr}
def qdJ (t:TE):TE:=λσ H Q=>t σ H λv H1=>∃d Af,v=.ref d/\H1 d=some (.dT Af)/\∀o,Q v (Ag H1 d (.frz o (.dT Af)))
theorem Inv.freezeT {Ab:List (Addr×Obj)} {σ:St} {H:Hp} {d:Addr} {Af:List (List Key×V)} (I:Inv X Ab σ H s)(h:H d=some (.dT Af)):∃o,Inv X Ab σ (Ag H d (.frz o (.dT Af))) s:=by
 have c:=I.hok d _ h;obtain⟨g,k,l,f,o,j,i,a,r⟩:=id c;refine⟨o,I.write (h':=s.heap) (t':=s.toks) (x:=d) (e:=d) (o:=.frz o (.dT Af)) (by rw[h];trivial) (.inl rfl) (λb u _ q=>q) ⟨o,a⟩ ⟨a,?_⟩⟩
 refine(show ObjOk X.prog X.w H s.heap d (.dT Af) from c).stay (λb u _ q=>q) (λb q=>?_) (λb m q=>?_) λb t q=>?_
 ·rw[qA8 (qCA q h (by intro z;cases z))];exact q
 ·rw[qA8 (qCA q h (by intro z;cases z))];exact q
 ·rw[qA8 (qCA q h (by intro z;cases z))];exact q
theorem qU7 {e:Expr} {t:TE} (c:PE X e t):PE X e (qdJ t):=by
 intro b s σ H Q I h;refine thn (c b s σ H _ I h) λv s1 ⟨x,H1,I1,r1,d,Af,e,hd,q⟩=>?_;obtain⟨o,a⟩:=I1.freezeT hd;exact⟨x,_,a,r1,q o⟩
def ItT (a:Addr)(o:Obj)(Af:List (List Key×V)):It:=
 ⟨λi H=>i<Af.length/\H a=some (.frz o (.dT Af)),λi H x H'=>H'=H/\∃k v r,Af[i]?=some (k,v)/\x=.ref r/\H r=some (.tup (k.map kV)),λi H=>Af.length<=i/\H a=some (.frz o (.dT Af))⟩
theorem Inv.heldT {Ab:List (Addr×Obj)} {σ:St} {H:Hp} {d:Addr} {o:Obj} {Af:List (List Key×V)} (I:Inv X Ab σ H s)(h:H d=some (.frz o (.dT Af))):
  s.heap.get? d=some o/\(d==C02)=false/\o.cls=.type "dict"/\∃es ep,o.data=.dict es ep/\es.size=Af.length/\∀(i:Nat) (hi:i<es.size),∃k v r,Af[i]?=some (k,v)/\es[i].key=.ref r/\H r=some (.tup (k.map kV)):=by
 obtain⟨m,hz,q,e,b,o',es,ep,c,p,a,g,nd⟩:=(show ObjOk X.prog X.w H s.heap d (.frz o (.dT Af)) from I.hok d _ h);rw[m] at c;cases c;have y:e.length=Af.length:=b.length.symm;have t:es.size=e.length:=by rw[<- C0,g,A0]
 refine⟨m,q,p.1,es,ep,a,t.trans y,λi hi=>?_⟩;have z:i<e.length:=by lia
 have f:i<Af.length:=by lia
 have j:=A4 f;obtain⟨x,u,e1,n,e3⟩:=qGH b j;refine⟨Af[i].1,Af[i].2,x.2.1,j,?_,n⟩;have l:es[i]?=some (entryOfKey (C36 (qB3 X.prog X.w)) x):=by rw[<- F1,g,B6,u];rfl
 rw[C3 hi] at l;rw[D7 l]
 rfl
theorem qRY {K:Ab1} {tg:Expr} (a g:Addr)(o:Obj)(Af:List (List Key×V))(ep:Nat)(es:_)(t:o.data=.dict es ep):Turn P w K tg (ItT a o Af) [g] g (λi h=>qT5 h g a i Af.length ep) where
 mem:=by simp
 obj:=λi h c b f=>by
  have e:b=g:=by simpa using f
  subst e;exact⟨_,c,λv z=>by cases z⟩
 keep:=λi h q c k=>k g (by simp) _ c
 item:=by
  intro X hP hw x hc i Ab s σ H E I n c hg;subst hP hw x;obtain⟨hi,hq⟩:=hg;obtain⟨e1,e2,e3,a0,a1,l,p,j⟩:=I.heldT hq;rw[t] at l;cases l;obtain⟨f0,f1,f2,f3,y,f5⟩:=n g (by simp)
  rw[<- p] at c;have m:i<es.size:=by lia
  obtain⟨k,v,r,g1,g2,g3⟩:=j i m;refine qNV c e1 t m λq d u=>?_;have I1:Inv X Ab σ H {s with heap:=q}:=I.turned (t':=s.toks) (λb o f e=>(u.2 b f).trans e) f0 f1 f3 y f5;rw[p] at d;rw[g2];exact⟨.ref r,rfl,qSM (s:={s with heap:=q}) d rfl rfl (by decide) ⟨.ref r,H,I1,rfl,⟨rfl,k,v,r,g1,rfl,g3⟩,d,λb f=>(n b f).1⟩⟩
 done:=by
  intro X hP hw x hc i Ab s σ H E I n c hg;subst hP hw x;obtain⟨hi,hq⟩:=hg;obtain⟨e1,e2,e3,a0,a1,l,p,j⟩:=I.heldT hq;rw[t] at l;cases l;obtain⟨f0,f1,f2,f3,y,f5⟩:=n g (by simp)
  rw[<- p] at c;exact qRK (I.ok.hd hc) c (by lia) e1 t λq eb=>⟨rfl,I.turned (t':=s.toks) (λb o f e=>eb b o f e) f0 f1 f3 y f5⟩
 self:=λ_ _ _ _ _ c h=>C67 ⟨_,c,rfl,rfl⟩ h
def qcP (tl:TE):TI:=λσ H R=>tl σ H λx H1=>∃a o Af,x=.ref a/\H1 a=some (.frz o (.dT Af))/\R (ItT a o Af) H1
theorem qQO {l:Expr} {f:TE} (j:PE X l f):PI X tg l (qcP f):=by
 intro p s σ H R I h;refine thn (j p s σ H _ I h) λv s1 ⟨x,H1,I1,r1,q1⟩=>?_;obtain⟨a,o,g,e,u,q⟩:=q1;subst e;cases r1;obtain⟨c,k,m,r,i,d,w,t⟩:=I1.heldT u;refine qNU ⟨_,c,m⟩ k c d ?_;refine⟨s1.heap.objs.size,[s1.heap.objs.size],_,_,H1,rfl,I1.kept (t':=s1.toks) λb o e=>A3 _ e,qRY a _ o g i r d,by rw[w];exact A9 _ rfl,λb n=>?_,q⟩
 have e:b=s1.heap.objs.size:=by simpa using n
 subst e;exact I1.fpOk (A6 _) (I1.hok.fresh (A6 _))
end
theorem qXV {a:Addr} {o:Obj} {Af:List (List Key×V)} {g:TG} {h:TT} {d:TE} {Kf:Hp->Prop} {σ0:St} {H0:Hp} {p:Addr} (Pv:Nat->St->Hp->Prop)(j:Pv 0 σ0 H0)(l:∀i σ H,i<=Af.length->Pv i σ H->H a=some (.frz o (.dT Af)))
  (hs:∀i k v r σ H,Af[i]?=some (k,v)->H r=some (.tup (k.map kV))->Pv i σ H->g (.ref r) σ H λσ2 H2=>h σ2 H2 λb H3=>if b=true then d σ2 H3 λy H4=>∃ys,H4 p=some (.lst ys)/\ys.length<B77/\Pv (i+1) σ2 (Ag H4 p (.lst (ys++[y]))) else Pv (i+1) σ2 H3)
  (w:∀σ H,Pv Af.length σ H->Kf H):
  LcG (ItT a o Af) g h d Kf σ0 H0 p:=by
 refine⟨λi m σ H=>m=Af.length-i/\i<=Af.length/\Pv i σ H,⟨Af.length,by simp,E7 _,j⟩,?_⟩
 rintro i m σ H ⟨rfl,hi,q⟩;have f:=l i σ H hi q;by_cases c:i<Af.length
 ·refine .inr ⟨⟨c,f⟩,Pv (i+1),λσ' s t=>⟨Af.length-(i+1),by lia,rfl,c,t⟩,λx s y=>?_⟩
  obtain⟨e,k,v,r,n,u,z⟩:=y;subst e u;exact hs i k v r σ _ n z q
 ·have e:i=Af.length:=by lia
  subst e;exact .inl ⟨⟨A6 _,f⟩,w σ H q⟩
section
variable{X:Cx}{k v:Expr}{tk tv:TE}{pos:Pos}
def qZT (tk tv:TE):TE:=λσ H Q=>∀p,H p=none->tk σ (Ag H p (.dT [])) λx H1=>tv σ H1 λy H2=>H2 p=some (.dT [])/\∃b ks,x=.ref b/\H2 b=some (.tup (ks.map kV))/\Q (.ref p) (Ag H2 p (.dT [(ks,y)]))
theorem qU8 (hu:X.A.units+1<cLine)(hk:PE X k tk)(hv:PE X v tv):PE X (.Dict [some k] [v] pos) (qZT tk tv):=by
 intro i s σ H Q I q;have p:=I.hok.fresh (A6 s.heap.objs.size);have I1:=I.laid (a:=s.heap.objs.size) (o:=.dT []) (h':=s.heap.push {cls:=.type "dict",data:=.dict #[]}) (t':=s.toks) (λ_ _ q=>A3 _ q) (A6 _) (qYG s.heap I.big);rw[arm_eval_Dict,zip_pairTrees [some k] [v] X.env pos rfl rfl,dictDisplay_pairs _ (by intro z;cases z) (by show 1<17;decide)]
 apply B75;apply C50;apply B75;unfold subDict;apply B75;refine wpAny_alloc ?_;apply B75;apply B83;rw[if_pos (show(pairTrees [some k] [v] X.env pos).length<=15 by show 1<=15;decide)]
 apply B75;refine pairTrees_cons_walk (thn (hk i _ σ _ _ I1 (q _ p)) λu s1 ⟨x,H1,I2,rx,q1⟩=>thn (hv i _ σ _ _ I2 q1) λr s2 ⟨y,H2,I3,ry,e,b,ks,ex,eb,q2⟩=>pairTrees_nil_walk ?_);subst ex;obtain rfl:u=C8 b:=rx;apply B83;obtain⟨z,hd,n,d,dd⟩:=qcY I3.hok e;have hz:n.length<=B77:=by rw[<- C2 d];exact z
 apply B75;simp only[Q3,A74];apply B75;apply B75;refine wpAny_dictSet_heap (knd:=C36 (qB3 X.prog X.w)) (hsz:=hz) ?_ (qJ6 I3.hok eb) dd λh' f hs=>?_
 ·exact Nat.lt_of_succ_lt hu
 apply B76;apply B76;apply B76;apply B76;apply B76;refine⟨.ref s.heap.objs.size,_,?_,rfl,q2⟩;obtain⟨j,m,l,h,h2,h3,t,_,h5⟩:=f;refine qMC I3 (by rw[e];exact U9) hs ⟨j,h⟩ ⟨F4 (show 1<=2 by decide) (by decide),hd,_,(d.put ks eb ry).keeps λc ys g=>?_,j,m,l,h,h2,h3,t,h5⟩
 rw[qA8 (qCA g e (λz=>nomatch z))];exact g
end
noncomputable def kOf:Stmt->Expr
 |.Assign _ (.Dict [some k] _ _) _=>k
 |_=>.Name "" ⟨0,0,0,0⟩
noncomputable def vOf:Stmt->Expr
 |.Assign _ (.Dict _ [v] _) _=>v
 |_=>.Name "" ⟨0,0,0,0⟩
theorem qa8 {X:Cx} {e:Expr} (h:∃n p,e=.Tuple [] n p):PE X e (tTup tNil):=by
 obtain⟨n,p,rfl⟩:=h;exact qBN qA3
theorem qU6 {X:Cx} {e:Expr} (h:∃a1 a2 b1 b2 c1 c2 n p,e=.Tuple [.Constant (.int 0) a1 a2,.Constant .none b1 b2,.Constant .none c1 c2] n p):PE X e (tTup (qMS (tC (.int 0)) (qMS (tC .non) (qMS (tC .non) tNil)))):=by
 obtain⟨_,_,_,_,_,_,n,p,rfl⟩:=h;exact qBN (qA0 qA7 (qA0 qFP (qA0 qFP qA3)))
theorem qWI {p:Pos} {a b:Int} {c d:Value} :∀{l:List Value},TriplesOk l->codeAmong p (l++[rawInt a,rawInt b,c])=some d->codeAmong p l=some d\/d=c:=by
 intro l h e
 fun_induction TriplesOk l with
 |case1=>
  simp only[A48,rawInt,codeAmong] at e
  split at e
  ·exact .inr (D7 e).symm
  ·cases e
 |case2 a' t b' u x rest ih=>
  simp only[B23,codeAmong] at e ⊢
  split at e
  ·rename_i hc
   rw[if_pos hc];exact .inl e
  ·rename_i hc
   rw[if_neg hc];exact ih h e
 |case3 l h1 h2=>exact h.elim
def BM (mg:Ab0) (h:Heap):Prop:=∃bm ob,mg "__builtins__" = some (.ref bm)/\bm≠C60/\h.get? bm=some ob/\ob.cls=.type "module"/\ob.dict=some C60/\ob.data=.plain
section
variable{X:Cx}{Ab:List (Addr×Obj)}{σ:St}{H:Hp}{s:Shared}
noncomputable abbrev lamO (X:Cx)(q:Str)(params:C11)(body:Expr)(scope:Scope)(cc:Addr)(ctv:Value):Obj:=
 {cls:=.type "function",data:=.func (Z2 "<lambda>" q params body scope (qGV X.env scope.names []) ((X.mg "__name__").getD .none) (.ref cc) ctv)}
theorem qcW {a:C11} {body:Expr} {d:Scope} {pos:Pos} {c P:Addr} {q:Str} {Q:Aa1} 
  (I:Inv X Ab σ H s) (hb:BM X.mg X.base) (i:X.env.code=.ref c) (C:PySem.W.CodeHd X.base c P) (hP:H P=some (.tbl (.tab q))) (hq:X.env.qual ++ "<lambda>" = q)
  (y:∀x,(x,J8)∈d.names->∃c,X.env.cells.lookup x=some c) (a5:defaultsOf a X.env=([],[]))
  (h:∀ (f cc:Addr) (ctv:Value) (s':Shared) (H':Hp),Inv X Ab σ H' s'->(∀ b o,H b=some o->H' b=some o)->H' cc=some (.tbl (.cod q))->
   s'.heap.get? f=some (lamO X q a body d cc ctv)->s.heap.objs.size<=f->H' f=none->Q (.ref f) s'):
  wpAny (model X.prog X.w) X.A (eval (.Lambda a body d pos) X.env) Q E s:=by
 obtain⟨a2,a9,tr,a7⟩:=(show ObjOk X.prog X.w H s.heap P (.tbl (.tab q)) from I.hok P _ hP);have hg:s.heap.Ns B89 X.mg:=I.ok.mod.glob.keeps I.bk;have nP:∀b o,X.base.get? b=some o->b≠P:=λb o e z=>by
  have:=(I.bs b o e).2;rw[z,hP] at this;cases this
 have ad:B89≠P:=by
  obtain⟨o,es,ep,e,_⟩:=I.ok.mod.glob;exact nP _ _ e
 have a1:s.heap.BuiltinsAt X.mg P:=by
  obtain⟨bm,ob,b1,b2,b3,b4,b5,b6⟩:=hb;refine⟨bm,ob,b1,b2,?_,nP _ _ b3,I.bk _ _ b3,b4,b5,b6⟩;rintro rfl;obtain⟨o,es,ep,e,hd,_⟩:=I.ok.mod.glob;rw[e] at b3;cases b3;rw[hd] at b6;cases b6
 refine PySem.W.kla_eval a5 ?_;rw[hq];cases hca:codeAmong pos a2.toList with
 |some cv=>
  obtain⟨cc,rfl,af⟩:=a7 pos cv hca;refine PySem.W.kla_makeFunctionHit (qHF y) I.ok.glob hg i (C.keeps I.bk) a9 tr hca a1 λctv h' tk hk a3=>?_;exact h h'.objs.size cc ctv _ H (I.kept (t':=tk) λb u e=>A3 _ (hk b u e)) (λ_ _ z=>z) af (A9 _ rfl) a3 (I.hok.fresh a3)
 |none=>
  refine PySem.W.kla_makeFunction (qHF y) I.ok.glob hg i (C.keeps I.bk) a9 tr hca ad a1 λk ctv h' tk hx a4 ac aa a0=>?_;have ae:H k=none:=I.hok.fresh a4;have j:∀b o,H b=some o->(Ag H k (.tbl (.cod q))) b=some o:=λb o e=>by rw[qA8 (qA6 e ae)];exact e
  have l:∀b,H b=none->b≠P:=λb n z=>by rw[z,hP] at n;cases n
  have I':Inv X Ab σ (Ag H k (.tbl (.cod q))) {s with heap:=h'.push (lamO X q a body d k ctv),toks:=tk}:=by
   refine I.step (g':=s.gens) (d':=s.drawn) (ch:=[]) (λ_ z=>nomatch z) (λb o _ _ _ e n=>A3 _ (hx b o (l b n) e)) (λb o _ _ _ e n=>⟨o.slots,A3 _ (hx b o (l b n) e)⟩)
    (λb o _ e n=>by rw[qA8 (C4 (E1 (B1 e) a4))];exact n) (λb o _ e=>?_) (λb xs e=>j _ _ e) (λb o u e=>j _ _ e) (λb t e=>j _ _ e) (λm hm=>(hm.extBut hx (l _ I.free)).push _) (λb u e=>?_) I.bare
   ·by_cases g:b=P
    ·exact⟨_,A3 _ (g▸a0)⟩
    ·exact⟨o,A3 _ (hx b o g e)⟩
   ·by_cases a6:b=k
    ·subst a6;rw[qA1] at e;cases e;obtain⟨c₂,oc,vs,t,e2,ag,r⟩:=aa;cases e2;exact⟨b,oc,vs,t,rfl,A3 _ ag,r⟩
    ·rw[qA8 a6] at e;by_cases g:b=P
     ·subst g;rw[hP] at e;cases e;refine⟨_,A3 _ a0,?_,λa8 cv z=>?_⟩
      ·rw[E3];exact TriplesOk_snoc _ _ _ _ tr
      ·rw[E3] at z;rcases qWI tr z with z|z
       ·obtain⟨p,e1,e2⟩:=a7 a8 cv z;exact⟨p,e1,j _ _ e2⟩
       ·exact⟨k,z,qA1⟩
     ·refine(I.hok b u e).stay (λp v ab z=>A3 _ (hx p v ?_ z)) (λp z=>j _ _ z) (λp xs z=>j _ _ z) λp t z=>j _ _ z;rcases ab with z|z
      ·rw[z];exact g
      ·intro z2;rw[z2,hP] at z;cases z
  exact h h'.objs.size k ctv _ _ I' j qA1 (A9 _ rfl) (by lia) (by rw[qA8 (R1 ac)];exact I.hok.fresh (by lia))
structure LmScope (X:Cx)(scope:Scope)(p:Str)(fv:List Nat):Prop where
 kind:scope.kind=.function
 co:scope.isCoroutine=false
 gen:scope.isGenerator=false
 nocell:∀y∈scope.names,y.2≠.cell
 par:scope.names.lookup p=some .local
 free:∀y∈scope.names,y.2=.free->X.env.kindOf y.1=some .cell\/X.env.kindOf y.1=some .free
 fvs:∀i∈fv,i<X.N.length/\scope.names.lookup (X.N.getD i Q5)=some .free
structure LmZ where
 A:Around
 f:Addr
 cd:Value
 s₀:Shared
 H₀:Hp
 rm:Room 0 A
noncomputable abbrev lmEnv (X:Cx)(scope:Scope)(q:Str)(z:LmZ):Env:=PySem.W.envX q scope z.s₀.heap.objs.size z.f z.cd (qGV X.env scope.names [])
noncomputable def lmCx (X:Cx)(scope:Scope)(p:Str)(fv:List Nat)(q:Str)(z:LmZ):Cx where
 prog:=X.prog
 w:=X.w
 K:=X.K
 mg:=X.mg
 base:=X.base
 A:=z.A.deeper (lmEnv X scope q z)
 N:=p::fv.map λi=>X.N.getD i Q5
 s₀:=z.s₀
 H₀:=z.H₀
 env:=lmEnv X scope q z
 outer:=X.stack
 stack:=lmEnv X scope q z::X.stack
 ex:=[]
 fn:=λ_=>false
 calm:=true
 pn:=[]
 xe:=noX
theorem LmScope.fr {a:Scope} {p:Str} {fv:List Nat} (S:LmScope X a p fv)(I:Inv X Ab σ H s):∀x,(x,J8)∈a.names->∃c,X.env.cells.lookup x=some c:=λx b=>I.ok.has x (S.free _ b rfl)
theorem qe6 {a:Scope} {p:Str} {fv:List Nat} {q:Str} {f:Addr} {cd:Value} (j:Room 0 A)(I:Inv X Ab σ H s)(S:LmScope X a p fv)(n:A.frames=some X.stack):
  (lmCx X a p fv q ⟨A,f,cd,s,H,j⟩).Ok:=by
 have h:=S.fr I;have e:=qF3 (env:=X.env) (names:=a.names) (acc:=[]) h (λx c z=>by simp at z)
 have d:∀b:Addr,b∉(lmCx X a p fv q ⟨A,f,cd,s,H,j⟩).ex:=λb z=>absurd (show b∈([]:List Addr) from z) (by simp)
 refine⟨I.ok.mod,S.kind,rfl,rfl,A6 _,λx y c m l=>I.ok.inj x y c (e _ _ m) (e _ _ l),λx g=>?_,λx c g=>(nomatch g),λ_=>j.hd,A60 n,.inr ⟨rfl,rfl⟩,λb z=>absurd z (d b),I.bs,F4 I.ok.bsz I.sz,λb _ _=>d b,λb z=>absurd z (d b),I.stack,I.stkFree⟩;have k:a.names.lookup x=some .cell\/a.names.lookup x=some .free:=g;rcases k with z|z
 ·exact absurd rfl (S.nocell _ (J7 z))
 ·exact qF4 (.inl (J7 z))
noncomputable def qH6 (fv:List Nat)(σ:St)(x:V):St:=some x::fv.map λi=>(σ[i]?).join
theorem qXR {a:Scope} {p:Str} {fv:List Nat} {q:Str} {f:Addr} {cd:Value} {x:V} {u:Value} {h₁:Heap} {tk:Nat} (rm:Room 0 A)(I:Inv X Ab σ H s)(S:LmScope X a p fv)(hA:A.frames=some X.stack)(hx:RelV x u)
  (w:h₁.Ns s.heap.objs.size (λy=>[(p,u)].reverse.lookup y)) (r:∀b o,s.heap.get? b=some o->h₁.get? b=some o):
  Inv (lmCx X a p fv q ⟨A,f,cd,s,H,rm⟩) [] (qH6 fv σ x) H {s with heap:=h₁,toks:=tk}:=by
 have t:=S.fr I;have k:=qF3 (env:=X.env) (names:=a.names) (acc:=[]) t (λx c z=>by simp at z)
 refine⟨qe6 rm I S hA,rfl,I.bare,Un.kept r,⟨_,w,λi y v d g h3=>?_⟩,λy c e=>?_,I.hok.fresh (A6 _),λy c e=>I.freeC y c (k _ _ e),λp hp=>absurd (show p∈([]:List (Addr×Obj)) from hp) (by simp),I.hok.kept r,?_⟩
 ·have d:(p::fv.map λi=>X.N.getD i Q5)[i]?=some y:=d;unfold qH6 at g;cases i with
  |zero=>
   cases d;cases g;refine⟨u,hx,.inl ⟨S.par,?_⟩⟩;simp
  |succ i=>
   rw[A31,B6] at d g;cases e:fv[i]? with
   |none=>rw[e] at d;cases d
   |some j=>
    rw[e] at d g;have hj:=S.fvs j (B5 e);have d:X.N.getD j Q5=y:=D7 d;have g:(σ[j]?).join=some v:=D7 g;have a1:σ[j]?=some (some v):=by
     cases q:σ[j]? with
     |none=>rw[q] at g;cases g
     |some y=>rw[q] at g;exact congrArg some g
    have a0:X.N[j]?=some y:=by
     rw[Y5] at d;rw[A4 hj.1] at d ⊢;exact congrArg some d
    have n:a.names.lookup y=some .free:=d ▸ hj.2;have h:=J7 n;obtain ⟨m,hn,hl⟩:=id I.loc;have l:=S.free _ h rfl;obtain ⟨u,ru,lk⟩:=hl j y v a0 a1 (by
     rcases l with z|z
     ·exact .inr (.inl z)
     ·exact .inr (.inr z))
    refine⟨u,ru,?_⟩;rcases lk with⟨z,_⟩|⟨_,c,e1,z⟩
    ·rcases l with y'|y'
     ·have y':X.env.kindOf y=some .cell:=y';rw[z] at y';cases y'
     ·have y':X.env.kindOf y=some .free:=y';rw[z] at y';cases y'
    ·obtain⟨c',e2⟩:=qF4 (env:=X.env) (names:=a.names) (acc:=[]) (x:=y) (.inl h);have e3:=k _ _ e2;rw[e1] at e3;cases e3;obtain⟨o,ho,hd⟩:=z;exact .inr ⟨.inr n,c,e2,o,r _ _ ho,hd⟩
 ·obtain⟨v,o,ho,hd⟩:=I.cell y c (k _ _ e);exact⟨v,o,r _ _ ho,hd⟩
 ·unfold qH6;show _=(p::fv.map λi=>X.N.getD i Q5).length;simp
theorem qXX {c:C11} {body:Expr} {a:Scope} {p:Str} {fv:List Nat} {q:Str} {f g:Addr} {n u:Value} {x:V} {te:TE} {Q:VK} (m:Room 0 A)(I:Inv X Ab σ H s)(S:LmScope X a p fv)(hA:A.frames=some X.stack)
  (hf:s.heap.get? f=some (lamO X q c body a g n)) (t:H g=some (.tbl (.cod q))) (hx:RelV x u)
  (d:∀(cl:List (Str×Addr)) (pm cd ct u:Value),C39 (Z2 "<lambda>" q c body a cl pm cd ct) ⟨[u],[]⟩=pure [(p,u)])
  (he:∀z,PE (lmCx X a p fv q z) body te) (h:te (qH6 fv σ x) H Q):
  C16 (model X.prog X.w) A (.call (.ref f) ⟨[u],[]⟩) (λr s'=>∃v y H',r=.ok (.ret v)/\Inv X Ab σ H' s'/\RelV y v/\Q y H'/\Un (frs X.stack) [] H H' s.heap s'.heap) s:=by
 have j:s.heap.CodeRec (.ref g) q:=(show ObjOk X.prog X.w H s.heap g (.tbl (.cod q)) from I.hok g _ t);refine PySem.W.kla_callFunE m.depth hf rfl S.co S.gen rfl j ?_;rw[d];refine B76 (wpAny_newFunctionEnv S.nocell (λy hy=>?_) (λh₁ k i=>⟨I.nolimit.fresh _ i,?_⟩) S.kind)
 ·rw[A7.mp hy];exact S.par
 have l:∀b o,s.heap.get? b=some o->h₁.get? b=some o:=λb o e=>i.extBut b o (C4 (B1 e)) (A3 _ e);refine PySem.W.kla_codeExpr ?_;have J:=qXR (q:=q) (f:=f) (cd:=.ref g) (tk:=s.toks+[(p,u)].length) m I S hA hx k l;refine B90 ((he ⟨A,f,.ref g,s,H,m⟩) [] _ _ H Q J h) (λv s' ⟨y,H',J',ry,qy⟩=>?_) λ_ _ z=>z.elim;exact⟨v,y,H',rfl,I.call' (ch:=[]) J'.os J'.base J'.hok J'.bare (λb hb=>absurd hb (by simp)),ry,qy,J'.base⟩
end
abbrev Sm0 (H H':Hp):Prop:=∀b o,H b=some o->H' b=some o
section
variable{X:Cx}
noncomputable def LamF (X:Cx)(q:Str)(params:C11)(body:Expr)(scope:Scope)(cc:Addr)(ctv:Value)(f:Addr):HO:=.ext λh=>h.get? f=some (lamO X q params body scope cc ctv)
def tLam (X:Cx)(P:Addr)(q:Str)(params:C11)(body:Expr)(scope:Scope):TE:=λσ H Q=>H P=some (.tbl (.tab q))/\
 ∀f cc ctv H',Sm0 H H'->H f=none->H' f=some (LamF X q params body scope cc ctv f)->H' cc=some (.tbl (.cod q))->Q (.ref f) H'
theorem qc6 {a:C11} {body:Expr} {d:Scope} {pos:Pos} {c P:Addr} {q:Str} {p:Str} {fv:List Nat} (hb:BM X.mg X.base) (i:X.env.code=.ref c) (C:PySem.W.CodeHd X.base c P) (hq:X.env.qual ++ "<lambda>" = q)
  (S:LmScope X d p fv) (j:defaultsOf a X.env=([],[])):PE X (.Lambda a body d pos) (tLam X P q a body d):=by
 intro Ab s σ H Q I ⟨hP,h⟩;refine qcW I hb i C hP hq (S.fr I) j λf u l s' H' I' sm m w g y=>?_;have n:H f=none:=I.hok.fresh g;have t:u≠f:=qA6 m y
 -- f is tracked from now on
 have hF:X.s₀.heap.objs.size<=f:=F4 I.sz g;have I2:Inv X Ab σ (Ag H' f (LamF X q a body d u l f)) s':=by
  refine I'.track y hF (R1 (E1 I.lt g)) (λx c e z=>?_) (λp hp z=>?_) ⟨w,⟨_,w⟩,λh1 h2 x k=>k _ x⟩
  ·obtain⟨v,hc⟩:=I.cell x c e;exact absurd (E1 hc.lt (by rw[z];exact g)) (Q9 _)
  ·exact absurd (E1 (B1 (I.pin p hp).1) (by rw[z];exact g)) (Q9 _)
 refine⟨.ref f,_,I2,rfl,h f u l _ (λb o e=>?_) n qA1 (by rw[qA8 t];exact m)⟩
 rw[qA8 (qA6 e n)];exact sm b o e
noncomputable def qEK {α:Type}:α×List Int->List (α×List Int)->α
 |b,[]=>b.1
 |b,x::r=>if HT.lexLt x.2 b.2=true then qEK x r else qEK b r
structure KCmp (X:Cx)(KR:Hp->V->List Int->Prop):Prop where
 mono:∀H H' y k,Sm0 H H'->KR H y k->KR H' y k
 cmp:∀(Ab:List (Addr×Obj)) (σ:St) (s:Shared) (H:Hp) (y y':V) (u u':Value) (k k':List Int) (Q:Aa1) (E:Aa1),Inv X Ab σ H s->RelV y u->RelV y' u'->KR H y k->KR H y' k'->Q (.bool (HT.lexLt k k')) s->
  wpAny (model X.prog X.w) X.A.in1 (richCompare .Lt u u') Q E s
theorem Inv.fpStk {Ab:List (Addr×Obj)} {σ:St} {H:Hp} {b:Addr} (I:Inv X Ab σ H s)(f:FpOk X Ab H b):b∉frs X.stack:=λz=>by
 rcases B7.mp (I.stkSub b z) with e|e
 ·exact f.2.1 e
 ·exact f.2.2.1 e
theorem FpOk.to {Ab:List (Addr×Obj)} {H H':Hp} {b:Addr} (f:FpOk X Ab H b)(h:H' b=none):FpOk X Ab H' b:=⟨h,f.2⟩
structure KeyAt (X:Cx)(σ:St)(fv:List Nat)(te:TE)(KR:Hp->V->List Int->Prop)(H0:Hp)(xs:List V)(ks:Aa0):Prop where
 len:ks.length=xs.length
 key:∀(i:Nat) (x:V) (k:List Int),xs[i]?=some x->ks[i]?=some k->∀Hc,Sm0 H0 Hc->te (qH6 fv σ x) Hc λy H'=>Sm0 Hc H'/\KR H' y k
section
variable{Ab:List (Addr×Obj)}{σ:St}{params:C11}{body:Expr}{scope:Scope}{p:Str}{fv:List Nat}{q:Str}{te:TE}{KR:Hp->V->List Int->Prop}{l f cc:Addr}{ctv:Value}{H0:Hp}{xs:List V}{ks:Aa0}{Q:VK}
theorem qUY {H:Hp} {b S:Addr} {i:Nat} {x:V} {k:List Int} {u:Value} (rm:Room 1 X.A) (hA:X.A.in1.frames=some X.stack) (S':LmScope X scope p fv) (a:∀(cl:List (Str×Addr)) (pm cd ct u:Value),C39 (Z2 "<lambda>" q params body scope cl pm cd ct) ⟨[u],[]⟩=pure [(p,u)])
  (he:∀z,PE (lmCx X scope p fv q z) body te) (KA:KeyAt X σ fv te KR H0 xs ks) (t:H0 f=some (LamF X q params body scope cc ctv f)) (m:H0 cc=some (.tbl (.cod q)))
  (I:Inv X Ab σ H s) (l:Sm0 H0 H) (hx:xs[i]?=some x) (hk:ks[i]?=some k) (rx:RelV x u) (c:FpOk X Ab H b) (j:FpOk X Ab H S) {g d:Obj} (n:s.heap.get? b=some g) (o:s.heap.get? S=some d) {Q':Aa1} {E:Aa1}
  (h:∀v y H' s',Inv X Ab σ H' s'->Sm0 H H'->RelV y v->KR H' y k->FpOk X Ab H' b->FpOk X Ab H' S->s'.heap.get? b=some g->s'.heap.get? S=some d->Q' v s'):wpAny (model X.prog X.w) X.A.in1 (call (.ref f) [u]) Q' E s:=by
 have gf:s.heap.get? f=some (lamO X q params body scope cc ctv):=(show ObjOk X.prog X.w H s.heap f (LamF X q params body scope cc ctv f) from I.hok f _ (l _ _ t)).1;refine wpAny_call (C10 (qXX rm.in1 I S' hA gf (l _ _ m) rx a he (KA.key i x k hx hk H l)) λr s' ⟨v,y,H',e,I',ry,⟨sm',kr⟩,un⟩=>?_);subst e;exact h v y H' s' I' sm' ry kr (c.to (un.free b g n c.1 (by simp))) (j.to (un.free S d o j.1 (by simp))) (un.keep b g n c.1 (I.fpStk c) (by simp)) (un.keep S d o j.1 (I.fpStk j) (by simp))
theorem qSC {it S:Addr} {kw:List (Str×Value)} (hc:X.calm=true) (rm:Room 1 X.A) (hA:X.A.in1.frames=some X.stack) (S':LmScope X scope p fv) (a1:∀(cl:List (Str×Addr)) (pm cd ct u:Value),C39 (Z2 "<lambda>" q params body scope cl pm cd ct) ⟨[u],[]⟩=pure [(p,u)])
  (he:∀z,PE (lmCx X scope p fv q z) body te) (KC:KCmp X KR) (KA:KeyAt X σ fv te KR H0 xs ks) (hf:H0 f=some (LamF X q params body scope cc ctv f)) (ah:H0 cc=some (.tbl (.cod q))) (hl:SqL X.K H0 l xs) (a0:it≠S)
  (h:∀H',Sm0 H0 H'->SqL X.K H' l xs):
  ∀(k j:Nat) (s:Shared) (H:Hp) (bx y:V) (bk:List Int) (bu bv:Value) (c:Nat),xs.length-j=k->j<=xs.length->Inv X Ab σ H s->Sm0 H0 H->FpOk X Ab H it->FpOk X Ab H S->s.heap.IsListIter it l j->
   s.heap.get? S=some {cls:=.type "list",dict:=none,data:=.seq #[bu,bv] c,slots:=#[]}->RelV bx bu->RelV y bv->KR H y bk->(∀H',Sm0 H0 H'->Q (qEK (bx,bk) ((xs.zip ks).drop j)) H')->
   C16 (model X.prog X.w) X.A (.builtin "min.loop" ⟨[.ref it,.ref f,.ref S],kw⟩) (λr s'=>∃v,r=.ok (.ret v)/\EP X Ab σ Q v s') s:=by
 have i:(toString "min" ++ toString ".loop" : String) = "min.loop":=by decide
 intro k
 induction k with
 |zero=>
  intro j s H bx y bk bu bv c hk hj I sm g fS a2 hS rb ry kb n;obtain⟨af,rv,pl,hz⟩:=I.list (h H sm);have ai:=rv.length;refine B91 d9 ?_;rw[F8 O0 _];show wpAny _ X.A.in1 (seqItems? (.ref S) >>= _) _ _ s;refine B75 (B96 hS rfl ?_);show wpAny _ X.A.in1 (tryCatch (pyNext (.ref it)) _ >>= _) _ _ s;refine B75 (C09 (C57 (rm.in1.hd) a2 pl.isList (by simp;lia) λh' eb=>?_))
  have I1:Inv X Ab σ H {s with heap:=h'}:=I.turned (t':=s.toks) (λb o m e=>eb b o m e) g.1 g.2.1 g.2.2.2.1 g.2.2.2.2.1 g.2.2.2.2.2;have ac:=eb S _ (F5 a0) hS;show wpAny _ X.A.in1 (updateSeq S (λ_=>#[]) >>= _) _ _ _;refine B75 (wpAny_updateSeq ac rfl (B75 (C35 (B76 ?_))));have I2:Inv X Ab σ H {s with heap:=h'.update S (P7 λ_=>(#[]:Array Value))}:=I1.turned (t':=s.toks) (λb o m e=>(F3 _ _ (F5 m)).trans e) fS.1 fS.2.1 fS.2.2.2.1 fS.2.2.2.2.1 fS.2.2.2.2.2;have hq:=n H sm;rw[W9 (by rw[A54,KA.len];lia)] at hq
  exact⟨_,rfl,bx,H,I2,rb,hq⟩
 |succ k ih=>
  intro j s H bx y bk bu bv c hk hj I sm g fS a2 hS rb ry kb n;have d:j<xs.length:=by lia
  obtain⟨af,rv,pl,hz⟩:=I.list (h H sm);have a3:=A4 d;have a8:=A4 (show j<ks.length by rw[KA.len];exact d)
  have ez:(xs.zip ks).drop j=(xs[j],ks[j]'(by rw[KA.len];exact d))::(xs.zip ks).drop (j+1):=by
   rw[Q1 (by rw[A54,KA.len];lia),List.getElem_zip]
  rw[ez] at n;generalize xs[j]=x at a3 n;generalize ks[j]'(by rw[KA.len];exact d)=kx at a8 n
  obtain⟨u,hu,ru⟩:=rv.get a3;refine B91 d9 ?_;rw[F8 O0 _];show wpAny _ X.A.in1 (seqItems? (.ref S) >>= _) _ _ s;refine B75 (B96 hS rfl ?_);show wpAny _ X.A.in1 (tryCatch (pyNext (.ref it)) _ >>= _) _ _ s;refine B75 (C09 (C47 a2 pl.isList (x:=u) (by simpa using hu) λh' ad sb=>?_))
  have I1:Inv X Ab σ H {s with heap:=h'}:=I.turned (t':=s.toks) (λb o m e=>(sb.2 b m).trans e) g.1 g.2.1 g.2.2.2.1 g.2.2.2.2.1 g.2.2.2.2.2;have ae:=(sb.2 S (F5 a0)).trans hS;obtain⟨oi,ag,a9,ab⟩:=id ad;show wpAny _ X.A.in1 (tryCatch (C21 [u] (call (.ref f) [u])) _ >>= _) _ _ _;refine B75 (C09 (B83 (qUY rm hA S' a1 he KA hf ah I1 sm a3 a8 ru g fS ag ae λv y2 H2 s2 I2 t r2 k2 aa a a7 a4=>?_)));have a6:s2.heap.IsListIter it l (j+1):=⟨oi,a7,a9,ab⟩;show wpAny _ X.A.in1 (tryCatch (C21 [u,v] (richCompare .Lt v bv >>= _)) _ >>= _) _ _ _;refine B75 (C09 (B83 (B75 (KC.cmp Ab σ s2 H2 y2 y v bv kx bk _ _ I2 r2 ry k2 (KC.mono _ _ _ _ t kb) ?_))));refine B75 (B83 (B92 (B75 (C35 (B76 ?_)))));have a5:Sm0 H0 H2:=λb o e=>t b o (sm b o e);cases m:HT.lexLt kx bk with
  |true=>
   rw[if_pos rfl];have et:qEK (bx,bk) ((x,kx)::(xs.zip ks).drop (j+1))=qEK (x,kx) ((xs.zip ks).drop (j+1)):=by show(if HT.lexLt kx bk=true then _ else _)=_;rw[m];rfl
   rw[et] at n;refine B75 (wpAny_updateSeq a4 rfl (B75 (C35 ?_)));rw[i];have I3:Inv X Ab σ H2 {s2 with heap:=s2.heap.update S (P7 λ_=>#[u,v])}:=I2.turned (t':=s2.toks) (λb o m e=>(F3 _ _ (F5 m)).trans e) a.1 a.2.1 a.2.2.2.1 a.2.2.2.2.1 a.2.2.2.2.2;exact B76 ⟨C00 O0 _,ih (j+1) _ H2 x y2 kx u v _ (by lia) d I3 a5 aa a ⟨oi,(F3 _ _ (F5 a0)).trans a7,a9,ab⟩ (L5 _ a4 rfl) ru r2 k2 n⟩
  |false=>
   rw[if_neg B4];have et:qEK (bx,bk) ((x,kx)::(xs.zip ks).drop (j+1))=qEK (bx,bk) ((xs.zip ks).drop (j+1)):=by show(if HT.lexLt kx bk=true then _ else _)=_;rw[m];rfl
   rw[et] at n;refine B75 (C35 ?_);rw[i];exact B76 ⟨C00 O0 _,ih (j+1) s2 H2 bx y bk bu bv c (by lia) d I2 a5 aa a a6 a4 rb ry (KC.mono _ _ _ _ t kb) n⟩
noncomputable def qc3 (dv:Option V):List (V×List Int)->Option V
 |[]=>dv
 |b::r=>some (qEK b r)
theorem qP8 {H:Hp} {kw:List (Str×Value)} (hc:X.calm=true) (rm:Room 1 X.A) (hA:X.A.in1.frames=some X.stack) (S':LmScope X scope p fv) (h:∀(cl:List (Str×Addr)) (pm cd ct u:Value),C39 (Z2 "<lambda>" q params body scope cl pm cd ct) ⟨[u],[]⟩=pure [(p,u)])
  (he:∀z,PE (lmCx X scope p fv q z) body te) (KC:KCmp X KR) (KA:KeyAt X σ fv te KR H xs ks) (hf:H f=some (LamF X q params body scope cc ctv f)) (a2:H cc=some (.tbl (.cod q))) (hl:SqL X.K H l xs)
  (y:∀H',Sm0 H H'->SqL X.K H' l xs) (I:Inv X Ab σ H s)
  (ok:argsOk "min" ⟨[.ref l],kw⟩) (df:Option Value) (t:t7 "min" ["key","default"] 0 ⟨[],kw⟩=pure [some (.ref f),df]) (dv:Option V) (a9:df=none/\dv=none\/∃d u,df=some u/\dv=some d/\RelV d u)
  (m:V) (em:qc3 dv (xs.zip ks)=some m) (hQ:∀H',Sm0 H H'->Q m H'):wpAny (model X.prog X.w) X.A (call (.builtin "min") [.ref l] kw) (EP X Ab σ Q) X.xe s:=by
 obtain⟨ae,rv,pl,hz⟩:=I.list hl;have a0:=pl.isList;have ad:l<s.heap.objs.size:=by obtain⟨_,e,_⟩:=a0;exact B1 e
 have j:(toString "min" ++ toString ".loop" : String) = "min.loop":=by decide
 refine qO0 PySem.F.kind_min PySem.F.plain_min PySem.F.entry_min ok ?_;show wpAny _ _ (t7 "min" ["key","default"] 0 ⟨[],kw⟩ >>= _) _ _ s;refine B75 (C26 t ?_);refine B75 (B76 ?_);refine B75 (C01 a0 ?_);refine B75 (B86 ?_);rw[j];refine B76 ⟨_,rfl,C00 O0 _,?_⟩;have hS:(s.heap.push {cls:=.type "list_iterator",data:=.fields #[.ref l,.int 0 0]}).objs.size=s.heap.objs.size+1:=J6 ..;have I0:Inv X Ab σ H {s with heap:=(s.heap.push {cls:=.type "list_iterator",data:=.fields #[.ref l,.int 0 0]}).push {cls:=.type "list",data:=.seq #[]}}:=I.kept (t':=s.toks) λb o e=>A3 _ (A3 _ e);have c:FpOk X Ab H s.heap.objs.size:=I.fpOk (A6 _) (I.hok.fresh (A6 _));have fS:FpOk X Ab H (s.heap.push {cls:=.type "list_iterator",data:=.fields #[.ref l,.int 0 0]}).objs.size:=by rw[hS];exact I.fpOk (S0 _) (I.hok.fresh (S0 _))
 have g:s.heap.objs.size≠(s.heap.push {cls:=.type "list_iterator",data:=.fields #[.ref l,.int 0 0]}).objs.size:=by rw[hS];exact(Z6 _).symm
 have gi:((s.heap.push {cls:=.type "list_iterator",data:=.fields #[.ref l,.int 0 0]}).push {cls:=.type "list",data:=.seq #[]}).get? s.heap.objs.size=some {cls:=.type "list_iterator",data:=.fields #[.ref l,.int 0 0]}:=A3 _ (A9 _ rfl);have gS:((s.heap.push {cls:=.type "list_iterator",data:=.fields #[.ref l,.int 0 0]}).push {cls:=.type "list",data:=.seq #[]}).get? (s.heap.push {cls:=.type "list_iterator",data:=.fields #[.ref l,.int 0 0]}).objs.size=some {cls:=.type "list",data:=.seq #[]}:=A9 _ rfl;have n:=(a0.push {cls:=.type "list_iterator",data:=.fields #[.ref l,.int 0 0]}).push {cls:=.type "list",data:=.seq #[]};generalize (s.heap.push {cls:=.type "list_iterator",data:=.fields #[.ref l,.int 0 0]}).push {cls:=.type "list",data:=.seq #[]}=h0 at I0 gi gS n;generalize (s.heap.push {cls:=.type "list_iterator",data:=.fields #[.ref l,.int 0 0]}).objs.size=S at fS g gS ⊢;generalize s.heap.objs.size=it at c g gi ⊢;refine B91 d9 ?_;rw[F8 O0 _];show wpAny _ X.A.in1 (seqItems? (.ref S) >>= _) _ _ _;refine B75 (B96 gS rfl ?_);show wpAny _ X.A.in1 (tryCatch (pyNext (.ref it)) _ >>= _) _ _ _;have a1:h0.IsListIter it l 0:=⟨_,gi,rfl,rfl⟩;cases xs with
 |nil=>
  have ek:ks=[]:=M8.mp KA.len;subst ek;have r:dv=some m:=em;cases rv;refine B75 (C09 (C57 (s:={s with heap:=h0}) (rm.in1.hd) a1 n (by simp) λh' eb=>?_))
  rcases a9 with⟨_,e2⟩|⟨d,u,rfl,e3,rd⟩
  ·rw[e2] at r;cases r
  ·rw[e3] at r;cases r;show wpAny _ X.A.in1 (rule _ >>= λ_=>ret u) _ _ _;have I1:Inv X Ab σ H {s with heap:=h'}:=I0.turned (t':=s.toks) (λb o t e=>eb b o t e) c.1 c.2.1 c.2.2.2.1 c.2.2.2.2.1 c.2.2.2.2.2;exact B75 (C03 (B76 ⟨u,rfl,_,H,I1,rd,hQ H λ_ _ z=>z⟩))
 |cons x xs=>
  cases ks with
  |nil=>have:=KA.len;simp at this
  |cons k ks=>
   cases em;obtain⟨u,hu,ru⟩:=rv.get (i:=0) rfl;refine B75 (C09 (C47 (s:={s with heap:=h0}) a1 n (x:=u) (by simpa using hu) λh' a5 sb=>?_))
   have I1:Inv X Ab σ H {s with heap:=h'}:=I0.turned (t':=s.toks) (λb o t e=>(sb.2 b t).trans e) c.1 c.2.1 c.2.2.2.1 c.2.2.2.2.1 c.2.2.2.2.2;have a6:=(sb.2 S (F5 g)).trans gS;obtain⟨oi,aa,ab,ac⟩:=id a5;show wpAny _ X.A.in1 (tryCatch (C21 [u] (call (.ref f) [u])) _ >>= _) _ _ _;refine B75 (C09 (B83 (qUY rm hA S' h he KA hf a2 I1 (λ_ _ z=>z) (i:=0) rfl rfl ru c fS aa a6 λv y2 H2 s2 I2 a4 r2 k2 a7 a a8 a3=>?_)));show wpAny _ X.A.in1 (updateSeq S (λ_=>#[u,v]) >>= _) _ _ _;refine B75 (wpAny_updateSeq a3 rfl ?_);rw[j];have I3:Inv X Ab σ H2 {s2 with heap:=s2.heap.update S (P7 λ_=>#[u,v])}:=I2.turned (t':=s2.toks) (λb o t e=>(F3 _ _ (F5 t)).trans e) a.1 a.2.1 a.2.2.2.1 a.2.2.2.2.1 a.2.2.2.2.2;exact B76 ⟨C00 O0 _,qSC hc rm hA S' h he KC KA hf a2 hl g y _ 1 _ H2 x y2 k u v _ rfl (by simp) I3 a4 a7 a ⟨oi,(F3 _ _ (F5 g)).trans a8,ab,ac⟩ (L5 _ a3 rfl) ru r2 k2 hQ⟩
end
end
noncomputable def hdIn (K:Ab1)(c P:Addr):Bool:=match K.lookup c with
 |some ⟨.type n,_,.fields vs,_⟩=>decide (n = "code")&&decide (c≠P)&&(match(vs[11]?:Option Value),vs.getD 11 .none with|some (.ref a),.ref b=>decide (a=P)&&decide (b=P)|_,_=>false) &&
   (match vs.getD 18 .none,vs.getD 7 .none,vs.getD 9 .none,vs.getD 10 .none with|.str _ _,.int _ _,.bool _,.int _ _=>true|_,_,_,_=>false)
 |_=>false
theorem qW2 {K:Ab1} {h:Heap} {c P:Addr} (X:K.In h)(d:hdIn K c P=true):PySem.W.CodeHd h c P:=by
 unfold hdIn at d
 split at d
 ·rename_i n dd vs sl hl
  rw[J9,J9,J9] at d;obtain⟨⟨⟨j,i⟩,e⟩,g⟩:=d
  split at e
  ·rename_i a b e1 e2
   rw[J9,decide_eq_true_eq,decide_eq_true_eq] at e;obtain⟨rfl,rfl⟩:=e
   split at g
   ·rename_i f t fl tg inF text tt g1 g2 g3 g4
    exact⟨_,vs,_,_,_,_,_,_,_,X _ _ hl,by rw[of_decide_eq_true j],rfl,e1,e2,g1,g2,g3,g4,of_decide_eq_true i⟩
   ·cases g
  ·cases e
 ·cases d
section
variable{X:Cx}
end
theorem Fun.okL {K:Ab1} {mg:Ab0} {base:Heap} {x a:Str} {st:Stmt} {f:Addr} {g:B98} {N ps:List Str} {k:Nat} {sp:Sp} {c:Addr} (F:Fun K x a st f g)(v:g.code=.ref c)(S:FnScope N ps (qAB st))(d:∀vs H Q E,sp vs H Q E->vs.length=ps.length)
  (b:∀ (A:Around) (outer:List Env) (s:Shared) (H:Hp) (vs:List V) (Q:VK) (E:XK),Room k (A.deeper (envOfC a (qAB st) s.heap.objs.size f (.ref c)))->sp vs H Q E->
   ∃t,PSs (cxOf CX0 P w K mg base N a (qAB st) f (.ref c) A outer s H E).nox (qBF st) t/\t {nx:=λ_ H'=>Q .non H',rt:=Q} (start N vs) H):FnOk P w K mg base CX0 (k+1) f g ps sp:=by
 obtain⟨oc,od,kV,u,pm,z,m,ct,o,rfl,n,l⟩:=F.ex;have e:m=.ref c:=v;subst e;refine qcV n l S d λA outer s H vs Q E r j=>?_;obtain⟨t,h,q⟩:=b A outer s H vs Q E r j;exact⟨t,h.nox,q⟩
noncomputable def qUP (scope:Scope)(p:Str)(fv:List Nat)(osc:Scope)(N:List Str):Bool:=
 decide (scope.kind=.function)&&decide (scope.isCoroutine=false)&&decide (scope.isGenerator=false)&&scope.names.all (λy=>decide (y.2≠.cell))&&decide (scope.names.lookup p=some .local) &&
 scope.names.all (λy=>decide (y.2≠.free)||(decide (osc.names.lookup y.1=some .cell)||decide (osc.names.lookup y.1=some .free)))&&fv.all λi=>decide (i<N.length)&&decide (scope.names.lookup (N.getD i Q5)=some .free)
theorem lms {X:Cx} {a:Scope} {p:Str} {fv:List Nat} (h:qUP a p fv X.env.scope X.N=true):LmScope X a p fv:=by
 unfold qUP at h;simp only[J9,decide_eq_true_eq,K0,c5] at h;obtain⟨⟨⟨⟨⟨⟨e,c⟩,g⟩,f⟩,d⟩,j⟩,k⟩:=h;refine⟨e,c,g,f,d,λy i b=>?_,k⟩;rcases j y i with z|z
 ·exact absurd b z
 ·exact z
structure LTab where
 x:Str
 c:Addr
 P:Addr
 q:Str
def qd2 (tabs:List LTab)(H:Hp):Prop:=∀t∈tabs,H t.P=some (.tbl (.tab t.q))
noncomputable def entH (a:Addr)(o:Obj)(xs:List V)(ina:Bool)(tabs:List LTab):Hp:=λb=>if ina=true/\b=a then some (.frz o (.lst xs)) else(tabs.find? λt=>decide (t.P=b)).map λt=>.tbl (.tab t.q)
theorem qUT {K:Ab1} {mg mb:Ab0} {k:Nat} {fa a:Addr} {fd:B98} {x:Str} {sp:Sp} {vs:List Value} {ns:List Int} (f:List LTab)
  (KX:K.In g.heap) (af:g.heap.Ns B89 mg) (hb:g.heap.Ns C60 mb) (ak:∀x:Str,x ≠ "__name__"->mb x=B82 x) (ab:g.heap.NoLimit) (hg:g.gens=#[])
  (ha:g.heap.get? a=some {cls:=.type "list",data:=.seq vs.toArray}) (hi:B85 vs ns) (hl:ns.length<=B77) (hr:Room k callerA) (am:BM mg g.heap)
  (j:∀t∈f,PySem.W.CodeHd g.heap t.c t.P/\g.heap.get? t.P=some (B48 #[])) (hK:A76 K=true) (a9:∀t∈f,∀t'∈f,t.P=t'.P->t.q=t'.q)
  (F:∀base:Heap,K.In base->base.Ns B89 mg->BM mg base->FnOk P w K mg base CX0 k fa fd [x] sp) (a8:∀(s:Shared) (u:Value),BindsTo s fd ⟨[u],[]⟩ [(x,u)])
  (aj:∀H:Hp,qd2 f H->SqL K H a (ns.map V.int)->sp [.ref a] H (λv _=>v=.bl true) λ_ _ _=>False):
  C16 (model P w) callerA (.call (.ref fa) ⟨[.ref a],[]⟩) (λr s'=>r=.ok (.ret (.bool true))/\OldK g.heap s'.heap/\s'.os=g.os/\AllBare s'.gens) g:=by
 have rv:=qIG hi;have aa:=hi.length;have ah:∀t∈f,t.P≠a:=λt i z=>by
  have:=(j t i).2;rw[z,ha] at this;cases this
 have al:∀t∈f,K.lookup t.P=none:=λt i=>by
  cases e:K.lookup t.P with
  |none=>rfl
  |some o=>
   have y:=KX _ _ e;rw[(j t i).2] at y;cases y;have h2:=K0.mp hK _ (PySem.W.mem_of_lookupK e);exact absurd (show false=true from h2) B4
 obtain⟨a1,a4⟩:∃a1:Bool,(a1=true↔K.lookup a=none):=by
  cases e:K.lookup a with
  |none=>exact⟨true,by simp⟩
  |some o=>exact⟨false,by simp⟩
 -- the heap's description
 let o0:Obj:={cls:=.type "list",data:=.seq vs.toArray}
 have a0:∀b u,entH a o0 (ns.map V.int) a1 f b=some u->(a1=true/\b=a/\u=.frz o0 (.lst (ns.map V.int)))\/∃t∈f,t.P=b/\u=.tbl (.tab t.q):=λb u e=>by
  unfold entH at e
  split at e
  ·rename_i c
   cases e;exact .inl ⟨c.1,c.2,rfl⟩
  ·cases y:f.find? (λt=>decide (t.P=b)) with
   |none=>rw[y] at e;cases e
   |some t=>
    rw[y] at e;cases e;exact .inr ⟨t,Z1 y,of_decide_eq_true (A53 (p:=λt:LTab=>decide (t.P=b)) y),rfl⟩
 have a7:∀t∈f,entH a o0 (ns.map V.int) a1 f t.P=some (.tbl (.tab t.q)):=λt i=>by
  unfold entH;rw[if_neg λz=>ah t i z.2];cases y:f.find? (λt'=>decide (t'.P=t.P)) with
  |none=>exact absurd (decide_eq_true (rfl:t.P=t.P)) (A94.mp y t i)
  |some t'=>
   have h1:=Z1 y;have h2:t'.P=t.P:=of_decide_eq_true (A53 (p:=λt':LTab=>decide (t'.P=t.P)) y);rw[R8,a9 t' h1 t i h2]
 generalize hH:entH a o0 (ns.map V.int) a1 f=H at a0 a7;have hS:SqL K H a (ns.map V.int):=by
  cases e:K.lookup a with
  |none=>
   refine .inl (.inr ⟨o0,?_⟩);rw[<- hH];unfold entH;rw[if_pos ⟨a4.mpr e,rfl⟩]
  |some o=>
   have y:=KX a o e;rw[ha] at y;cases y;exact .inr ⟨_,vs.toArray,_,e,rfl,rfl,rfl,by rw[B8,aa];exact hl,by simpa using rv⟩
 have ag:HOk P w H g.heap:=λb u e=>by
  rcases a0 b u e with⟨_,rfl,rfl⟩|⟨t,i,rfl,rfl⟩
  ·exact⟨ha,by rw[A0];exact hl,vs,_,rv,ha⟩
  ·exact⟨#[],(j t i).2,trivial,λan cv z=>by cases z⟩
 have l:∀{b:Addr} {o:Obj},g.heap.get? b=some o->H b=none->(hidT g.heap H).get? b=some o:=λe n=>qY2 e n;have ae:∀{b:Addr} {o:Obj},g.heap.get? b=some o->(∀xs n,o.data≠.seq xs n)->(∀ps,o.data≠.fields ps)->H b=none:=λ{b o} e d1 d2=>by
  cases q:H b with
  |none=>rfl
  |some u=>
   rcases a0 b u q with⟨_,rfl,_⟩|⟨t,i,rfl,_⟩
   ·rw[ha] at e;cases e;exact absurd rfl (d1 _ _)
   ·rw[(j t i).2] at e;cases e;exact absurd rfl (d2 _)
 have a2:∀{b:Addr} {m:Ab0},g.heap.Ns b m->(hidT g.heap H).Ns b m:=λ{b m} ⟨o,es,ep,e,d,r⟩=>⟨o,es,ep,l e (ae e (λ_ _ z=>by rw[d] at z;cases z) λ_ z=>by rw[d] at z;cases z),d,r⟩
 have ad:K.In (hidT g.heap H):=fun b o e=>l (KX b o e) (by
  cases q:H b with
  |none=>rfl
  |some u=>
   rcases a0 b u q with⟨h1,rfl,_⟩|⟨t,i,rfl,_⟩
   ·rw[a4.mp h1] at e;cases e
   ·rw[al t i] at e;cases e)
 have ai:BM mg (hidT g.heap H):=by
  obtain⟨bm,ob,b1,b2,b3,b4,b5,b6⟩:=am;exact⟨bm,ob,b1,b2,l b3 (ae b3 (λ_ _ z=>by rw[b6] at z;cases z) λ_ z=>by rw[b6] at z;cases z),b4,b5,b6⟩
 have hM:Mod K mg (hidT g.heap H):=⟨ad,a2 af,⟨mb,a2 hb,ak⟩,let⟨mc,h1,h2⟩:=ab;⟨mc,a2 h1,h2⟩⟩
 have e0:Env0 P w K mg (hidT g.heap H) callerA [] g H:=⟨rfl,hM,λb o e=>qaD e,Nat.le_of_eq (qV8 _ _),trivial,λb hb=>absurd (show b∈([]:List Addr) from hb) (by simp),ag,.of_eq hg⟩
 refine C10 ((F _ ad (a2 af) ai).run callerA [] g H ⟨[.ref a],[]⟩ [.ref a] [.ref a] _ _ hr e0 (a8 g (.ref a)) (.cons rfl .nil) (aj H a7 hS)) λr s' h=>?_;cases r with
 |error e=>exact W5 h
 |ok fl=>
  cases fl with
  |next=>exact W5 h
  |brk=>exact W5 h
  |cont=>exact W5 h
  |ret u=>
   obtain⟨v,H',os,ac,un,a3,r',q⟩:=h;have q':v=.bl true:=q;subst q';obtain rfl:u=R6 true:=r';have a5:∀b o,g.heap.get? b=some o->s'.heap.get? b=some o\/∃t∈f,t.P=b:=λb o e=>by
    cases q:H b with
    |none=>exact .inl (un.keep b o e q (by intro z;exact absurd (show b∈([]:List Addr) from z) (by simp)) (by simp))
    |some u=>
     rcases a0 b u q with⟨_,rfl,rfl⟩|⟨t,i,e1,_⟩
     ·have z2:=un.frzs b o0 _ q;obtain⟨e1,_⟩:=ag b _ q;obtain⟨y,_⟩:=a3 b _ z2;rw[e] at e1;cases e1;exact .inl y
     ·exact .inr ⟨t,i,e1⟩
   have a6:∀t∈f,∃more,s'.heap.get? t.P=some (B48 more):=λt i=>by
    obtain⟨more,e,_⟩:=(show ObjOk P w H' s'.heap t.P (.tbl (.tab t.q)) from a3 t.P _ (un.tbls t.P _ (a7 t i)));exact⟨more,e⟩
   refine⟨rfl,⟨λb o e=>?_,λb o e=>?_⟩,os,ac⟩
   ·rcases a5 b o e with z|⟨t,i,rfl⟩
    ·exact .inl z
    ·obtain⟨more,em⟩:=a6 t i;have y:=(j t i).2;rw[e] at y;cases y;exact .inr (.inl ⟨((j t i).1.tab (j t i).2).isCodeTable,rfl,#[],more,rfl,by rw[em];simp⟩)
   ·rcases a5 b o e with z|⟨t,i,rfl⟩
    ·exact⟨_,z⟩
    ·obtain⟨more,em⟩:=a6 t i;exact⟨_,em⟩
theorem walk_ofT {l:PySem.W.OpenLaw} {n k:Nat} {p:List Str} {XP:(Ab0)->Heap->Prop} {YP:World->Heap->Prop} {d:DefRec} {K:Params->Ab1} {sp:World->Sp} {x:Str} (i:List LTab)
  (hn:l.most=some n) (a1:n<=B77) (a5:d.params.defaults=[]) (hr:Room k callerA)
  (hY:∀(w:World) (h:Heap),YP w h->(K w.params).In h)
  (a0:∀t∈i,((recsOf q).find? λe=>e.name==t.x).isSome=true) (r:∀(w:World),∀t∈i,B63 (K w.params) t.x=some (t.c,t.P)) (hK:∀w:World,A76 (K w.params)=true) (y:∀t∈i,∀t'∈i,t.P=t'.P->t.q=t'.q)
  (F:∀ (w:World) (mg:Ab0) (fa:Addr) (h:Heap),(K w.params).In h->h.Ns B89 mg->mg d.name=some (.ref fa)->
   ∃fd:B98,(∀(s:Shared) (u:Value),BindsTo s fd ⟨[u],[]⟩ [(x,u)])/\
    ∀base:Heap,(K w.params).In base->base.Ns B89 mg->BM mg base->FnOk l.prog w (K w.params) mg base CX0 k fa fd [x] (sp w))
  (a2:∀(w:World) (H:Hp) (a:Addr) (ns:List Int),ns.length<=n->qd2 i H->SqL (K w.params) H a (ns.map V.int)->sp w [.ref a] H (λv _=>v=.bl true) λ_ _ _=>False):
  PySem.W.WalkO q p XP YP l.row.toRowW d [] (λf vs=>B52 f vs):=by
 refine Att.attach_call hn a5 λw s₀ s₁ mg mb fa o pm cd a6 a vs ns G Y ho hd a7 a3 z m j hg=>?_;have KX:=hY w _ Y;obtain⟨fd,hb,hF⟩:=F w mg fa _ KX G.T.g a3;refine qUT i KX G.T.g G.T.b G.T.builtins G.T.nolimit hg z m (F4 j a1) hr G.T.bmain (λt ht=>?_) (hK w) y hF hb λH hO hS=>a2 w H a ns j hO hS;obtain⟨dd,a4⟩:=Z8.mp (a0 t ht);exact PySem.W.tab_of G.T KX a4 (r w t ht)
section
variable{prog:B79}{w:World}{A:Around}{E:Aa1}{s:Shared}
end
section
variable{X:Cx}
end
section
open PySem.SeqAt
open PySem.AutoSeq1 (wpAny_loadPart')
open PySem.MeetsSeq PySem.MeetsSeq2 PySem.MeetsSeq3
theorem qPA:∀ns:List Int,HT.lexLt ns ns=false
 |[]=>rfl
 |x::ns=>by rw[HT.lexLt_cons,if_pos rfl];exact qPA ns
theorem qJ9:∀{vs:List Value} {ns ms:List Int},B85 vs ns->B85 vs ms->ns=ms
 |_,_,_,.nil,.nil=>rfl
 |_,_,_,.cons a t h,.cons _ _ h'=>by rw[qJ9 h h']
theorem qFY:∀{vs:List Value} {ns:List Int},B85 vs ns->∀(j:Nat) (hj:j<vs.length),∃n t,ns[j]?=some n/\vs[j]=.int n t
 |_,_,.cons a t h,0,_=>⟨a,t,rfl,rfl⟩
 |_,_,.cons a t h,j+1,hj=>qFY h j (Nat.lt_of_succ_lt_succ hj)
theorem qVO {l b:Addr} {d a:Array Value} {ns f:List Int} (w:IsTup s.heap l d)(r:IsTup s.heap b a)(hi:B85 d.toList ns)(h:B85 a.toList f)(hu:A.units<cLine):EqAt A s (.ref l) (.ref b) (decide (ns=f)):=by
 by_cases e:l=b
 ·subst e;obtain⟨o,g1,_,n1,y⟩:=w;obtain⟨o',v,_,n2,p⟩:=r;rw[g1] at v;cases v;rw[y] at p;cases p;rw[decide_eq_true (qJ9 hi h)];exact EqAt.same _
 ·refine EqAt.of_refs e ?_;have z1:d.size=ns.length:=by rw[<- hi.length];simp
  have z2:a.size=f.length:=by rw[<- h.length];simp
  have:=RcAt.tuples (A:=A) (s:=s) (e:=fun j=>decide (ns[j]?=f[j]?)) w r hu (fun j i x=>by
   obtain⟨n,t,z,g⟩:=qFY hi j (by simpa using i)
   obtain⟨m,u,e3,k⟩:=qFY h j (by simpa using x)
   have g:d[j]=.int n t:=by simpa using g
   have k:a[j]=.int m u:=by simpa using k
   rw[z,e3,g,k];have q:=EqAt.int_int (A:=A.in1) (s:=s) n t m u
   rwa[show(n==m)=decide (some n=some m) by simp[BEq.beq]] at q)
  rwa[show((E6 (min d.size a.size)).all (λj=>decide (ns[j]?=f[j]?))&&d.size==a.size)=decide (ns=f) by
   rw[O1,J9,K0,decide_eq_true_eq,beq_iff_eq]
   constructor
   ·rintro⟨i,x⟩;refine B10 λj=>?_;by_cases c:j<ns.length
    ·exact of_decide_eq_true (i j (D6.mpr (by lia)))
    ·rw[O9 (by lia),O9 (by lia)]
   ·rintro rfl;exact⟨λj _=>decide_eq_true rfl,by lia⟩] at this
theorem qL8 (l b x y:Addr)(a c:Int)(t u:Tok)(n n2:Nat)(dd a1:Option Addr)(sl a2:Array (Option Value))(i1 i2:Array Value)(ns ms:List Int)(hi:B85 i1.toList ns)(hj:B85 i2.toList ms):
  Meets (Builtin.«tuple.__lt__» ⟨[.ref l,.ref b],[]⟩)
   (fun A R s=>s.heap.get? l=some { cls:=.type "tuple",dict:=dd,data:=.seq #[.int a t,.ref x] n,slots:=sl }/\s.heap.get? b=some { cls:=.type "tuple",dict:=a1,data:=.seq #[.int c u,.ref y] n2,slots:=a2 }/\
    IsTup s.heap x i1/\IsTup s.heap y i2/\A.units+1<cLine/\R (.ok (.ret (.bool (HT.lexLt (a::ns) (c::ms))))) s):=
 .of_wp λf w A R s h=>by
  obtain⟨m,g,d,o,k⟩:=s;obtain⟨hl,hb,hx,hy,hu,h⟩:=h;have f2:=A16
  wp_walk using C63 hl,C63 hb,wpAny_forIn_list _ (fun i b s'=>b.1=none/\s'=⟨m,g,d,o,k⟩/\((i=[(U8 a t,U8 c u),(C8 x,C8 y)]/\R (.ok (.ret (.bool (HT.lexLt (a::ns) (c::ms))))) ⟨m,g,d,o,k⟩)\/
   (i=[(C8 x,C8 y)]/\R (.ok (.ret (.bool (HT.lexLt ns ms)))) ⟨m,g,d,o,k⟩)\/(i=[]/\R (.ok (.ret (.bool false))) ⟨m,g,d,o,k⟩))) _
  case turn=>
   rintro⟨p,q⟩ i b s' ⟨v,rfl,⟨hz,j⟩|⟨hz,j⟩|⟨hz,j⟩⟩
   ·cases hz;rw[HT.lexLt_cons] at j;obtain⟨e,he,r⟩:=HT.eqAt_int A.in1 ⟨m,g,d,o,k⟩ a t c u;refine B75 (he f w _ _ ?_);cases e with
    |true=>
     rw[if_pos (r.mp rfl)] at j
     wp_walk
     exact⟨rfl,rfl,.inr (.inl ⟨rfl,j⟩)⟩
    |false=>
     rw[if_neg (λq=>absurd (r.mpr q) B4)] at j;have a0:=HT.rcLt_int A.in1 ⟨m,g,d,o,k⟩ a t c u f w
     wp_walk using a0
     exact⟨_,rfl,by simpa using j⟩
   ·cases hz;have he:=qVO (A:=A.in1) (s:=⟨m,g,d,o,k⟩) hx hy hi hj hu;refine B75 (he f w _ _ ?_);by_cases e:ns=ms
    ·rw[decide_eq_true e];subst e;rw[qPA] at j
     wp_walk
     exact⟨rfl,rfl,.inr (.inr ⟨rfl,j⟩)⟩
    ·rw[decide_eq_false e];have a0:∀(E:Aa1) (Q:Aa1),Q (.bool (HT.lexLt ns ms)) ⟨m,g,d,o,k⟩->wpAny (model f w) A.in1 (richCompare .Lt (.ref x) (.ref y)) Q E ⟨m,g,d,o,k⟩:=λE Q hq=>HT.lt_tupInts hx hy hi hj hu hq
     wp_walk using a0
     exact⟨_,rfl,by simpa using j⟩
   ·cases hz
  case fin=>
   rintro⟨b1,b2⟩ s' ⟨v,rfl,hh⟩;simp only at v;subst v;have j:R (.ok (.ret (.bool false))) ⟨m,g,d,o,k⟩:=by
    rcases hh with⟨z,_⟩|⟨z,_⟩|⟨_,z⟩
    ·cases z
    ·cases z
    ·exact z
   wp_walk
   exact⟨_,rfl,by simpa[i0] using j⟩
  case h=>
   exact⟨rfl,rfl,.inl ⟨rfl,h⟩⟩
end
def KR2 (H:Hp)(y:V)(k:List Int):Prop:=∃r q a ns,y=.ref r/\k=a::ns/\H r=some (.tup [.int a,.ref q])/\H q=some (.tup (ns.map V.int))
theorem qeA {X:Cx} (hu:X.A.in1.units+1<cLine):KCmp X KR2:=by
 refine⟨λH H' y k sm ⟨r,q,a,ns,e1,e2,g1,g2⟩=>⟨r,q,a,ns,e1,e2,sm _ _ g1,sm _ _ g2⟩,?_⟩;intro Ab σ s H y y' u u' k k' Q E I ry ry' ⟨r,q,a,ns,e1,e2,g1,g2⟩ ⟨r',q',a',ns',e1',e2',g1',g2'⟩ h;subst e1 e2 e1' e2';cases ry;cases ry';obtain⟨a4,r1,p1,_⟩:=I.tuple (Ac0 g1);obtain⟨z,m,g,_⟩:=I.tuple (Ac0 g1');obtain⟨js,r2,p2,_⟩:=I.tuple (Ac0 g2);obtain⟨d,p,i,_⟩:=I.tuple (Ac0 g2');obtain⟨v1,v2,rfl,⟨t,rfl⟩,c2⟩:=Vals.two r1;obtain⟨a3,a1,rfl,⟨t',rfl⟩,f⟩:=Vals.two m;cases c2;cases f;have i1:B85 js.toArray.toList ns:=qFG r2;have i2:B85 d.toArray.toList ns':=qFG p;obtain⟨⟨a2,dd,v,sl⟩,ho,w,n,hd⟩:=id p1;obtain⟨⟨a0,l,j,o⟩,e,b,n2,c⟩:=id g;simp only at w hd b c;subst w hd b c;exact richCompare_meets_room (op:=.Lt) ⟨_,ho,rfl⟩ ⟨_,e,rfl⟩ X6 d6 (b9 _ _) (qL8 r r' q q' a a' t t' n n2 dd l sl o js.toArray d.toArray ns ns' i1 i2)
  ⟨ho,e,p2,i,hu,show R6 (HT.lexLt (a::ns) (a'::ns'))≠A61/\Q (.bool (HT.lexLt (a::ns) (a'::ns'))) s from⟨(λx=>nomatch x),h⟩⟩ (by lia)
section
variable{X:Cx}
def qbK (P:Addr)(q:Str)(fv:List Nat)(te:TE)(KR:Hp->V->List Int->Prop)(ta:TA):TE:=λσ H Q=>ta σ H λvs H1=>H1 P=some (.tbl (.tab q))/\
 ∃l xs ks m,vs=[.ref l]/\H1 l=some (.lst xs)/\ks.length=xs.length/\(∀(i:Nat) (x:V) (k:List Int),xs[i]?=some x->ks[i]?=some k->∀Hc,Sm0 H1 Hc->te (qH6 fv σ x) Hc λy H'=>Sm0 Hc H'/\KR H' y k)/\
  qc3 (some .non) (xs.zip ks)=some m/\∀H',Sm0 H1 H'->Q m H'
theorem qXJ {e:Expr} {ta:TA} {np pos kpos g n r:Pos} {a:C11} {body:Expr} {d:Scope} {c P:Addr} {q:Str} {p:Str} {fv:List Nat} {te:TE} {KR:Hp->V->List Int->Prop} {nn:Nat} 
  (rm:Room 1 X.A) (hc:X.calm=true) (hg:Gl X "min") (hm:X.mg "min" = none) (hv:B82 "min" = some (.builtin "min")) (hb:BM X.mg X.base) (v:X.env.code=.ref c) (hd:hdIn X.K c P=true) (hq:X.env.qual ++ "<lambda>" = q)
  (S:LmScope X d p fv) (a0:defaultsOf a X.env=([],[])) (t:∀(cl:List (Str×Addr)) (pm cd ct u:Value),C39 (Z2 "<lambda>" q a body d cl pm cd ct) ⟨[u],[]⟩=pure [(p,u)])
  (KC:KCmp X KR) (ha:PA X [e] ta) (he:∀z,PE (lmCx X d p fv q z) body te) (hn:PE X (.Constant .none nn r) (tC .non)) (hs:B84 [e] X.env=[(false,eval e X.env)]:=by rfl):
  PE X (.Call (.Name "min" np) [e] [⟨some "key",.Lambda a body d n,kpos⟩,⟨some "default",.Constant .none nn r,g⟩] pos) (qbK P q fv te KR ta):=by
 intro Ab s σ H Q I h;refine C40 (qFR I hg hm hv ?_ (by decide) (by decide))
 refine PyProof.Rows.callWith_kw (thn (ha pos Ab s σ H _ I h) λus s1 ⟨vs,H1,I1,r1,q1⟩=>?_) (by rw[hs];rfl) (by rw[hs];rfl)
 obtain⟨hP,l,xs,ks,m,rfl,hl,lk,hk,em,q2⟩:=q1;obtain⟨u,rfl,rx⟩:=qDQ r1;cases rx;have C:=qW2 (c:=c) (P:=P) I1.ok.mod.kin hd;have pl:=qc6 (X:=X) (pos:=n) (body:=body) hb v C hq S a0;refine thn (qTY (kpos:=kpos) (nm:=some "key") pl (qTY (kpos:=g) (nm:=some "default") hn qc1) pos Ab s1 σ H1 (λzs H2=>∃f cc ctv,zs=[.ref f,.non]/\Sm0 H1 H2/\H2 f=some (LamF X q a body d cc ctv f)/\H2 cc=some (.tbl (.cod q))) I1 ⟨hP,λf cc ctv H' y h0 hf w=>⟨f,cc,ctv,rfl,y,hf,w⟩⟩) λws s2 ⟨zs,H2,I2,rz,f,cc,ctv,ez,y,hf,w⟩=>?_;subst ez;obtain⟨u2,u3,rfl,r2,r3⟩:=Vals.two rz;cases r2;cases r3;have hA:X.A.in1.frames=some X.stack:=I2.ok.frames;exact qP8 (H:=H2) hc rm hA S t he KC ⟨lk,λi x k hx a1 Hc j=>hk i x k hx a1 Hc λb o e=>j b o (y b o e)⟩ hf w (Ab2 (y _ _ hl)) (λH' j=>Ab2 (j _ _ (y _ _ hl))) I2
  (by unfold argsOk;kernel_rfl) (some .none) rfl (some .non) (.inr ⟨.non,.none,rfl,rfl,rfl⟩) m em λH' j=>q2 H' λb o e=>j b o (y b o e)
end
end L2
namespace L2.G
open PySem PySem.Spec PyProof.Rows
section
variable[NM]
variable{prog:B79}{w:World}{A:Around}{E:Aa1}{s:Shared}
theorem qH3 {vs:List Value} :∀p∈(B99 vs).toList,p.1=p.2:=by
 intro p a;unfold B99 at a;rw[B31] at a
 induction vs with
 |nil=>cases a
 |cons v vs ih=>
  rcases B7.mp a with h|h
  ·rw[h]
  ·exact ih h
theorem qN9 (vs:List Value):(B99 vs).toList.map (·.2)=vs:=by
 unfold B99;rw[B31,List.map_snd_zip (by simp)]
theorem qUB {vs:List Value} {xs:Array Keyed} (f:xs.Perm (B99 vs))(g:gSortedTo xs (B99 vs).size):(xs.map (·.2)).toList.Perm vs/\(xs.map (·.2)).toList.Pairwise (λu v=>NM.nm u<=NM.nm v):=by
 have d:=Y6.mp f
 constructor
 ·have:=d.map (·.2);rw[qN9] at this;rw[B32];exact this
 ·rw[B32,J4,G3];intro i j l k e;have n:=f.size_eq;have b:i<xs.size:=by simpa using l
  have c:j<xs.size:=by simpa using k
  have a:=g i j (T5 e) (by lia)
  rw[qaR b,qaR c] at a;have h:=qH3 _ (d.mem_iff.mp (show xs[i]∈xs.toList by simp))
  have m:=qH3 _ (d.mem_iff.mp (show xs[j]∈xs.toList by simp))
  rw[h,m] at a;simpa using a
theorem qQB {κ0:C13} {a:Addr} {vs:List Value} {n:Nat} {P:Fin->Shared->Prop} (t:s.heap.get? a=some (seqObj "list" vs.toArray n)) (hz:vs.length<=B77) (gd:∀v∈vs,NM.good v)
  (hk:∀h':Heap,(∀(b:Addr) (o:Obj),b≠a->s.heap.get? b=some o->h'.get? b=some o)->2<=vs.length->(∀{Q:C13->Shared->Prop},Q κ0 {s with heap:=h'}->wpAny (model prog w) A (keyKind' vs.toArray) Q E {s with heap:=h'})/\LtOk prog w A {s with heap:=h'} κ0)
  (h:∀(out:Array Value),out.toList.Perm vs->out.toList.Pairwise (λu v=>NM.nm u<=NM.nm v)->P (.done (.ret .none)) {s with heap:=sortedHeap s.heap a vs out}):wpAny (model prog w) A (Builtin.«list.sort» ⟨[.ref a],[]⟩) P E s:=by
 have la:=B1 t;have z0:vs.toArray.size<=B77:=by simpa using hz
 rw[list_sort_plain];refine B75 (listItems_at t rfl (B75 (C33 t rfl ?_ z0 (E7 _))));have y:∃k,(s.heap.update a (P7 λ_=>#[])).get? a=some (seqObj "list" #[] k):=⟨_,get?_update_seq t λ_=>#[]⟩;obtain⟨k,y⟩:=y;refine B75 (C49 y rfl (B75 (C45 ?_ (by simpa using hz))))
 refine B75 (C53 (B83 ?_));have r:(((s.heap.update a (P7 λ_=>#[])).push (seqObj "tuple" vs.toArray 0)).push (seqObj "list" #[] 0)).get? a=some (seqObj "list" #[] k):=by
  rw[j6,j6]
  ·exact y
  ·rw[m7];exact C4 la
  ·rw[size_push',m7];exact C4 (O8 la)
 have l:∀(b:Addr) (o:Obj),b≠a->s.heap.get? b=some o->(((s.heap.update a (P7 λ_=>#[])).push (seqObj "tuple" vs.toArray 0)).push (seqObj "list" #[] 0)).get? b=some o:=λb o hb q=>
  A3 _ (A3 _ ((Heap.get?_update_ne _ _ _ _ hb).trans q))
 have e:∀xs:Array Keyed,xs.Perm (B99 vs)->gSortedTo xs (B99 vs).size->P (.done (.ret .none)) {s with heap:=sortedHeap s.heap a vs (xs.map (·.2))}:=by
  intro xs px sx;obtain⟨q1,q2⟩:=qUB px sx;exact h _ q1 q2
 have sz:∀xs:Array Keyed,xs.Perm (B99 vs)->(xs.map (·.2)).size<=B77+1:=by
  intro xs px;rw[A10,px.size_eq,pairsOf_size]
  lia
 show wpAny _ A _ P E {s with heap:=((s.heap.update a (P7 λ_=>#[])).push (seqObj "tuple" vs.toArray 0)).push (seqObj "list" #[] 0)};dsimp only;by_cases d:vs.toArray.size<2
 ·simp only[if_pos d];refine B75 (B76 ?_);rw[B38];refine B75 (B76 (B75 (C49 r rfl (B75 (C33 r rfl ?_ (E7 _) (sz (B99 vs) (.refl _)))))));simp only[bne_self_eq_false,G7,if_false];refine B76 (e (B99 vs) (.refl _) λi j a0 hj=>?_);rw[pairsOf_size] at hj;rw[B8] at d;rw[show i=j by lia]
  exact O6 _
 ·simp only[if_neg d];rw[B8] at d;obtain⟨z,a1⟩:=hk _ l (by lia)
  have ik:qC4 (B99 vs):=λp hp=>by
   have m:=t9 (f:=(·.2)) hp;rw[qN9] at m;rw[qH3 p hp];exact gd _ m
  refine B75 (z (B75 (B90 (gwpS_runs (κ0:=κ0) (a₀:=B99 vs) (Q:=λ_ c=>gSG κ0 (B99 vs) c/\gSortedTo (arrOf c) (B99 vs).size) ik ⟨.refl _,rfl,rfl⟩ rfl λc g u=>⟨g,u⟩) ?_ λ_ _ x=>x)));rintro⟨_,c⟩ s2 ⟨es,g,u⟩;cases(show s2=_ from es);refine B75 (C49 r rfl (B75 (C33 r rfl ?_ (E7 _) (sz _ g.perm))));dsimp only;rw[g.failed];simp only[bne_self_eq_false,G7,if_false];exact B76 (e _ g.perm u)
end
theorem qKQ:∀a:List Int,HT.lexLt a a=false
 |[]=>rfl
 |x::a=>by rw[HT.lexLt_cons,if_pos rfl];exact qKQ a
theorem qJ4:∀a b c:List Int,HT.lexLt a b=true->HT.lexLt b c=true->HT.lexLt a c=true
 |[],[],_,h,_=>by cases h
 |[],_::_,[],_,h=>by cases h
 |[],_::_,_::_,_,_=>rfl
 |_::_,[],_,h,_=>by cases h
 |_::_,_::_,[],_,h=>by cases h
 |x::a,y::b,z::c,h1,h2=>by
  rw[HT.lexLt_cons] at h1 h2 ⊢;by_cases e1:x=y
  ·subst e1;rw[if_pos rfl] at h1;by_cases e2:x=z
   ·rw[if_pos e2] at h2 ⊢;exact qJ4 a b c h1 h2
   ·rw[if_neg e2] at h2 ⊢;exact h2
  ·rw[if_neg e1] at h1;have h1:=of_decide_eq_true h1;by_cases e2:y=z
   ·subst e2;rw[if_neg e1];exact decide_eq_true h1
   ·rw[if_neg e2] at h2;have h2:=of_decide_eq_true h2;rw[if_neg (by lia)]
    exact decide_eq_true (by lia)
theorem qNE:∀a b:List Int,HT.lexLt a b=false->HT.lexLt b a=false->a=b
 |[],[],_,_=>rfl
 |[],_::_,h,_=>by cases h
 |_::_,[],_,h=>by cases h
 |x::a,y::b,h1,h2=>by
  rw[HT.lexLt_cons] at h1 h2;by_cases e:x=y
  ·subst e;rw[if_pos rfl] at h1 h2;rw[qNE a b h1 h2]
  ·rw[if_neg e] at h1;rw[if_neg (λz=>e z.symm)] at h2;have:=of_decide_eq_false h1;have:=of_decide_eq_false h2
   lia
noncomputable def qHT (L:Aa0)(a:List Int):Int:=(((L.filter λx=>HT.lexLt x a).length:Nat):Int)
theorem qGL {α:Type} {p q:α->Bool} :∀{L:List α},(∀x∈L,p x=true->q x=true)->(∃x∈L,p x=false/\q x=true)->(L.filter p).length<(L.filter q).length
 |[],_,⟨x,hx,_⟩=>nomatch hx
 |y::L,h,⟨x,hx,h1,h2⟩=>by
  have le:∀{M:List α},(∀x∈M,p x=true->q x=true)->(M.filter p).length<=(M.filter q).length:=by
   intro M hM
   induction M with
   |nil=>exact A6 _
   |cons z M ih=>
    have i:=ih λx hx=>hM x (B9 _ hx);rw[P5,P5];cases ep:p z
    ·cases q z
     ·simpa using i
     ·simp;lia
    ·rw[hM z (by simp) ep]
     simpa using i
  rw[P5,P5];rcases B7.mp hx with e|e
  ·subst e;have:=le λx hx=>h x (B9 _ hx);rw[h1,h2];simp
   lia
  ·have i:=qGL (λx hx=>h x (B9 _ hx)) ⟨x,e,h1,h2⟩;cases ep:p y
   ·cases q y
    ·simpa using i
    ·simp;lia
   ·rw[h y (by simp) ep]
    simpa using i
theorem qTS {L:Aa0} {a b:List Int} (c:a∈L)(h:HT.lexLt a b=true):qHT L a<qHT L b:=by
 unfold qHT;have:=qGL (p:=λx=>HT.lexLt x a) (q:=λx=>HT.lexLt x b) (L:=L) (λx _ d=>qJ4 _ _ _ d h) ⟨a,c,qKQ a,h⟩
 lia
theorem qQH {L:Aa0} {a b:List Int} (c:a∈L)(d:b∈L):decide (qHT L a<qHT L b)=HT.lexLt a b:=by
 cases h:HT.lexLt a b with
 |true=>exact decide_eq_true (qTS c h)
 |false=>
  refine decide_eq_false λz=>?_;cases h2:HT.lexLt b a with
  |true=>have:=qTS d h2;lia
  |false=>rw[qNE a b h h2] at z;lia
noncomputable def qXZ (xs:List V):List Int:=xs.map fun|.int i=>i|_=>0
theorem qV6 (t:List Int):qXZ (t.map V.int)=t:=by
 unfold qXZ;rw[k9];exact(W4 λx _=>rfl).trans (List.map_id _)
noncomputable def keyH (H:Hp):Value->List Int
 |.ref r=>match H r with
  |some (.tup xs)=>qXZ xs
  |_=>[]
 |_=>[]
@[reducible] def tupNM (H:Hp)(L:Aa0):NM:=⟨λv=>qHT L (keyH H v),λv=>∃r t,v=.ref r/\H r=some (.tup (t.map V.int))/\t∈L⟩
theorem keyH_at {H:Hp} {r:Addr} {t:List Int} (h:H r=some (.tup (t.map V.int))):keyH H (.ref r)=t:=by
 show(match H r with|some (.tup xs)=>qXZ xs|_=>[])=t
 rw[h];exact qV6 t
section
variable{prog:B79}{w:World}{A:Around}{E:Aa1}{s:Shared}
theorem qUG {x y:Addr} {xs ys:Array Value} {ns i:List Int} {Q:Bool->Shared->Prop} (hu:A.units<cLine)(v:IsTup s.heap x xs)(o:IsTup s.heap y ys)(q:B85 xs.toList ns)(t:B85 ys.toList i)(h:Q (HT.lexLt ns i) s):wpAny (model prog w) A (oneLt' true (.ref x) (.ref y)) Q E s:=by
 rw[oneLt'_eq];simp only[if_true];obtain⟨⟨p,r,j,u⟩,e,k,n,m⟩:=id v;obtain⟨⟨l,d,c,f⟩,g,a,z,b⟩:=id o;simp only at k m a b;subst k m a b;refine B75 (wpAny_cRoomFor hu ?_);refine B75 (wpAny_callSpecialIfBound?_slot ⟨_,e,rfl⟩ X6 (C43 X6 ⟨_,e,rfl⟩ d6 (b9 _ _) (HT.tuple_lt_ints x y xs ys n z r d u f ns i q t) ⟨e,g,?_⟩));exact B92 h
theorem qJ7 {b:Bool} {Q:Bool->Shared->Prop} :∀{vs ws:List Value} {ns ms:List Int} {i:Nat} {fin:Bool},B85 vs ns->B85 ws ms->
  (fin=decide (vs.length<ws.length))->Q (HT.lexLt ns ms) s->PySem.W.KatLex prog w A b fin Q (vs.zip ws) i s
 |_,_,_,_,i,fin,.nil,.nil,ef,h=>by
  rw[ef];exact A55 h
 |_,_,_,_,i,fin,.nil,.cons _ _ _,ef,h=>by
  rw[ef];exact A55 h
 |_,_,_,_,i,fin,.cons _ _ _,.nil,ef,h=>by
  rw[ef];exact A55 h
 |_,_,_,_,i,fin,.cons (vs:=vs) (ns:=ns) x t hv,.cons (vs:=ws) (ns:=ms) y u hw,ef,h=>by
  rw[z8];refine PySem.W.kat_cons (wpAny_eqBool_int ?_);rw[HT.lexLt_cons] at h;by_cases e:x=y
  ·rw[if_pos e] at h;rw[beq_iff_eq.mpr e];refine PySem.W.kat_yes (qJ7 hv hw ?_ h);rw[ef];simp
  ·rw[if_neg e] at h;rw[beq_eq_false_iff_ne.mpr e];refine PySem.W.kat_no ?_;cases eb:(b&&i==0) with
   |true=>exact oneLt_int h
   |false=>exact PySem.W.kat_one _ _ (lt_int h)
theorem qSH {x y:Addr} {xs ys:Array Value} {ns d:List Int} {b:Bool} {Q:Bool->Shared->Prop} (i:IsTup s.heap x xs)(j:IsTup s.heap y ys)(g:B85 xs.toList ns)(l:B85 ys.toList d)(h:Q (HT.lexLt ns d) s):wpAny (model prog w) A (keyLt' (tuples' b) (.ref x) (.ref y)) Q E s:=by
 obtain⟨o,e,q,n,k⟩:=id i;obtain⟨p,c,f,m,a⟩:=id j;refine PySem.W.kat_lt e k c a (qJ7 g l ?_ h);simp
theorem qUX {b:List Addr} {ts:Aa0} {Q:C13->Shared->Prop} (h:Paired (λ(r:Addr) (t:List Int)=>∃xs:Array Value,IsTup s.heap r xs/\B85 xs.toList t) b ts)(c:∀t∈ts,t≠[])(m:2<=b.length)
  (q:Q (tuples' true) s):wpAny (model prog w) A (keyKind' (b.map C8).toArray) Q E s:=by
 have k:∃fs,PySem.W.KatTups s.heap (b.map C8) fs/\fs.length=b.length/\∀v∈fs,∃n t,v=.int n t:=by
  clear m
  induction h with
  |nil=>exact⟨[],trivial,rfl,λ_ z=>nomatch z⟩
  |@cons r t l1 l2 a _ ih=>
   obtain⟨fs,i,j,d⟩:=ih λt g=>c t (B9 _ g);obtain⟨xs,⟨o,l,u,n,p⟩,y⟩:=a;have g:t≠[]:=c t (by simp)
   obtain⟨xs⟩:=xs;cases y with
   |nil=>exact absurd rfl g
   |cons x tk rest=>
    refine⟨.int x tk::fs,.cons l u p rfl i,by simp[j],λv f=>?_⟩
    rcases B7.mp f with e|e
    ·exact⟨x,tk,e⟩
    ·exact d v e
 obtain⟨fs,i,j,d⟩:=k;refine PySem.W.kat_kind (T:=.type "int") i (by lia) (λv f=>?_) rfl ?_
 ·obtain⟨n,t,rfl⟩:=d v f;exact .now
 ·exact q
theorem qKX:∀(rs:List Addr) {Q:List (Option Value)->Shared->Prop},(∀r∈rs,∃xs:Array Value,IsTup s.heap r xs)->(∀L,Q L s)->wpAny (model prog w) A ((rs.map C8).mapM firstOfTuple') Q E s
 |[],_,_,h=>by rw[z9,List.mapM_nil];exact B76 (h _)
 |r::rs,Q,t,h=>by
  obtain⟨xs,o,ho,hc,n,hd⟩:=t r (by simp)
  rw[C7,B49];refine B75 ?_;rw[A67];refine B75 (A06 (show PySem.W.Looks (model prog w) s.heap (typeOf (.ref r)) o.cls from(A39 ho).andThen .now) ?_);rw[hc,if_neg (by first|decide|simp)]
  refine B75 (listItems_at ho hd (B76 ?_));exact B75 (qKX rs (Q:=λbs s'=>wpAny (model prog w) A (pure (xs[0]?::bs)) Q E s') (λr hr=>t r (B9 _ hr)) λL=>B76 (h _))
theorem qSG {c:Addr} {b:List Addr} {Q:C13->Shared->Prop} (i:IsTup s.heap c #[])(h:∀r∈b,∃xs:Array Value,IsTup s.heap r xs)
  (q:Q oneType' s):wpAny (model prog w) A (keyKind' ((c::b).map C8).toArray) Q E s:=by
 rw[kat_kind_eq,B11,map_eq_pure_bind,C7,B49];obtain⟨o,j,m,n,y⟩:=id i;refine B75 (B75 (B75 ?_));rw[A67];refine B75 (A06 (show PySem.W.Looks (model prog w) s.heap (typeOf (.ref c)) o.cls from(A39 j).andThen .now) ?_);rw[m,if_neg (by first|decide|simp)]
 refine B75 (listItems_at j y (B76 ?_));refine B75 (qKX b h λL=>B76 (B76 ?_));have u:((((#[]:Array Value)[0]?)::L).toArray.all λx=>x.isSome)=false:=by simp
 have l:((((((#[]:Array Value)[0]?)::L).toArray)[0]?).bind id).isSome=false:=by simp
 rw[if_neg (by rw[u];exact B4),if_neg (by rw[l];exact B4)]
 rw[oneTypeOnly'_eq,B11,map_eq_pure_bind];refine B75 (B75 (B75 (PySem.W.kas_mapM (r:=R7 "tuple") _ (λv k Q' z=>?_) (B76 ?_))))
 ·rw[<- C7] at k;obtain⟨r,p,rfl⟩:=D4.mp k;have:∃xs:Array Value,IsTup s.heap r xs:=by
   rcases B7.mp p with e|e
   ·rw[e];exact⟨_,i⟩
   ·exact h r e
  obtain⟨xs,o2,g,d,n2,t⟩:=this;refine A06 (show PySem.W.Looks (model prog w) s.heap (typeOf (.ref r)) o2.cls from(A39 g).andThen .now) ?_;rw[d];exact z
 ·have f:(B64 (λ_=>R7 "tuple") (C8 c::B64 C8 b)).toArray[0]?=some (R7 "tuple"):=by simp
  have a:((B64 (λ_=>R7 "tuple") (C8 c::B64 C8 b)).toArray.all λx=>x==R7 "tuple")=true:=by
   simp only[List.all_toArray,List.all_map,K0];intro _ _
   rfl
  rw[f];simp only[a,if_true];exact B76 (B76 q)
end
section
variable{X:Cx}
abbrev qFS (H:Hp)(rs:List Addr)(ts:Aa0):Prop:=Paired (λ(r:Addr) (t:List Int)=>H r=some (.tup (t.map V.int))) rs ts
theorem qG6:∀{rs:List Addr} {its:List Value},Vals (rs.map V.ref) its->its=rs.map C8
 |[],_,.nil=>rfl
 |r::rs,_,.cons h t=>by
  rw[C7,<- qG6 t];have:_=C8 r:=h;rw[this]
def qHR:Value->Addr
 |.ref a=>a
 |_=>0
theorem qN5:∀{vs:List Value},(∀v∈vs,∃a,v=.ref a)->(vs.map qHR).map C8=vs
 |[],_=>rfl
 |v::vs,h=>by
  obtain⟨a,rfl⟩:=h v (by simp)
  rw[C7,C7,qN5 λv hv=>h v (B9 _ hv)]
  rfl
theorem qQ2 {H:Hp} :∀{rs:List Addr} {ts:Aa0},qFS H rs ts->ts=rs.map λr=>keyH H (.ref r)
 |_,_,.nil=>rfl
 |_,_,.cons h t=>by rw[C7,keyH_at h,<- qQ2 t]
theorem qTC {H:Hp} :∀{rs:List Addr},(∀r∈rs,∃t:List Int,H r=some (.tup (t.map V.int)))->qFS H rs (rs.map λr=>keyH H (.ref r))
 |[],_=>.nil
 |r::rs,h=>by
  obtain⟨t,e⟩:=h r (by simp)
  exact .cons (by dsimp only;rw[keyH_at e];exact e) (qTC λr hr=>h r (B9 _ hr))
theorem qI0 {H:Hp} :∀{rs:List Addr} {ts:Aa0},qFS H rs ts->∀{r:Addr},r∈rs->∃t,t∈ts/\H r=some (.tup (t.map V.int))
 |_,_,.nil,_,h=>nomatch h
 |_,_,.cons (b:=t) g T,r,h=>by
  rcases B7.mp h with e|e
  ·exact⟨t,by simp,by rw[e];exact g⟩
  ·obtain⟨t,h1,h2⟩:=qI0 T e;exact⟨t,B9 _ h1,h2⟩
theorem qTN {Ab:List (Addr×Obj)} {σ:St} {H:Hp} {Q:VK} {d:List Addr} {ts:Aa0} {D:Addr} (I:Inv X Ab σ (Ag H D (.lst (d.map V.ref))) s)(hD:H D=none)(T:qFS H d ts)
  (hk:(∀t∈ts,t≠[])\/∃ts',ts=[]::ts') (hu:A.units+8<cLine)
  (q:∀rs' ts',rs'.Perm d->qFS H rs' ts'->ts'.Perm ts->ts'.Pairwise (λa b=>HT.lexLt b a=false)->Q (.ref D) (Ag H D (.lst (rs'.map V.ref)))):
  wpAny (model X.prog X.w) A (call (.builtin "list.sort") [.ref D]) (λ_ s'=>EP X Ab σ Q (.ref D) s') E s:=by
 obtain⟨z,a1,n,rv,hl,e⟩:=I.lstM qA1;have ei:=qG6 rv;subst ei;have hz:(d.map C8).length<=B77:=by simpa using z
 letI:NM:=tupNM H ts
 have gd:∀v∈d.map C8,NM.good v:=λv hv=>by
  obtain⟨r,hr,rfl⟩:=D4.mp hv;obtain⟨t,ht,g⟩:=qI0 T hr;exact⟨r,t,rfl,g,ht⟩
 have j:∀(h':Heap),(∀(b:Addr) (o:Obj),b≠D->s.heap.get? b=some o->h'.get? b=some o)->∀(r:Addr) (t:List Int),H r=some (.tup (t.map V.int))->∃xs:Array Value,IsTup h' r xs/\B85 xs.toList t:=by
  intro h' c r t g;have nr:r≠D:=qA6 g hD;obtain⟨a1,r1,⟨o,ho,hc,n,hd⟩,_⟩:=I.tuple (Ac0 (show(Ag H D (.lst (d.map V.ref))) r=some (.tup (t.map V.int)) by rw[qA8 nr];exact g))
  exact⟨a1.toArray,⟨o,c r o nr ho,hc,n,hd⟩,qFG r1⟩
 have f:∀(A':Around) (h':Heap) (κ:C13),(∀(x y:Addr) (xs ys:Array Value) (ns ms:List Int) (Q:Bool->Shared->Prop) (E:Aa1),IsTup h' x xs->IsTup h' y ys->B85 xs.toList ns->B85 ys.toList ms->Q (HT.lexLt ns ms) {s with heap:=h'}->wpAny (model X.prog X.w) A' (keyLt' κ (.ref x) (.ref y)) Q E {s with heap:=h'})->
   (∀(b:Addr) (o:Obj),b≠D->s.heap.get? b=some o->h'.get? b=some o)->LtOk X.prog X.w A' {s with heap:=h'} κ:=by
  intro A' h' κ a3 c;refine⟨λ{x y Q E} hx hy h=>?_⟩;obtain⟨r1,t1,rfl,g1,m1⟩:=hx;obtain⟨r2,t2,rfl,g2,m2⟩:=hy;obtain⟨xs,m,l⟩:=j h' c r1 t1 g1;obtain⟨ys,i2,j2⟩:=j h' c r2 t2 g2;refine a3 r1 r2 xs ys t1 t2 Q E m i2 l j2 ?_;have e1:NM.nm (C8 r1)=qHT ts t1:=by show qHT ts (keyH H (.ref r1))=_;rw[keyH_at g1]
  have e2:NM.nm (C8 r2)=qHT ts t2:=by show qHT ts (keyH H (.ref r2))=_;rw[keyH_at g2]
  rw[e1,e2,qQH m1 m2] at h;exact h
 have a4:∀out:Array Value,out.toList.Perm (d.map C8)->out.toList.Pairwise (λu v=>NM.nm u<=NM.nm v)->EP X Ab σ Q (.ref D) {s with heap:=sortedHeap s.heap D (d.map C8) out}:=by
  intro out p1 p2;have a2:∀v∈out.toList,∃a,v=C8 a:=λv hv=>by
   obtain⟨r,_,er⟩:=D4.mp (p1.mem_iff.mp hv);exact⟨r,er.symm⟩
  have k:=qN5 a2;have p3:(out.toList.map qHR).Perm d:=by
   have:=p1.map qHR;rw[k9] at this;have e:d.map (qHR ∘ C8)=d:=(W4 λx _=>rfl).trans (List.map_id _)
   rwa[e] at this
  obtain⟨e2,a5⟩:=sortedHeap_at (vs:=d.map C8) (out:=out) e;have T':qFS H (out.toList.map qHR) ((out.toList.map qHR).map λr=>keyH H (.ref r)):=qTC λr hr=>by
   obtain⟨t,_,g⟩:=qI0 T (p3.mem_iff.mp hr);exact⟨t,g⟩
  have p4:((out.toList.map qHR).map λr=>keyH H (.ref r)).Perm ts:=by
   have:=p3.map λr=>keyH H (.ref r);rw[<- qQ2 T] at this;exact this
  have p5:((out.toList.map qHR).map λr=>keyH H (.ref r)).Pairwise (λa b=>HT.lexLt b a=false):=by
   rw[<- k,J4] at p2;rw[J4];refine p2.imp_of_mem λ{a b} ha hb le=>?_;have ma:keyH H (.ref a)∈ts:=p4.mem_iff.mp (D4.mpr ⟨a,ha,rfl⟩);have mb:keyH H (.ref b)∈ts:=p4.mem_iff.mp (D4.mpr ⟨b,hb,rfl⟩);have le:qHT ts (keyH H (.ref a))<=qHT ts (keyH H (.ref b)):=le;rw[<- qQH mb ma];exact decide_eq_false (by lia)
  refine⟨.ref D,Ag H D (.lst ((out.toList.map qHR).map V.ref)),?_,rfl,q _ _ p3 T' p4 p5⟩;have hu:Ag (Ag H D (.lst (d.map V.ref))) D (.lst ((out.toList.map qHR).map V.ref))=Ag H D (.lst ((out.toList.map qHR).map V.ref)):=qIH;rw[<- hu];refine I.write (x:=D) (e:=D) (t':=s.toks) (by rw[qA1];exact trivial) (.inl rfl) (λb u hb a0=>?_) ⟨_,a5⟩ ?_
  ·rw[sortedHeap_old hb (B1 a0)];exact a0
  ·refine⟨?_,out.toList,e2,?_,by simpa using a5⟩
   ·rw[A0,p3.length_eq];simpa using z
   ·have:=qIF (out.toList.map qHR);rw[k] at this;exact this
 rcases hk with hk|⟨ts',hk⟩
 ·refine B87 slot_list_sort ⟨_,e,rfl⟩ entry_list_sort (qQB (κ0:=tuples' true) (n:=n) e hz gd (λh' c h2=>⟨λ{Q} p=>?_,f _ h' _ (λx y xs ys ns ms Q E m i2 l j2 p=>qSH m i2 l j2 p) c⟩) λout p1 p2=>⟨_,rfl,a4 out p1 p2⟩) (args_list_sort _);refine qUX (s:={s with heap:=h'}) (ts:=ts) ?_ hk (by simpa using h2) p
  exact Paired.mapP T λr t g=>j h' c r t g
 ·refine B87 slot_list_sort ⟨_,e,rfl⟩ entry_list_sort (qQB (κ0:=oneType') (n:=n) e hz gd (λh' c h2=>⟨λ{Q} p=>?_,f _ h' _ (λx y xs ys ns ms Q E m i2 l j2 p=>?_) c⟩) λout p1 p2=>⟨_,rfl,a4 out p1 p2⟩) (args_list_sort _)
  ·cases T with
   |nil=>cases hk
   |@cons r t l1 l2 g T=>
    have et:t=[]:=by cases hk;rfl
    subst et;obtain⟨xs,m,l⟩:=j h' c r [] g;obtain⟨xs⟩:=xs;cases l;refine qSG (s:={s with heap:=h'}) m (λr hr=>?_) p;obtain⟨t,_,g⟩:=qI0 T hr;obtain⟨xs,i,_⟩:=j h' c r t g;exact⟨xs,i⟩
  ·rw[keyLt'_oneType];exact qUG (s:={s with heap:=h'}) (by first|exact X3 (by show _<=A.units+8;simp[Around.in1]) hu|(show A.units+1<cLine;lia)|(show A.units<cLine;lia)) m i2 l j2 p
theorem qbN {d:Addr} {j:Obj} {es:Array DictEntry} {ep:Nat} (u:(d==C02)=false) (p:j.cls=.type "dict") (m:j.data=.dict es ep):
  PySem.W.KdlSrc prog w "dict" d d es.size (λi v=>∃h:i<es.size,v=es[i].key) (λh=>h.get? d=some j) where
 type:=λs h=>⟨_,h,p⟩
 there:=λh x=>⟨B1 x,B1 x⟩
 keep:=λh f x k=>k d (.inl rfl) _ x
 notList:=by decide
 notTuple:=by decide
 hint:=λA E s Q x q=>PySem.W.kdl_hint_dict ⟨_,x,p⟩ q
 iter:=λA s t x=>by
  have n:d≠s.heap.objs.size:=C4 (B1 x);refine⟨_,λi h=>qT5 h s.heap.objs.size d i es.size ep/\h.get? d=some j,λE Q q=>qNU ⟨_,x,p⟩ u x m q,?_,⟨A9 _ rfl,A3 _ x⟩⟩;refine⟨λb c=>?_,λi h f a k=>⟨k _ (by simp) _ a.1,k _ (by simp) _ a.2⟩,λi g Q E r a q=>?_,λg Q E a q=>?_,λi g Q E a q=>C67 ⟨_,a.1,rfl,rfl⟩ q⟩
  ·have e:b=s.heap.objs.size:=by simpa using c
   simp[e]
  ·refine qNV a.1 a.2 m r λf l k=>?_;exact q _ f g.toks ⟨r,rfl⟩ ⟨l,(k.2 d n).trans a.2⟩ λb o c e=>(k.2 b (λz=>c (by simp[z]))).trans e
  ·refine qRK t a.1 (A6 _) a.2 m λf k=>?_;exact q f g.toks λb o c e=>k b o (λz=>c (by simp[z])) e
theorem qOK {Ab:List (Addr×Obj)} {σ:St} {H:Hp} {Q:VK} {f:List Addr} {ts:Aa0} (k:X.A.units+64<cLine){s1:Shared}(I1:Inv X Ab σ H s1)(T:qFS H f ts)(j:(∀t∈ts,t≠[])\/∃ts',ts=[]::ts')(g:f.length<=B77)
  (q:∀ a rs' ts',H a=none->rs'.Perm f->qFS H rs' ts'->ts'.Perm ts->ts'.Pairwise (fun a b=>HT.lexLt b a=false)->Q (.ref a) (Ag H a (.lst (rs'.map V.ref)))):wpAny (model X.prog X.w) X.A.in1 (do
   let l <- newList (f.map C8)
   let _ <- C21 [l] (call (.builtin "list.sort") [l] [])
   ret l) (λfin s'=>∃r,fin=.done (.ret r)/\EP X Ab σ Q r s') X.xe s1:=by
 refine B75 (C53 ?_ (by rw[A0];exact g))
 have h:=I1.hok.fresh (A6 s1.heap.objs.size);have i:=I1.laid (a:=s1.heap.objs.size) (t':=s1.toks) (o:=.lst (f.map V.ref)) (h':=s1.heap.push {cls:=.type "list",data:=.seq (f.map C8).toArray}) (λb u e=>A3 _ e) (A6 _) ⟨by rw[A0];exact g,_,0,qIF f,A9 _ rfl⟩
 refine B75 (B83 (B90 (qTN (E:=X.xe) i h T j (by show X.A.units+1+8<cLine;lia) λrs' ts' a b c d=>q _ rs' ts' h a b c d) (λ_ s' x=>?_) λ_ _ e=>e))
 exact B76 ⟨_,rfl,x⟩
theorem call_sortedTD (hc:X.calm=true) (hu:X.A.units+64<cLine):qCF X (.builtin "sorted") (fun xs H Q=>∃ p o Af ts,xs=[.ref p]/\H p=some (.frz o (.dT Af))/\Af.map (·.1)=ts.map (fun t=>t.map (E8:Int->Key))/\(∃ ts',ts=[]::ts')/\
  ∀a rs' ts',H a=none->qFS H rs' ts'->ts'.Perm ts->ts'.Pairwise (λa b=>HT.lexLt b a=false)->Q (.ref a) (Ag H a (.lst (rs'.map V.ref)))):=by
 intro Ab s σ H xs us Q I r h;obtain⟨p,o,Af,ts,rfl,hq,j,a4,q⟩:=h;obtain⟨u,rfl,rx⟩:=qDQ r;cases rx;refine Z0 kind_sorted plain_sorted entry_sorted (args_sorted1 _) ?_;unfold Builtin.«sorted»;refine B75 (m:=checkCount "sorted" 1 1 _) (B76 ?_);obtain⟨e1,e2,e3,es,ep,e4,e5,a0⟩:=I.heldT hq;obtain⟨a5,hz,_⟩:=(show ObjOk X.prog X.w H s.heap p (.frz o (.dT Af)) from I.hok p _ hq);refine B75 (t5 (A:=X.A.in1) (qbN e2 e3 e4) (I.ok.hd hc) e1 (by rw[e5];exact hz) λh' tk c kept d=>?_)
 obtain⟨l1,l2⟩:=d;have lt:ts.length=Af.length:=by
  have:=congrArg V6 j;simpa using this.symm
 -- the keys' addresses
 have n:∀(i:Nat),i<c.toList.length->∃(r:Addr) (t:List Int),c.toList[i]?=some (.ref r)/\ts[i]?=some t/\H r=some (.tup (t.map V.int)):=by
  intro i z;have x:i<c.size:=by simpa using z
  obtain⟨h3,e6⟩:=l2 i c[i] (C3 x);obtain⟨k,v,r,g1,g2,g3⟩:=a0 i h3;have e:(Af.map (·.1))[i]?=some k:=by rw[B6,g1];rfl
  rw[j,B6] at e;cases et:ts[i]? with
  |none=>rw[et] at e;cases e
  |some t=>
   rw[et] at e;have e:t.map (E8:Int->Key)=k:=D7 e;refine⟨r,t,?_,rfl,?_⟩
   ·rw[F1,C3 x,e6,g2]
   ·rw[g3,<- e,k9]
    rfl
 have f:∀(l:List Value) (ts:Aa0),l.length=ts.length->(∀(i:Nat),i<l.length->∃(r:Addr) (t:List Int),l[i]?=some (.ref r)/\ts[i]?=some t/\H r=some (.tup (t.map V.int)))->∃rs:List Addr,l=rs.map C8/\qFS H rs ts:=by
  intro l
  induction l with
  |nil=>
   intro ts g _;cases ts with
   |nil=>exact⟨[],rfl,.nil⟩
   |cons _ _=>cases g
  |cons v l ih=>
   intro ts g h2;cases ts with
   |nil=>cases g
   |cons t ts=>
    obtain⟨r,t',a1,a2,a3⟩:=h2 0 (by simp)
    obtain⟨rs,b1,b2⟩:=ih ts (by simpa using g) λi z=>by
     have:=h2 (i+1) (by simpa using z)
     simpa using this
    have a1:v=.ref r:=by simpa using a1
    have a2:t=t':=by simpa using a2
    subst a1 a2;exact⟨r::rs,by rw[b1];rfl,.cons a3 b2⟩
 obtain⟨rs,e7,T⟩:=f c.toList ts (by rw[C0,l1,e5,lt]) n
 have y:rs.length<=B77:=by rw[C2 T,lt];exact hz
 have:=qOK (s1:={s with heap:=h',toks:=tk}) hu (I.kept (t':=tk) kept) T (.inr a4) y (Q:=Q) λa rs' ts' g h2 h3 h4 h5=>q a rs' ts' g h3 h4 h5;rw[<- e7] at this;exact this
end
open PySem PySem.Spec PyProof.Rows PySem.W
section
variable{X:Cx}{Ab:List (Addr×Obj)}{σ:St}{params:C11}{body:Expr}{scope:Scope}{p:Str}{fv:List Nat}{q:Str}{te:TE}{l f cc:Addr}{ctv:Value}{H0:Hp}{xs:List V}{ks:Aa0}{Q:VK}
end
end L2.G
namespace L2
open PySem PySem.Spec PyProof.Rows
section
variable{X:Cx}
end
section
variable{prog:B79}{w:World}{A:Around}{R:Result->Shared->Prop}{I:Addr}{fp wr:List Addr}{n:Nat}{P:Nat->Value->Prop}{St:Nat->Heap->Prop}
end
section
variable{X:Cx}
end
structure Clb (P:B79)(w:World)(K:Ab1)(mg:Ab0)(base:Heap)(n:Nat)(f:Addr)(fd:B98)(x:Str)(ps:List Str)(sp:Sp):Prop where
 G:FnOk P w K mg base CX0 n f fd ps sp
 b:Binds K fd ps []
 k:R3 K (.ref f)=true
 m:mg x=some (.ref f)
theorem qAT {X:Cx} {n k:Nat} {f:Addr} {h:B98} {x:Str} {ps:List Str} {sp:Sp} {e:Expr} {es:List Expr} {t:TA} {p pos:Pos} (C:Clb X.prog X.w X.K X.mg X.base n f h x ps sp)(i:Room k X.A)(l:Gl X x)
  (g:PA X (e::es) t) (d:n<=k:=by decide) (a:(x==("__debug__" : Str))=false:=by decide) (j:B84 (e::es) X.env=(false,eval e X.env)::B84 es X.env:=by rfl) (c:(backTo pos (B84 es X.env)).any (·.1)=false:=by rfl):
  PE X (.Call (.Name x p) (e::es) [] pos) (qbM sp [] E0 t):=qa9 C.G (i.mono d) l C.m C.k C.b .nil qe1 g a j c
theorem nmD {i:Nat} {t u:TS} {D:Ends} {x:V} {σ:St} {H:Hp} (h:∀D':Ends,(∀σ H,D.nx σ H->D'.nx σ H)->(∀v H,D.rt v H->D'.rt v H)->tSeq t u D' (σ.set i (some x)) H):qVD i x σ H λσ2 H2=>tSeq t u D σ2 H2:=h D (λ_ _ z=>z) λ_ _ z=>z
def Tf (K:Ab1)(x:Str)(s:Stmt)(f:Addr):Prop:=A05 K B89 x=some (some (.ref f))/\∃fd,Fun K x x s f fd
theorem Tf.use {K:Ab1} {h:Heap} {mg:Ab0} {x:Str} {s:Stmt} {f:Addr} (X:K.In h)(G:h.Ns B89 mg)(T:Tf K x s f):∃fd,Fun K x x s f fd/\mg x=some (.ref f):=
 let⟨a,fd,F⟩:=T
 ⟨fd,F,A98 X G a⟩
theorem Tf.clb {K:Ab1} {h base:Heap} {mg:Ab0} {x:Str} {s:Stmt} {f:Addr} {n:Nat} {ps:List Str} {sp:Sp} (X:K.In h)(G:h.Ns B89 mg)(T:Tf K x s f)(a:∀fd,Fun K x x s f fd->FnOk P w K mg base CX0 n f fd ps sp)
  (b:∀(kV doc pm:Value) (an:Option Addr) (cdv ct:Value) (us:List Value),us.length=ps.length->C39 (R5 x x (qEC s) (qBF s) (qAB s) .none kV doc pm an cdv ct) ⟨us,[]⟩=pure (ps.zip us)):∃fd,Clb P w K mg base n f fd x ps sp:=
 let⟨fd,F,m⟩:=T.use X G
 ⟨fd,a fd F,F.binds b,F.kp,m⟩
def Zs (K:Ab1):List Str->Prop
 |[]=>True
 |x::r=>A05 K B89 x=some none/\Zs K r
def Zm (mg:Ab0):List Str->Prop
 |[]=>True
 |x::r=>mg x=none/\Zm mg r
theorem Zs.mg {K:Ab1} {h:Heap} {mg:Ab0} (X:K.In h)(G:h.Ns B89 mg):∀{l:List Str},Zs K l->Zm mg l
 |[],_=>trivial
 |_::_,⟨a,b⟩=>⟨PySem.W.mg_none_of X G a,Zs.mg X G b⟩
theorem qBT {N P:List Str} {a:Scope} (d:a.kind=.function:=by rfl)(b:a.isCoroutine=false:=by rfl)(f:a.isGenerator=false:=by rfl)(e:N.Nodup:=by decide +kernel)(c:N.take P.length=P:=by rfl)(h:∀x∈P,a.names.lookup x=some .local\/a.names.lookup x=some .cell:=by decide +kernel)(g:∀y∈a.names,y.2≠.free:=by decide +kernel):FnScope N P a:=⟨d,b,f,e,c,h,g⟩
section
variable{P:B79}{w:World}{K:Ab1}{mg:Ab0}{base:Heap}
theorem Fun.okA {x a:Str} {st:Stmt} {f:Addr} {d:B98} {N ps:List Str} {k:Nat} {sp:Sp} (F:Fun K x a st f d)(S:FnScope N ps (qAB st))
  (b:∀ (cdv:Value) (A:Around) (outer:List Env) (s:Shared) (H:Hp) (vs:List V) (Q:VK) (E:XK),Room k (A.deeper (envOfC a (qAB st) s.heap.objs.size f cdv))->sp vs H Q E->
   ∃t,PSs (cxOf CX0 P w K mg base N a (qAB st) f cdv A outer s H E).nox (qBF st) t/\t {nx:=λ_ H'=>Q .non H',rt:=Q} (start N vs) H)
  (c:∀vs H Q E,sp vs H Q E->vs.length=ps.length:=by intro vs H Q E h;(repeat (obtain⟨_,h⟩:=h));subst_vars;rfl):FnOk P w K mg base CX0 (k+1) f d ps sp:=F.ok S c b
def Bs (P:B79)(w:World)(base:Heap):Prop:=P=P/\w=w/\base=base
theorem Tf.c {h:Heap} {x:Str} {s:Stmt} {f:Addr} {n:Nat} {ps:List Str} {sp:Sp} (X:K.In h)(G:h.Ns B89 mg)(B:Bs P w base)(T:Tf K x s f)(a:∀fd,Fun K x x s f fd->FnOk P w K mg base CX0 n f fd ps sp)
  (b:∀ (kV doc pm:Value) (an:Option Addr) (cdv ct:Value) (us:List Value),us.length=ps.length->C39 (R5 x x (qEC s) (qBF s) (qAB s) .none kV doc pm an cdv ct) ⟨us,[]⟩=pure (ps.zip us):=by
   intro _ _ _ _ _ _ us hl;first|exact us1 us hl (λ_=>rfl)|exact us2 us hl (λ_ _=>rfl)|exact us3 us hl (λ_ _ _=>rfl)|exact us4 us hl (λ_ _ _ _=>rfl)|exact us0 us hl rfl):∃fd,Clb P w K mg base n f fd x ps sp:=T.clb X G a b
end
section
variable{X:Cx}{pos:Pos}
theorem qBJ {x:Str} (i:Nat)(a:X.N.Nodup:=by exact qe4 (by kernel_rfl))(hi:X.N[i]?=some x:=by rfl)(c:Loc X.env.scope x:=by exact E2 rfl)(b:X.fn x=true\/X.env.scope.names.lookup x=some .local:=by first|exact .inl rfl|exact .inr rfl|assumption):PG X (.Name x pos) (qVD i):=qAS a hi c b
end
section
variable{prog:B79}{w:World}{A:Around}{E:Aa1}{s:Shared}
theorem qXY {a:List Value} {ys:List Int} (h:B85 a ys):a.length=ys.length/\∀(i:Nat) (y:Int),ys[i]?=some y->∃tk,a[i]?=some (.int y tk):=by
 induction h with
 |nil=>exact⟨rfl,λi y e=>by simp at e⟩
 |cons n tk hm ih=>
  refine⟨by rw[D3,D3,ih.1],λi y e=>?_⟩
  cases i with
  |zero=>cases e;exact⟨_,rfl⟩
  |succ i=>exact ih.2 i y e
theorem qHS {t:Addr} {a:Array Value} {ys:List Int} {x:Int} {u:Tok} {j:Nat} {Q:Aa1} (ht:IsTup s.heap t a)(hi:B85 a.toList ys)(g:ys[j]?=some x)(o:∀i,i<j->ys[i]?≠some x)
  (h:Q (.int j s.toks) {s with toks:=s.toks+1}):wpAny (model prog w) A (Builtin.«tuple.index» ⟨[.ref t,.int x u],[]⟩) (λfin s'=>∃v,fin=.done (.ret v)/\Q v s') E s:=by
 obtain⟨hl,hg⟩:=qXY hi;have k:a.size=ys.length:=by simpa using hl
 have p:j<a.size:=by rw[k];exact(A5.mp g).1
 show wpAny _ _ (Y4 (.ref t) >>= _) _ _ s;refine B75 (tupleItemsOf_ ht ?_);refine B75 (B76 ?_);refine B75 (B76 ?_);refine B75 ?_;rw[A59];have z:(A56 [0:min a.size a.size])=a.size:=by simp[A56]
 rw[z];refine wpAny_forIn_list _ (λb r s'=>r.1=none/\s'=s/\∃i,b=List.range' i (a.size-i) 1/\i<=j) _ ?_ ?_ _ _ ⟨rfl,rfl,0,by simp,E7 _⟩
 ·rintro y b r s' ⟨hr,rfl,i,e,hij⟩;obtain⟨m,q⟩:∃m,a.size-i=m+1:=⟨a.size-i-1,by lia⟩
  rw[q,List.range'_succ] at e
  injection e with e1 e2
  subst e1;have c:y<ys.length:=by lia
  obtain⟨tk,n⟩:=hg y _ (A4 c);have l:a[y]?=some (.int ys[y] tk):=by simpa using n
  dsimp only;rw[l];dsimp only;refine B75 (wpAny_eqBool_int ?_);by_cases f:ys[y]=x
  ·have ey:y=j:=by
    by_cases d:y<j
    ·exact absurd (by rw[A4 c,f]) (o y d)
    ·lia
   subst ey;rw[show(ys[y]==x)=true from by rw[f];exact beq_self_eq_true _]
   refine B75 (B75 (wpAny_mkInt (B76 ?_)));exact B76 (B76 ⟨_,rfl,h⟩)
  ·rw[show(ys[y]==x)=false from by simpa using f]
   refine B76 ⟨rfl,rfl,y+1,by rw[e2];congr 1;lia,?_⟩
   rcases Nat.lt_or_ge y j with d|hge
   ·exact d
   ·have:y=j:=by lia
    subst this;rw[A4 c] at g;exact absurd (D7 g) f
 ·rintro⟨b1,b2⟩ s' ⟨hb,rfl,i,e,hij⟩;have:(List.range' i (a.size-i) 1).length=0:=by rw[<- e];rfl
  rw[List.length_range'] at this
  lia
end
section
variable{X:Cx}
def qQI (K:Ab1):V->List V->Hp->VK->Prop:=λx vs H Q=>∃(a:Addr) (ys:List Int) (y:Int) (j:Nat),x=.ref a/\vs=[.int y]/\SqT K H a (ys.map V.int)/\ys[j]?=some y/\(∀i,i<j->ys[i]?≠some y)/\Q (.int j) H
theorem qSA:MtR X "tuple.index" (qQI X.K):=by
 intro l s σ H x m v n Q I g i h;obtain⟨a,o,y,j,rfl,rfl,e,f,d,q⟩:=h;cases g;obtain⟨u,rfl,k⟩:=i.one;obtain⟨t,rfl⟩:=k;obtain⟨c,r,b,z⟩:=I.tuple e;refine B87 F.slot_tuple_index b.typeIs F.entry_tuple_index (qHS b (qFG (by simpa using r)) f d ?_) (F.args_tuple_index_2 _ _)
 exact⟨.int j,H,I.tok _,⟨_,rfl⟩,q⟩
theorem qP4 {K:Ab1} (a:X.K=K):MtR X "tuple.index" (qQI K):=by
 subst a;exact qSA
def tBMT (r:V->List V->Hp->VK->Prop)(to:TE)(t:TA):TE:=λσ H Q=>to σ H λx H1=>(∃a xs,x=.ref a/\BareT H1 a xs)/\t σ H1 λxs H2=>r x xs H2 Q
theorem qc8 {o e:Expr} {es:List Expr} {u:TE} {t:TA} {name:Str} {f c:Pos} {id:String} {r:V->List V->Hp->VK->Prop} (pa:PlainAttrs "tuple") (j:Slot "tuple" name id) (m:typeOf (.builtin id)=pure (.type "method_descriptor")) (hm:MtR X id r) (ho:PE X o u) (ha:PA X (e::es) t)
  (g:C51 o name X.env (eval o X.env)=eval o X.env:=by rfl)
  (k:((backTo c (B84 (e::es) X.env)).all (fun x=>!x.1) && (backToKw c (C48 [] X.env)).all (fun x=>x.1.isSome)
   && decide ((e::es).length+([]:List C41).length+(if([]:List C41).isEmpty then 0 else 1)<30))=true:=by rfl)
  (i:(f.endLine==c.line)=true:=by rfl) (hs:B84 (e::es) X.env=(false,eval e X.env)::B84 es X.env:=by rfl) (d:(backTo c (B84 es X.env)).any (·.1)=false:=by rfl):
  PE X (.Call (.Attribute o name f) (e::es) [] c) (tBMT r u t):=by
 intro p s σ H Q I h;refine wpAny_Call_method_late g k i rfl (thn (ho p s σ H _ I h) λv s1 ⟨x,H1,I1,r1,ty,q1⟩=>?_);obtain⟨a,y,rfl,n,hq,z,hd⟩:=ty;cases r1;obtain⟨l,_⟩:=(show ObjOk X.prog X.w H1 s1.heap a (.frz n (.tup y)) from I1.hok a _ hq);refine⟨"tuple",id,pa,j,m,⟨n,l,z⟩,λb e=>?_,?_⟩
 ·cases e;exact⟨n,l,hd⟩
 have q:=ha c p s1 σ H1 _ I1 q1;rw[hs] at q ⊢;refine d7 (by show(false||(backTo c (B84 es X.env)).any (·.1))=false;rw[d]<;>rfl) (A62 ?_)
 exact thn q λus s2 ⟨vs,H2,I2,r2,q2⟩=>hm p s2 σ H2 (.ref a) vs (.ref a) us Q I2 rfl r2 q2
theorem Rd.same {H H':Hp} {a:Addr} {u:HO} (h:Rd H a u)(s:∀b o,H b=some o->H' b=some o):Rd H' a u:=by
 rcases h with h|⟨o,h⟩
 ·exact .inl (s _ _ h)
 ·exact .inr ⟨o,s _ _ h⟩
end
section
variable{X:Cx}{tg:Expr}
end
section
variable{X:Cx}
end
end L2
namespace Fw
open PySem L2
theorem qBH:B82 "len" = some (.builtin "len"):=by decide +kernel
theorem qRO:B82 "min" = some (.builtin "min"):=by decide +kernel
theorem qd0:B82 "max" = some (.builtin "max"):=by decide +kernel
theorem qCE:B82 "sorted" = some (.builtin "sorted"):=by decide +kernel
theorem qWB:B82 "divmod" = some (.builtin "divmod"):=by decide +kernel
theorem qL3:B82 "all" = some (.builtin "all"):=by decide +kernel
theorem qAP:B82 "isinstance" = some (.builtin "isinstance"):=by decide +kernel
theorem qL2:B82 "int" = some (.type "int"):=by decide +kernel
theorem qPW:B82 "bool" = some (.type "bool"):=by decide +kernel
theorem qZL:B82 "str" = some (.type "str"):=by decide +kernel
theorem qJT:B82 "list" = some (.type "list"):=by decide +kernel
theorem qAO:B82 "tuple" = some (.type "tuple"):=by decide +kernel
theorem qO2:B82 "set" = some (.type "set"):=by decide +kernel
theorem qYL:B82 "range" = some (.type "range"):=by decide +kernel
theorem qCV:B82 "enumerate" = some (.type "enumerate"):=by decide +kernel
structure StAt (H:Hp)(d c:Addr)(t:Int)(ns:List Int):Prop where
 dict:H d=some (.dK [(L9 "cells",.ref c),(L9 "turn",.int t)])
 list:H c=some (.lst (ns.map V.int))
 ne:0<ns.length
 len:ns.length<=63
 pos:0<=t
def Keep (d c:Addr)(H H':Hp):Prop:=∀b o,H b=some o->b≠d->b≠c->H' b=some o
theorem Keep.trans {d c:Addr} {H H1 H2:Hp} (a:Keep d c H H1)(b:Keep d c H1 H2):Keep d c H H2:=λx o h n m=>b x o (a x o h n m) n m
theorem Keep.of_same {d c:Addr} {H H':Hp} (h:Same H H'):Keep d c H H':=λb o e _ _=>h b o e
theorem qA2 {H:Hp} {p:Addr} (h:H p=none)(o:HO):Same H (Ag H p o):=λb u q=>by rw[qA8 (qA6 q h)];exact q
theorem qDN {d c:Addr} {H:Hp} {p:Addr} (h:H p=none)(o:HO):Keep d c H (Ag H p o):=.of_same (qA2 h o)
theorem StAt.ndc {H:Hp} {d c:Addr} {t:Int} {ns:List Int} (S:StAt H d c t ns):d≠c:=qCA S.dict S.list (by intro z;cases z)
theorem StAt.same {H H':Hp} {d c:Addr} {t:Int} {ns:List Int} (S:StAt H d c t ns)(h:Same H H'):StAt H' d c t ns:=⟨h _ _ S.dict,h _ _ S.list,S.ne,S.len,S.pos⟩
theorem StAt.new {H:Hp} {d c p:Addr} {t:Int} {ns:List Int} (S:StAt H d c t ns)(h:H p=none)(o:HO):StAt (Ag H p o) d c t ns:=S.same (qA2 h o)
theorem s_cs:¬(D0 "cells" = D0 "turn"):=by decide +kernel
theorem s_ct:¬((L9 (D0 "cells"):Key)=L9 (D0 "turn")):=λh=>s_cs (B70 h)
theorem qaY {H:Hp} {d c:Addr} {t:Int} {ns:List Int} (S:StAt H d c t ns):DGet H d (.str "turn") (some (.int t)):=by
 have h:=DGet.k (k:=L9 "turn") S.dict;rw[qBR s_ct,qBQ rfl] at h;exact h
theorem qMB {H:Hp} {d c:Addr} {t:Int} {ns:List Int} (S:StAt H d c t ns):DGet H d (.str "cells") (some (.ref c)):=by
 have h:=DGet.k (k:=L9 "cells") S.dict;rw[qBQ rfl] at h;exact h
theorem qXA (c:Addr) (t u:Int):putK [((L9 "cells" : Key),V.ref c),(L9 "turn",V.int t)] (L9 "turn") (V.int u)=[((L9 "cells" : Key),V.ref c),(L9 "turn",V.int u)]:=by
 unfold putK;simp[s_cs]
theorem qaW {H:Hp} {d c:Addr} {t u:Int} {ns:List Int} (S:StAt H d c t ns):DPut H d (.str "turn") (.int u) (Ag H d (.dK [(L9 "cells",.ref c),(L9 "turn",.int u)])):=by
 have h:=DPut.k (k:=L9 "turn") (v:=.int u) S.dict (by rw[B88];exact(by decide:2<16777216))
 rw[qXA] at h;exact h
theorem StAt.turn {H:Hp} {d c:Addr} {t u:Int} {ns:List Int} (S:StAt H d c t ns) (h:0<=u):StAt (Ag H d (.dK [(L9 "cells",.ref c),(L9 "turn",.int u)])) d c u ns:=
 ⟨qA1,by rw[qA8 (F5 S.ndc)];exact S.list,S.ne,S.len,h⟩
theorem StAt.put {H:Hp} {d c:Addr} {t:Int} {ns a:List Int} (S:StAt H d c t ns)(h:a.length=ns.length):StAt (Ag H c (.lst (a.map V.int))) d c t a:=
 ⟨by rw[qA8 S.ndc];exact S.dict,qA1,by rw[h];exact S.ne,by rw[h];exact S.len,S.pos⟩
abbrev TB:Int:=1000000000
def qIL:Sp:=λvs H Q _=>∃d c t ns m,vs=[.ref d,.int m]/\StAt H d c t ns/\t<=TB/\1<=m/\m<=1000000/\∀k ns' H',0<=k->k<m->StAt H' d c (t+1) ns'->Keep d c H H'->Q (.int k) H'
def qTK (K:Ab1):Sp:=λvs H Q _=>∃(a:Addr) (ns:List Int),vs=[.ref a]/\SqL K H a (ns.map V.int)/\ns.length<=63/\∀d c ms H',StAt H' d c 0 ms->Same H H'->H d=none->H c=none->Q (.ref d) H'
noncomputable def cutI {α:Type}(xs:List α)(lo hi:Option Int):List α:=(xs.drop (HT.sIx xs.length 0 lo)).take (HT.sIx xs.length xs.length hi-HT.sIx xs.length 0 lo)
theorem qIA {α:Type} (f:α->V)(xs:List α)(lo hi:Option Int):cutV (xs.map f) lo hi=(cutI xs lo hi).map f:=by
 unfold cutV cutI;rw[A0,<- A99,<- B65]
theorem qYJ {α:Type} (xs:List α)(lo hi:Option Int):(cutI xs lo hi).length<=xs.length:=by
 unfold cutI;rw[C5,G0]
 lia
theorem qZ6 (c:Addr) (t:Int):qFQ [] [((L9 (D0 "cells"):Key),V.ref c),(L9 (D0 "turn"),V.int t)]=[((L9 (D0 "cells"):Key),V.ref c),(L9 (D0 "turn"),V.int t)]:=by
 unfold qFQ;simp only[V1,B47];unfold putK;simp[s_cs]
theorem qV1 {xs:List V} {j:Nat} (h:j<xs.length):ixN xs.length (j:Int)=some j:=by
 unfold ixN;rw[if_pos (by lia),if_pos (by lia),D9]
def qdO (K:Ab1):Sp:=λvs H Q _=>∃(a:Addr) (ns:List Int),vs=[.ref a]/\SqL K H a (ns.map V.int)/\ns.length<=63/\∀H',Q (.bl true) H'
theorem cut {t u:TS} {D:Ends} {σ:St} {H:Hp} (h:∀N:St->Hp->Prop,(∀σ H,u D σ H->N σ H)->t {D with nx:=N} σ H):tSeq t u D σ H:=h _ λ_ _ z=>z
theorem opq {A:Prop} (h:∀G:Prop,(A->G)->G):A:=h A id
structure Rise (k:Int)(zs:List Int):Prop where
 up:zs.Pairwise (·<·)
 in_:∀x∈zs,0<=x/\x<k
theorem Rise.nil {k:Int} :Rise k []:=⟨.nil,λ_ h=>nomatch h⟩
theorem Rise.mono {j k:Int} {zs:List Int} (h:Rise j zs)(l:j<=k):Rise k zs:=⟨h.up,λx a=>⟨(h.in_ x a).1,by have:=(h.in_ x a).2;lia⟩⟩
theorem Rise.sub {k:Int} {zs ys:List Int} (h:Rise k zs)(s:ys.Sublist zs):Rise k ys:=⟨h.up.sublist s,λx a=>h.in_ x (s.subset a)⟩
theorem Rise.snoc {k:Int} {zs:List Int} (h:Rise k zs)(e:0<=k):Rise (k+1) (zs++[k]):=by
 refine⟨Q6.mpr ⟨h.up,List.pairwise_singleton _ _,λa c b d=>?_⟩,λx hx=>?_⟩
 ·rw[A7.mp d];exact(h.in_ a c).2
 ·rcases B0.mp hx with hx|hx
  ·have:=h.in_ x hx;lia
  ·rw[A7.mp hx];lia
theorem Rise.shift {k j:Int} {zs:List Int} (h:Rise k zs)(g:0<=j):Rise (k+j) (zs.map (·+j)):=by
 refine⟨J4.mpr (h.up.imp λ{a b} c=>by lia),λx f=>?_⟩
 obtain⟨y,d,e⟩:=D4.mp f;have:=h.in_ y d
 lia
theorem Rise.nodup {k:Int} {zs:List Int} (h:Rise k zs):zs.Nodup:=h.up.imp λ{a b} c=>by lia
theorem Rise.len {zs:List Int} {k:Nat} (h:Rise (k:Int) zs):zs.length<=k:=by
 have a:zs ⊆ (E6 k).map λ(i:Nat)=>(i:Int):=λx b=>by
  have:=h.in_ x b;exact D4.mpr ⟨x.toNat,D6.mpr (by lia),by lia⟩
 have:=N9 h.nodup a;simpa using this
theorem mem_addI {zs:List Int} {k x:Int} :x∈addI zs k↔x∈zs\/x=k:=by
 unfold addI
 split
 ·rename_i h
  constructor
  ·exact .inl
  ·rintro(z|rfl)
   ·exact z
   ·exact h
 ·simp
theorem qaE {zs:List Int} {k:Int} (h:zs.Nodup):(addI zs k).Nodup:=by
 unfold addI
 split
 ·exact h
 ·rename_i hk
  exact qH5 h hk
theorem qVW:∀(l zs:List Int),zs.Nodup->(l.foldl addI zs).Nodup/\∀x,x∈l.foldl addI zs↔x∈zs\/x∈l
 |[],zs,h=>⟨h,λx=>by simp⟩
 |k::r,zs,h=>by
  obtain⟨a,b⟩:=qVW r (addI zs k) (qaE h);refine⟨a,λx=>?_⟩;rw[V1,b x,mem_addI,B7,or_assoc]
theorem qSU (l:List Int):(dedI l).Nodup:=(qVW l [] .nil).1
theorem mem_dedI {l:List Int} {x:Int} :x∈dedI l↔x∈l:=by
 have:=(qVW l [] .nil).2 x;unfold dedI;rw[this];simp
theorem qYI (l:List Int):(dedI l).length<=l.length:=by
 have:=qDU l [];simpa[dedI] using this
theorem qEV {zs:List Int} (c:zs.Pairwise (·<=·))(d:zs.Nodup):zs.Pairwise (·<·):=by
 have e:zs.Pairwise (λa b=>a<=b/\a≠b):=List.pairwise_and_iff.mpr ⟨c,d⟩;exact e.imp λ{a b} ⟨x,y⟩=>by lia
theorem qGD {k:Int} {a zs:List Int} (b:zs.Perm (dedI a))(c:zs.Pairwise (·<=·))(h:∀x∈a,0<=x/\x<k):Rise k zs:=
 ⟨qEV c (b.nodup_iff.mpr (qSU a)),λx d=>h x (mem_dedI.mp (b.mem_iff.mp d))⟩
noncomputable def qBM (lo hi:Int):List Int:=(E6 (hi-lo).toNat).map λ(i:Nat)=>lo+i
theorem qOP (lo hi:Int):qHL lo hi=(qBM lo hi).map V.int:=by
 unfold qHL qBM;rw[k9]
 rfl
theorem mem_rangeI {lo hi x:Int} :x∈qBM lo hi↔lo<=x/\x<hi:=by
 unfold qBM;rw[D4]
 constructor
 ·rintro⟨i,a,e⟩;have:=D6.mp a
  lia
 ·intro h;exact⟨(x-lo).toNat,D6.mpr (by lia),by lia⟩
theorem qDW (lo hi:Int):(qBM lo hi).length=(hi-lo).toNat:=by unfold qBM;simp
theorem qEP (lo hi:Int):(qBM lo hi).Pairwise (·<·):=by
 unfold qBM;exact J4.mpr (T1.imp λ{a b} h=>by lia)
theorem qOQ {lo hi:Int} (h:0<=lo):Rise hi (qBM lo hi):=⟨qEP _ _,λx a=>by have:=mem_rangeI.mp a;lia⟩
theorem qNY {α:Type} (xs:List α)(k:Nat)(h:k<=xs.length):cutI xs (some (k:Int)) none=xs.drop k:=by
 unfold cutI;rw[HT.sIx_nat,HT.sIx_none,u7 h];exact C6 (by rw[G0];exact A6 _)
theorem qb2 {α:Type} (xs:List α)(k:Nat):cutI xs none (some (k:Int))=xs.take k:=by
 unfold cutI;rw[HT.sIx_nat,HT.sIx_none,W6,l9];rcases B18 k xs.length with h|h
 ·rw[u7 h]
 ·rw[A40 h,C6 h,C6 (A6 _)]
abbrev NetL (H:Hp):List Addr->Aa0->Prop:=Paired λr zs=>H r=some (.tup (zs.map V.int))
theorem NetL.keep {d c:Addr} {H H':Hp} {b:List Addr} {Ae:Aa0} (h:NetL H b Ae)(a:∀r zs,H r=some (.tup zs)->r≠d/\r≠c)(k:Keep d c H H'):NetL H' b Ae:=by
 induction h with
 |nil=>exact .nil
 |cons r t ih=>exact .cons (k _ _ r (a _ _ r).1 (a _ _ r).2) ih
theorem NetL.same {H H':Hp} {a:List Addr} {Ae:Aa0} (h:NetL H a Ae)(k:∀r zs,H r=some (.tup zs)->H' r=some (.tup zs)):NetL H' a Ae:=by
 induction h with
 |nil=>exact .nil
 |cons r t ih=>exact .cons (k _ _ r) ih
theorem NetL.get {H:Hp} :∀{rs:List Addr} {Ae:Aa0} {i:Nat} {zs:List Int},NetL H rs Ae->Ae[i]?=some zs->∃r,rs[i]?=some r/\H r=some (.tup (zs.map V.int))
 |_,_,_,_,.nil,e=>by simp at e
 |_,_,0,_,.cons r _,e=>by simp at e;subst e;exact⟨_,rfl,r⟩
 |_,_,i+1,zs,.cons _ t,e=>by
  obtain⟨r,h1,h2⟩:=NetL.get (i:=i) (zs:=zs) t (by simpa using e)
  exact⟨r,by simpa using h1,h2⟩
def NetAt (H:Hp)(a:Addr)(Ae:Aa0):Prop:=∃rs:List Addr,H a=some (.tup (rs.map V.ref))/\NetL H rs Ae
theorem StAt.tup {H:Hp} {d c:Addr} {t:Int} {ns:List Int} (S:StAt H d c t ns){r:Addr}{zs:List V}(h:H r=some (.tup zs)):r≠d/\r≠c:=
 ⟨qCA h S.dict (by intro z;cases z),qCA h S.list (by intro z;cases z)⟩
theorem NetAt.keep {H H':Hp} {d c:Addr} {t:Int} {ns:List Int} (S:StAt H d c t ns){a:Addr}{Ae:Aa0}(h:NetAt H a Ae)(k:Keep d c H H'):NetAt H' a Ae:=by
 obtain⟨g,b,f⟩:=h;exact⟨g,k _ _ b (S.tup b).1 (S.tup b).2,f.keep (λr i e=>S.tup e) k⟩
theorem NetAt.same {H H':Hp} {a:Addr} {Ae:Aa0} (h:NetAt H a Ae)(k:Same H H'):NetAt H' a Ae:=by
 obtain⟨d,b,c⟩:=h;exact⟨d,k _ _ b,c.same λr f e=>k _ _ e⟩
theorem NetAt.len {H:Hp} {a:List Addr} {Ae:Aa0} (h:NetL H a Ae):a.length=Ae.length:=C2 h
def WFn (Ae:Aa0):Prop:=∀(i:Nat) zs,Ae[i]?=some zs->Rise (i:Int) zs
theorem WFn.snoc {Ae:Aa0} {zs:List Int} (h:WFn Ae)(a:Rise (Ae.length:Int) zs):WFn (Ae++[zs]):=by
 intro i b e;rcases j9 i Ae.length with l|l|l
 ·rw[J2 l] at e;exact h i b e
 ·subst l;simp at e;subst e;exact a
 ·rw[O9 (by rw[A8,C1];lia)] at e
  cases e
theorem WFn.nil:WFn []:=λi a e=>by simp at e
theorem qCC {α β:Type} {F:α->β->Prop} {a:α} {b:β} {l₁:List α} {l₂:List β} (h:Paired F l₁ l₂)(r:F a b):Paired F (l₁++[a]) (l₂++[b]):=R9 h r
def qOJ:Sp:=λvs H Q _=>∃d c t ns k,vs=[.ref d,.int k]/\StAt H d c t ns/\t<=TB-20/\0<=k/\k<=1000/\
 ∀r zs t' ns' H',StAt H' d c t' ns'->t<=t'->t'<=t+9->Keep d c H H'->H' r=some (.tup (zs.map V.int))->Rise k zs->Q (.ref r) H'
def qbP:Sp:=λvs H Q _=>∃d c t ns m,vs=[.ref d,.int m]/\StAt H d c t ns/\t<=TB-10000/\1<=m/\m<=400/\
 ∀a Ae t' ns' H',StAt H' d c t' ns'->t<=t'->t'<=t+10*m+10->Keep d c H H'->NetAt H' a Ae->WFn Ae->(Ae.length:Int)=m->Q (.ref a) H'
def qYS:Sp:=λvs H Q _=>∃d c t ns m,vs=[.ref d,.int m]/\StAt H d c t ns/\t<=TB-1000/\1<=m/\m<=400/\
 ∀a Ae t' ns' H',StAt H' d c t' ns'->t<=t'->t'<=t+m->Keep d c H H'->NetAt H' a Ae->WFn Ae->(Ae.length:Int)=m->Q (.ref a) H'
theorem qe0 {a b k:Int} (c:0<=k)(d:k<4):∃v,atI [V.int a,V.int b] (k/3)=some (.int v)/\(v=a\/v=b):=by
 rcases(by lia:k=0\/k=1\/k=2\/k=3) with rfl|rfl|rfl|rfl
 ·exact⟨a,rfl,.inl rfl⟩
 ·exact⟨a,rfl,.inl rfl⟩
 ·exact⟨a,rfl,.inl rfl⟩
 ·exact⟨b,rfl,.inr rfl⟩
theorem qdZ {k:Int} (a:0<=k)(b:k<6):∃v,atI [V.int 0,V.int 0,V.int 1,V.int 2,V.int 2,V.int 3] k=some (.int v)/\0<=v/\v<=3:=by
 rcases(by lia:k=0\/k=1\/k=2\/k=3\/k=4\/k=5) with rfl|rfl|rfl|rfl|rfl|rfl
 all_goals exact⟨_,rfl,by decide,by decide⟩
theorem qAA {H Hc:Hp} {p:Addr} {o:HO} (h:Same H Hc)(a:H p=none):Same H (Ag Hc p o):=λb u e=>by rw[qA8 (qA6 e a)];exact h b u e
theorem qR9 {d c:Addr} {H Hc:Hp} {p:Addr} {o:HO} (h:Keep d c H Hc)(g:H p=none):Keep d c H (Ag Hc p o):=λb u e a f=>by rw[qA8 (qA6 e g)];exact h b u e a f
theorem qD4 {H:Hp} {p:Addr} {xs:List V} {o:HO} {a:List Addr} {Ae:Aa0} (h:NetL H a Ae)(b:H p=some (.lst xs)):NetL (Ag H p o) a Ae:=
 h.same λr c e=>by rw[qA8 (qCA e b (by intro z;cases z))];exact e
theorem qB2 (a:List Addr)(r:Addr):a.map V.ref++[V.ref r]=(a++[r]).map V.ref:=by rw[B3];rfl
theorem qbW (b:Bool)(x:Int):(D8 (if b=true then(1:Int) else 0).toNat [V.int x]).flatten=(if b=true then[x] else[]).map V.int:=by cases b<;>rfl
theorem qAU {α β:Type} {F:α->β->Prop} :∀{l₁:List α} {l₂:List β} {i:Nat} {a:α},Paired F l₁ l₂->l₁[i]?=some a->∃b,l₂[i]?=some b/\F a b
 |_,_,_,_,.nil,e=>by simp at e
 |_,_,0,_,.cons r _,e=>by simp at e;subst e;exact⟨_,rfl,r⟩
 |_,_,i+1,a,.cons _ t,e=>by
  obtain⟨b,h1,h2⟩:=qAU (i:=i) (a:=a) t (by simpa using e)
  exact⟨b,by simpa using h1,h2⟩
theorem qKL {α β:Type} {F G:α->β->Prop} {l₁:List α} {l₂:List β} (h:Paired F l₁ l₂)(k:∀a b,F a b->G a b):Paired G l₁ l₂:=by
 induction h with
 |nil=>exact .nil
 |cons r t ih=>exact .cons (k _ _ r) ih
theorem qCI {a:List Addr} {i:Nat} {x:V} (h:(a.map V.ref)[i]?=some x):∃r,a[i]?=some r/\x=.ref r:=by
 rw[B6] at h;cases e:a[i]? with
 |none=>rw[e] at h;cases h
 |some r=>rw[e] at h;exact⟨r,rfl,(D7 h).symm⟩
theorem qB1 {zs:List Int} {i:Nat} {x:V} (h:(zs.map V.int)[i]?=some x):∃z,zs[i]?=some z/\x=.int z:=by
 rw[B6] at h;cases e:zs[i]? with
 |none=>rw[e] at h;cases h
 |some r=>rw[e] at h;exact⟨r,rfl,(D7 h).symm⟩
theorem qQC {α:Type} {l:List α} {a b:α} {j:Nat} (h:(l++[a])[j]?=some b):l[j]?=some b\/(j=l.length/\b=a):=by
 rcases j9 j l.length with z|z|z
 ·rw[J2 z] at h;exact .inl h
 ·subst z;simp at h;exact .inr ⟨rfl,h.symm⟩
 ·rw[O9 (by rw[A8,C1];lia)] at h
  cases h
theorem qDT (a:Int)(zs:List Int):inV (.int a) (zs.map V.int)=decide (a∈zs):=by
 unfold inV
 induction zs with
 |nil=>simp
 |cons z r ih=>
  rw[C7,V8,ih];have e:eqV (.int z) (.int a)=decide (a=z):=by
   by_cases h:z=a
   ·subst h;simp[eqV]
   ·have b:¬a=z:=λq=>h q.symm;simp[eqV,h,b]
  rw[e];simp[B7]
theorem qC0 (zs:List Int):(zs.map V.int).all qM0=true:=by
 rw[K0];intro x a;obtain⟨z,_,rfl⟩:=D4.mp a
 rfl
noncomputable def qCY (ns st:List Int) (Aa wk:Int):V:=if wk∈st then .str "there" else if∀x∈ns,x∈st then(if Aa<=(st.length:Int) then .str "full" else .non) else .str "needs"
noncomputable def qCO (st:List Int) (wk:Int):V:=if wk∈st then .non else .str "empty"
def qMY:Sp:=λvs H Q _=>∃(a s:Addr) (Ae:Aa0) (st ns:List Int) (Aa wk:Int),vs=[.ref a,.int Aa,.ref s,.int wk]/\NetAt H a Ae/\H s=some (.tup (st.map V.int))/\st.length<=1000/\0<=wk/\Ae[wk.toNat]?=some ns/\
 ∀H',Same H H'->Q (qCY ns st Aa wk) H'
noncomputable def qCB (ns st:List Int) (Aa:Int) (Ac:Str) (wk:Int):V:=if Ac = "do" then qCY ns st Aa wk else qCO st wk
def qIM:Sp:=λvs H Q _=>∃(a s mv:Addr) (Ae:Aa0) (st ns:List Int) (Aa wk:Int) (Ac:Str),vs=[.ref a,.int Aa,.ref s,.ref mv]/\NetAt H a Ae/\H s=some (.tup (st.map V.int))/\st.length<=1000/\H mv=some (.tup [.str Ac,.int wk])/\(Ac = "do"\/Ac = "clear")/\0<=wk/\Ae[wk.toNat]?=some ns/\ns.length<=1000/\
 ∀H',Same H H'->Q (qCB ns st Aa Ac wk) H'
theorem qOD (ns st:List Int)(Aa:Int)(Ac:Str)(a:Int):qCB ns st Aa Ac a=.non\/∃y,qCB ns st Aa Ac a=.str y:=by
 unfold qCB qCY qCO
 split
 ·split
  ·exact .inr ⟨_,rfl⟩
  ·split
   ·split
    ·exact .inr ⟨_,rfl⟩
    ·exact .inl rfl
   ·exact .inr ⟨_,rfl⟩
 ·split
  ·exact .inl rfl
  ·exact .inr ⟨_,rfl⟩
theorem qAK:¬(D0 "clear" = D0 "do"):=by decide +kernel
theorem qDZ {xs:List V} {i:Int} {x:V} (a:0<=i)(h:xs[i.toNat]?=some x):atI xs i=some x:=by
 have e:i=((i.toNat:Nat):Int):=by lia
 rw[e];exact qWG (by simpa using h)
theorem NetAt.get {H:Hp} {a:Addr} {Ae:Aa0} {ns:List Int} {i:Nat} (h:NetAt H a Ae)(e:Ae[i]?=some ns):∃(rs:List Addr) (r:Addr),H a=some (.tup (rs.map V.ref))/\rs.length=Ae.length/\(rs.map V.ref)[i]?=some (.ref r)/\H r=some (.tup (ns.map V.int)):=by
 obtain⟨rs,c,b⟩:=h;obtain⟨r,f,d⟩:=b.get e;exact⟨rs,r,c,C2 b,by rw[B6,f];rfl,d⟩
def qdI (t:TS):TS:=λD σ H=>∃Pm:St->Hp->Prop,t {D with nx:=Pm} σ H/\∀σ' H',Pm σ' H'->D.nx σ' H'
theorem qa6 {X:Cx} {st:Stmt} {t:TS} (h:PS X st t):PS X st (qdI t):=by
 intro e s σ H D I g;obtain⟨j,c,b⟩:=g;refine thn (h e s σ H _ I c) λf i q=>?_;cases f with
 |next=>obtain⟨σ',d,a,q⟩:=q;exact⟨σ',d,a,b _ _ q⟩
 |brk=>exact q
 |cont=>exact q
 |ret u=>exact q
theorem qL9 {ns st:List Int} {i:Nat} {z:Int} (a:ns[i]?=some z):((ns.take i).map λx=>decide (x∈st)).map V.bl++[V.bl (decide (z∈st))]=((ns.take (i+1)).map λx=>decide (x∈st)).map V.bl:=by
 rw[C9,a,D2,B3,B3]
 rfl
theorem all_in {ns st:List Int} :(((ns.map λx=>decide (x∈st)).all id)=true)↔∀x∈ns,x∈st:=by
 rw[K0]
 constructor
 ·intro h x a;have:=h _ (D4.mpr ⟨x,a,rfl⟩);exact of_decide_eq_true this
 ·intro h b c;obtain⟨x,a,rfl⟩:=D4.mp c;exact decide_eq_true (h x a)
theorem qcZ:B82 "zip" = some (.type "zip"):=by decide +kernel
def seqO (b:Bool)(xs:List V):HO:=match b with|true=>.tup xs|false=>.lst xs
noncomputable def tyOf (b:Bool):Value:=match b with|true=>.type "tuple" |false=>.type "list"
section
variable{K:Ab1}
theorem qZA (b:Bool):R4 K (tyOf b) (.type "tuple")=some b:=by cases b<;>rfl
theorem qcH:R4 K (.type "int") (.type "list")=some false:=by rfl
theorem qcF:R4 K (.type "int") (.type "tuple")=some false:=by rfl
theorem qcG:R4 K (.type "int") (.type "str")=some false:=by rfl
theorem qUV:R4 K (.type "int") (.type "int")=some true:=by rfl
theorem qUW:R4 K (.type "int") (.type "bool")=some false:=by rfl
end
theorem qWD {i:Nat} :((D8 i true).map V.bl)++[V.bl true]=(D8 (i+1) true).map V.bl:=by
 rw[A68,B3];rfl
theorem qWJ {n:Nat} :(D8 n true).all id=true:=by simp
theorem qCJ {α:Type} {p:α->Bool} {l:List α} {i:Nat} {x:α} (h:l[i]?=some x):(l.take (i+1)).filter p=(l.take i).filter p++(if p x then[x] else[]):=by
 rw[C9,h,D2,c9];by_cases a:p x=true
 ·simp[a]
 ·simp[a]
end Fw
namespace L2
open PySem PySem.Spec PyProof.Rows
def SqO (b:Bool)(K:Ab1)(H:Hp)(a:Addr)(xs:List V):Prop:=match b with|true=>SqT K H a xs|false=>SqL K H a xs
def ItO (b:Bool)(K:Ab1)(a:Addr):It:=match b with|true=>Itt K a|false=>Itl K a
def iSeq (K:Ab1)(tl:TE):TI:=λσ H R=>tl σ H λx H1=>∃(b:Bool) (a:Addr),x=.ref a/\(∃xs,SqO b K H1 a xs)/\R (ItO b K a) H1
section
variable{X:Cx}{tg:Expr}
theorem qZ2 {l:Expr} {g:TE} (j:PE X l g):PI X tg l (iSeq X.K g):=by
 intro k s σ H R I h;refine thn (j k s σ H _ I h) λv s1 ⟨x,H1,I1,r1,q1⟩=>?_;obtain⟨b,a,e,⟨n,f⟩,q⟩:=q1;subst e;cases r1;cases b with
 |false=>
  obtain⟨c,m,p,i⟩:=I1.list f;refine C01 p.isList ?_;refine⟨s1.heap.objs.size,[s1.heap.objs.size],_,_,H1,rfl,I1.kept (t':=s1.toks) λb o e=>A3 _ e,qMQ a _,⟨_,A9 _ rfl,rfl,rfl⟩,λb d=>?_,q⟩;cases A7.mp d;exact I1.fpOk (A6 _) (I1.hok.fresh (A6 _))
 |true=>
  obtain⟨c,m,p,i⟩:=I1.tuple f;refine C38 (show s1.heap.IsTuple a c.toArray from p) ?_;refine⟨s1.heap.objs.size,[s1.heap.objs.size],_,_,H1,rfl,I1.kept (t':=s1.toks) λb o e=>A3 _ e,qKD a _,⟨_,A9 _ rfl,rfl,rfl⟩,λb d=>?_,q⟩;cases A7.mp d;exact I1.fpOk (A6 _) (I1.hok.fresh (A6 _))
end
theorem qZ7 {b:Bool} {K:Ab1} {a:Addr} {xs:List V} {g:TG} {h:TT} {e:TE} {Kf:Hp->Prop} {σ0:St} {H0:Hp} {p:Addr} (Pv:Nat->St->Hp->Prop)(c:Pv 0 σ0 H0)(d:∀i σ H,i<=xs.length->Pv i σ H->SqO b K H a xs)
  (j:∀i x σ H,xs[i]?=some x->Pv i σ H->g x σ H λσ2 H2=>h σ2 H2 λb H3=>if b=true then e σ2 H3 λy H4=>∃ys,H4 p=some (.lst ys)/\ys.length<B77/\Pv (i+1) σ2 (Ag H4 p (.lst (ys++[y]))) else Pv (i+1) σ2 H3)
  (f:∀σ H,Pv xs.length σ H->Kf H):
  LcG (ItO b K a) g h e Kf σ0 H0 p:=by
 cases b with
 |true=>exact qDL Pv c d j f
 |false=>exact qEW Pv c d j f
def IeO (b:Bool)(K:Ab1)(a:Addr):It:=match b with|true=>IteT K a|false=>Ite K a
def qcO (K:Ab1)(ta:TA):TI:=λσ H R=>ta σ H λvs H1=>∃(b:Bool) (l:Addr),vs=[.ref l]/\(∃xs,SqO b K H1 l xs)/\R (IeO b K l) H1
section
variable{X:Cx}
theorem qXH {g:List Expr} {k:Nat} {d:Pos} {a:Expr} {z:TA} {p pos:Pos} (hg:Gl X "enumerate") (hm:X.mg "enumerate" = none) (hv:B82 "enumerate" = some (.type "enumerate")) (ha:PA X [a] z) (hs:B84 [a] X.env=[(false,eval a X.env)]:=by rfl):
  PI X (.Tuple g k d) (.Call (.Name "enumerate" p) [a] [] pos) (qcO X.K z):=by
 intro y s σ H R I h;refine Call_ (qFR I hg hm hv (J3 (thn (ha pos y s σ H _ I h) λus s1 ⟨vs,H1,I1,r1,q1⟩=>?_) hs rfl));obtain⟨b,l,e,⟨xs,hq⟩,q⟩:=q1;subst e;obtain⟨u,rfl,rx⟩:=qDQ r1;cases rx;cases b with
 |false=>
  obtain⟨v,rv,i,hz⟩:=I1.list hq;refine call_enumerate_list i.isList λr f m n t=>?_;refine C20 f ?_;have w:Inv X y σ H1 {s1 with heap:=r}:=I1.kept (t':=s1.toks) t;refine⟨s1.heap.objs.size+1,[s1.heap.objs.size+1,s1.heap.objs.size],_,_,H1,rfl,w,qMR l s1.heap.objs.size (s1.heap.objs.size+1) (Z6 _),⟨⟨_,f⟩,m⟩,λb j=>?_,q⟩;have x:b=s1.heap.objs.size+1\/b=s1.heap.objs.size:=by simpa using j
  rcases x with rfl|rfl
  ·exact I1.fpOk (S0 _) (I1.hok.fresh (S0 _))
  ·exact I1.fpOk (A6 _) (I1.hok.fresh (A6 _))
 |true=>
  obtain⟨v,rv,i,hz⟩:=I1.tuple hq;have c:l<s1.heap.objs.size:=by obtain⟨o,e,_⟩:=i;exact B1 e
  refine qL1 i λr f m n t=>?_;refine C20 f ?_;have w:Inv X y σ H1 {s1 with heap:=r}:=I1.kept (t':=s1.toks) t;refine⟨s1.heap.objs.size+1,[s1.heap.objs.size+1,s1.heap.objs.size],_,_,H1,rfl,w,qKE l s1.heap.objs.size (s1.heap.objs.size+1) (Z6 _) (C4 c) (C4 (O8 c)),⟨⟨_,f⟩,m⟩,λb j=>?_,q⟩;have x:b=s1.heap.objs.size+1\/b=s1.heap.objs.size:=by simpa using j
  rcases x with rfl|rfl
  ·exact I1.fpOk (S0 _) (I1.hok.fresh (S0 _))
  ·exact I1.fpOk (A6 _) (I1.hok.fresh (A6 _))
end
theorem qXU {b:Bool} {K:Ab1} {a:Addr} {xs:List V} {g:TG} {h:TT} {e:TE} {Kf:Hp->Prop} {σ0:St} {H0:Hp} {p:Addr} (Pv:Nat->St->Hp->Prop)(c:Pv 0 σ0 H0)(d:∀i σ H,i<=xs.length->Pv i σ H->SqO b K H a xs)
  (j:∀i x σ H T,xs[i]?=some x->Pv i σ H->H T=none->g (.ref T) σ (Ag H T (.tup [.int (i:Int),x])) λσ2 H2=>h σ2 H2 λb H3=>if b=true then e σ2 H3 λy H4=>∃ys,H4 p=some (.lst ys)/\ys.length<B77/\Pv (i+1) σ2 (Ag H4 p (.lst (ys++[y]))) else Pv (i+1) σ2 H3)
  (f:∀σ H,Pv xs.length σ H->Kf H):
  LcG (IeO b K a) g h e Kf σ0 H0 p:=by
 cases b with
 |true=>exact qR7 Pv c d j f
 |false=>exact qPB Pv c d j f
theorem qSN {a:Addr} {o:Obj} {Af:List (List Key×V)} {g:TG} {c:TS} {D:Ends} {σ:St} {H:Hp} (Pv:Nat->St->Hp->Prop)(d:Pv 0 σ H)(f:∀i σ H,i<=Af.length->Pv i σ H->H a=some (.frz o (.dT Af)))
  (u:∀i k v r σ H,Af[i]?=some (k,v)->H r=some (.tup (k.map kV))->Pv i σ H->g (.ref r) σ H λσ2 H2=>c {D with nx:=Pv (i+1),ct:=Pv (i+1),bk:=D.nx} σ2 H2) (s:∀σ H,Pv Af.length σ H->D.nx σ H):
  ForG (ItT a o Af) g c D σ H:=by
 refine⟨λi m σ H=>m=Af.length-i/\i<=Af.length/\Pv i σ H,⟨Af.length,by simp,E7 _,d⟩,?_⟩
 rintro i m σ H ⟨rfl,hi,p⟩;have q:=f i σ H hi p;by_cases b:i<Af.length
 ·refine .inr ⟨⟨b,q⟩,Pv (i+1),λσ' j l=>⟨Af.length-(i+1),by lia,rfl,b,l⟩,λx j y=>?_⟩
  obtain⟨e,k,v,r,h,n,t⟩:=y;subst e n;exact u i k v r σ _ h t p
 ·have e:i=Af.length:=by lia
  subst e;exact .inl ⟨⟨A6 _,q⟩,s σ H p⟩
def TyR (K:Ab1) (H:Hp) (x:V) (t:Value):Prop:=TyOf K H x t\/∃a xs,x=.ref a/\Rd H a (.tup xs)/\t=.type "tuple"
section
variable{X:Cx}
theorem qF6:qCF X (.builtin "isinstance") (λxs H Q=>∃x T t b,xs=[x,.ty T]/\TyR X.K H x t/\R4 X.K t (.type T)=some b/\Q (.bl b) H):=by
 intro e s σ H xs f Q I r h;obtain⟨x,T,t,b,rfl,c,d,q⟩:=h;rcases c with c|⟨a,ys,rfl,c,rfl⟩
 ·exact qAX e s σ H _ f Q I r ⟨x,T,t,b,rfl,c,d,q⟩
 ·rcases c with c|⟨ob,c⟩
  ·exact qAX e s σ H _ f Q I r ⟨_,T,_,b,rfl,TyOf.tup c,d,q⟩
  ·obtain⟨u,v,rfl,j,k⟩:=qK2 r;cases k;cases(show u=C8 a from j);obtain⟨_,_,_,_,p⟩:=(show ObjOk X.prog X.w H s.heap a (.frz ob (.tup ys)) from I.hok a _ c);obtain⟨o,i,g,_⟩:=p;exact L4 A90 I.kIn ⟨o,i,g⟩ d (λz=>nomatch z) λl=>⟨.bl b,H,I.tok _,rfl,q⟩
end
def qdT:V->Option Int->Option Int->Hp->VK->Prop:=λx lo hi H Q=>∃a xs,x=.ref a/\Rd H a (.tup xs)/\∀p H',(∀b o,H b=some o->H' b=some o)->Rd H' p (.tup (cutV xs lo hi))->Q (.ref p) H'
section
variable{X:Cx}
theorem qZX:SlR X qdT:=by
 intro z s σ H x v vl w k j sl Q I o t m l h;obtain⟨a,c,rfl,i,q⟩:=h;by_cases f:HT.sIx c.length 0 k=0/\HT.sIx c.length c.length j=c.length
 ·cases o;obtain⟨g,r,n,hz⟩:=I.tuple (.inl i);have d:g.toArray.size=c.length:=by rw[B8];exact r.length.symm
  refine⟨"tuple",_,G5.lookup,n.typeIs,?_⟩;refine HT.getItem_tuple_whole n t m l (by rw[d];exact f) ⟨.ref a,H,I,rfl,q a H (λ_ _ e=>e) ?_⟩
  have:cutV c k j=c:=by
   unfold cutV;rw[f.1,f.2,W6,l9,P6]
  rw[this];exact i
 ·exact qQD z s σ H (.ref a) v vl w k j sl Q I o t m l ⟨a,c,rfl,.inl i,f,λp y=>q p _ (λb u e=>by rw[qA8 (qA6 e y)];exact e) (.inl qA1)⟩
end
end L2
namespace Fw
open PySem L2
end Fw
namespace L2
open PySem PySem.Spec PyProof.Rows Fw
section
variable{X:Cx}{Ab:List (Addr×Obj)}{σ:St}{H:Hp}{s:Shared}
end
open PySem PySem.Spec PyProof.Rows
section
variable{X:Cx}
end
end L2
namespace HT
open PySem PySem.Spec PyProof.Rows
section
variable{prog:B79}{w:World}{A:Around}{E:Aa1}{s:Shared}
end
end HT
namespace L2
open PySem PySem.Spec PyProof.Rows Fw
section
variable{X:Cx}{e:Expr}{te:TE}{st:Option Expr}{tst:TO}{pos p2:Pos}
def qdS:V->Option Int->Option Int->Hp->VK->Prop:=λx lo hi H Q=>∃a xs,x=.ref a/\H a=some (.tup xs)/\∀p H',Same H H'->H' p=some (.tup (cutV xs lo hi))->Q (.ref p) H'
theorem qZW:SlR X qdS:=by
 intro z s σ H x v vl w k j sl Q I o t m l h;obtain⟨a,c,rfl,i,q⟩:=h;by_cases f:HT.sIx c.length 0 k=0/\HT.sIx c.length c.length j=c.length
 ·cases o;obtain⟨g,r,n,hz⟩:=I.tuple (Ac0 i);have d:g.toArray.size=c.length:=by rw[B8];exact r.length.symm
  refine⟨"tuple",_,G5.lookup,n.typeIs,?_⟩;refine HT.getItem_tuple_whole n t m l (by rw[d];exact f) ⟨.ref a,H,I,rfl,q a H (λ_ _ e=>e) ?_⟩
  have:cutV c k j=c:=by
   unfold cutV;rw[f.1,f.2,W6,l9,P6]
  rw[this];exact i
 ·exact qQD z s σ H (.ref a) v vl w k j sl Q I o t m l ⟨a,c,rfl,Ac0 i,f,λp y=>q p _ (λb u e=>by rw[qA8 (qA6 e y)];exact e) qA1⟩
end
open PySem PySem.Spec PyProof.Rows
section
variable{X:Cx}
theorem qZQ {Ab:List (Addr×Obj)} {σ:St} {H:Hp} (I:Inv X Ab σ H s)(hu:A.units<cLine){a b:Addr}{zs ys:List Int}(z:H a=some (.tup (zs.map V.int)))(d:H b=some (.tup (ys.map V.int))):SeqAt.EqAt A s (.ref a) (.ref b) (decide (zs=ys)):=by
 have g:∀{u v:List Int},u.map V.int=v.map V.int->u=v:=by
  intro u
  induction u with
  |nil=>intro v h;cases v with|nil=>rfl|cons _ _=>cases h
  |cons x u ih=>
   intro v h;cases v with
   |nil=>cases h
   |cons y v=>
    rw[C7,C7] at h
    injection h with h1 h2
    injection h1 with h1
    rw[h1,ih h2]
 by_cases e:a=b
 ·subst e;rw[z] at d
  injection d with d
  injection d with d
  rw[decide_eq_true (g d)];exact B36 _
 ·obtain ⟨m,r,p1,z1⟩:=I.tuple (Ac0 z);obtain ⟨l,o,p2,z2⟩:=I.tuple (Ac0 d);have q:=r.length;have l2:=o.length;rw [A0] at q l2;refine SeqAt.EqAt.of_refs e ?_;have f:=SeqAt.RcAt.tuples (A:=A) (s:=s) (e:=fun j=>decide (zs[j]?=ys[j]?)) p1 p2 hu (fun j h1 h2=>by
   rw[B8] at h1 h2;have p:j<zs.length:=by lia
   have n:j<ys.length:=by lia
   obtain⟨a,ea,ra⟩:=r.get (i:=j) (x:=.int zs[j]) (by rw[B6,A4 p];rfl)
   obtain⟨b,k,rb⟩:=o.get (i:=j) (x:=.int ys[j]) (by rw[B6,A4 n];rfl)
   obtain⟨t,rfl⟩:=ra;obtain⟨w,rfl⟩:=rb;have e1:m.toArray[j]=.int zs[j] t:=by
    rw[A69];exact D7 ((A4 h1).symm.trans ea)
   have e2:l.toArray[j]=.int ys[j] w:=by
    rw[A69];exact D7 ((A4 h2).symm.trans k)
   rw[e1,e2];have:=y8 (A:=A.in1) (s:=s) zs[j] t ys[j] w;rw[show(zs[j]==ys[j])=decide (zs[j]?=ys[j]?) by rw[A4 p,A4 n];by_cases c:zs[j]=ys[j]<;>simp[c]] at this
   exact this)
  have k:((E6 (min m.toArray.size l.toArray.size)).all (λj=>decide (zs[j]?=ys[j]?))&&m.toArray.size==l.toArray.size)=decide (zs=ys):=by
   rw[B8,B8,<- q,<- l2,O1,J9,K0,beq_iff_eq,decide_eq_true_eq]
   constructor
   ·rintro⟨h1,h2⟩;refine B10 λi=>?_;by_cases hi:i<zs.length
    ·exact of_decide_eq_true (h1 i (D6.mpr (by lia)))
    ·rw[O9 (by lia),O9 (by lia)]
   ·rintro rfl;exact⟨λ_ _=>decide_eq_true rfl,rfl⟩
  rw[k] at f;exact f
theorem qa3 {b:List Addr} {c:List Value} (h:Vals (b.map V.ref) c):c=b.map C8:=by
 induction b generalizing c with
 |nil=>cases h;rfl
 |cons a b ih=>cases h with|cons h1 h2=>cases h1;rw[ih h2];rfl
theorem qLT (hu:X.A.units+64<cLine):OpR X (B95 .NotIn) (λx y H Q=>∃(p l:Addr) (zs:List Int) (rs:List Addr) (ts:Aa0),x=.ref p/\y=.ref l/\H p=some (.tup (zs.map V.int))/\SqL X.K H l (rs.map V.ref)/\Paired (λ(r:Addr) (t:List Int)=>H r=some (.tup (t.map V.int))) rs ts/\Q (.bl (decide (zs∉ts))) H):=by
 intro Ab s σ H x y v u Q I rx ry h;obtain⟨p,l,zs,rs,ts,rfl,rfl,h1,f,T,q⟩:=h;cases rx;cases ry;obtain⟨n,r,i,m⟩:=I.list f;have ei:=qa3 r;subst ei;have a:∀{rs:List Addr} {ts:Aa0},Paired (λ(r:Addr) (t:List Int)=>H r=some (.tup (t.map V.int))) rs ts->∀r∈rs,∃t:List Int,H r=some (.tup (t.map V.int)):=by
  intro rs ts h
  induction h with
  |nil=>exactλr b=>nomatch b
  |cons g _ ih=>exactλr b=>(B7.mp b).elim (λe=>⟨_,e▸g⟩) (ih r)
 refine A92 (λw=>decide (L2.G.keyH H w=zs)) i.isList (λw hw=>?_) ⟨.bl _,H,I,rfl,?_⟩
 ·obtain⟨k,d,rfl⟩:=D4.mp (show w∈rs.map C8 by simpa using hw)
  obtain⟨t,j⟩:=a T k d;rw[L2.G.keyH_at j];exact qZQ I (by show X.A.units+1<cLine;lia) j h1
 ·have e:(!(rs.map C8).toArray.any λw=>decide (L2.G.keyH H w=zs))=decide (zs∉ts):=by
   have o:((rs.map C8).any λw=>decide (L2.G.keyH H w=zs))=decide (zs∈ts):=by
    clear q r i m f
    induction T with
    |nil=>simp
    |@cons k t rs ts g _ ih=>
     rw[C7,V8,ih,L2.G.keyH_at g,O1,c5,decide_eq_true_eq,decide_eq_true_eq,decide_eq_true_eq,B7];exact⟨λh=>h.imp B73 id,λh=>h.imp B73 id⟩
   rw[List.any_toArray,o];by_cases c:zs∈ts
   ·rw[decide_eq_true c,decide_eq_false (λz=>z c)];rfl
   ·rw[decide_eq_false c,decide_eq_true c];rfl
  rw[e];exact q
end
end L2
namespace Fw
open PySem L2
abbrev MovL (H:Hp):List Addr->List (Str×Int)->Prop:=Paired λr m=>H r=some (.tup [.str m.1,.int m.2])
theorem MovL.same {H H':Hp} {b:List Addr} {a:List (Str×Int)} (h:MovL H b a)(k:Same H H'):MovL H' b a:=by
 induction h with
 |nil=>exact .nil
 |cons r t ih=>exact .cons (k _ _ r) ih
theorem MovL.put {H:Hp} {p:Addr} {xs:List V} {o:HO} {b:List Addr} {a:List (Str×Int)} (h:MovL H b a)(c:H p=some (.lst xs)):MovL (Ag H p o) b a:=by
 induction h with
 |nil=>exact .nil
 |cons r t ih=>exact .cons (by rw[qA8 (qCA r c (by intro z;cases z))];exact r) ih
theorem qS8 {α β:Type} {F:α->β->Prop} {a c:List α} {b d:List β} (h:Paired F a b)(k:Paired F c d):Paired F (a++c) (b++d):=by
 induction h with
 |nil=>exact k
 |cons r t ih=>exact .cons r ih
theorem MovL.snoc {H:Hp} {c:List Addr} {a:List (Str×Int)} {r:Addr} {b:Str} {x:Int} (h:MovL H c a)(e:H r=some (.tup [.str b,.int x])):MovL H (c++[r]) (a++[(b,x)]):=R9 h e
theorem MovL.app {H:Hp} {d a:List Addr} {c b:List (Str×Int)} (h:MovL H d c)(h':MovL H a b):MovL H (d++a) (c++b):=qS8 h h'
noncomputable def qHX (w:Str)(n:Nat):List (Str×Int):=(E6 n).map λ(i:Nat)=>(w,(i:Int))
theorem qKP (w:Str)(n:Nat):qHX w (n+1)=qHX w n++[(w,0+(n:Int))]:=by
 unfold qHX;rw[A57,B3,B19]
 rfl
theorem qEU (w:Str)(n:Nat):(qHX w n).length=n:=by unfold qHX;simp
noncomputable def wd (Ae:Aa0)(st:List Int)(Aa:Int)(m:Str×Int):V:=qCB ((Ae[m.2.toNat]?).getD []) st Aa m.1 m.2
noncomputable def qK9 (n:Nat):List (Str×Int):=qHX "do" n++qHX "clear" n
noncomputable def qDH (Ae:Aa0)(st:List Int)(Aa:Int):List (Str×Int):=(qK9 Ae.length).filter λm=>decide (wd Ae st Aa m=.non)
theorem qNT (n:Nat):(qK9 n).length=n+n:=by unfold qK9;rw[A8,qEU,qEU]
theorem qRJ {n:Nat} {m:Str×Int} (h:m∈qK9 n):(m.1 = "do"\/m.1 = "clear")/\0<=m.2/\m.2<(n:Int):=by
 unfold qK9 qHX at h;rcases B0.mp h with h|h
 ·obtain⟨i,a,rfl⟩:=D4.mp h;have:=D6.mp a;exact⟨.inl rfl,by simp;lia⟩
 ·obtain⟨i,a,rfl⟩:=D4.mp h;have:=D6.mp a;exact⟨.inr rfl,by simp;lia⟩
def qMX:Sp:=λvs H Q _=>∃(a s:Addr) (Ae:Aa0) (st:List Int) (Aa:Int),vs=[.ref a,.int Aa,.ref s]/\NetAt H a Ae/\WFn Ae/\Ae.length<=1000/\H s=some (.tup (st.map V.int))/\st.length<=1000/\
 ∀l rs H',Same H H'->H l=none->H' l=some (.lst (rs.map V.ref))->MovL H' rs (qDH Ae st Aa)->Q (.ref l) H'
theorem qFU {n:Int} {i:Nat} (h:(i:Int)<n):(qBM 0 n)[i]?=some (i:Int):=by
 unfold qBM;rw[B6,List.getElem?_range (by lia)]
 simp
theorem qBC {α:Type} {l:List α} {n:Nat} (h:l.length=n):l.take n=l:=C6 (by lia)
theorem qSO {p:Int->Bool} {n:Nat} :((qBM 0 (n:Int)).filter p).length<=n:=by
 have:=P0 p (qBM 0 (n:Int));rw[qDW] at this
 lia
theorem qC1 {p:Int->Bool} {l:List Int} {i:Nat} :((l.take i).filter p).length<=i:=by
 have:=P0 p (l.take i);rw[C5] at this
 lia
structure Cnt (n:Nat)(cs:List Int)(seen:List Int):Prop where
 len:cs.length=n
 at_:∀x:Nat,x<n->∃c,cs[x]?=some c/\0<=c/\(c=0↔(x:Int)∉seen)
theorem qB6 {n:Nat} (h:n<=1000000):n<B77:=by rw[B88];lia
inductive Nd (Ae:Aa0)(Ad:List Int):Int->Prop
 |ask {x:Int}:x∈Ad->Nd Ae Ad x
 |need {w y:Int} {zs:List Int}:Nd Ae Ad w->Ae[w.toNat]?=some zs->y∈zs->Nd Ae Ad y
structure KeysI (Af:List (Key×V))(ks:List Int):Prop where
 keys:Af.map (·.1)=ks.map E8
 nd:ks.Nodup
theorem KeysI.len {Af:List (Key×V)} {ks:List Int} (h:KeysI Af ks):Af.length=ks.length:=by
 have:=congrArg V6 h.keys;simpa using this
theorem KeysI.nil:KeysI [] []:=⟨rfl,.nil⟩
theorem qPZ (k:Key):∀Af:List (Key×V),(Af.any λkv=>decide (kv.1=k))=true↔k∈Af.map (·.1)
 |[]=>by simp
 |p::r=>by
  rw[V8,C7,c5,qPZ k r,B7,decide_eq_true_eq];exact or_congr_left ⟨B73,B73⟩
theorem KeysI.mem {Af:List (Key×V)} {ks:List Int} (h:KeysI Af ks)(x:Int):(E8 x:Key)∈Af.map (·.1)↔x∈ks:=by
 rw[h.keys,D4];exact⟨λ⟨y,a,e⟩=>f9 e▸a,λb=>⟨x,b,rfl⟩⟩
theorem KeysI.has {Af:List (Key×V)} {ks:List Int} (h:KeysI Af ks)(x:Int):(valV Af (E8 x)).isSome=decide (x∈ks):=by
 rw[<- qF7];have:=(qPZ (E8 x) Af).trans (h.mem x);by_cases e:x∈ks
 ·rw[decide_eq_true e];exact this.mpr e
 ·rw[decide_eq_false e];exact F7.mpr λz=>e (this.mp z)
theorem qR4 (k:Key)(v:V):∀Af:List (Key×V),(Af.map λkv=>if kv.1=k then(kv.1,v) else kv).map (·.1)=Af.map (·.1)
 |[]=>rfl
 |p::r=>by
  rw[C7,C7,C7,qR4 k v r];congr 1
  split<;>rfl
theorem KeysI.put {Af:List (Key×V)} {ks:List Int} (h:KeysI Af ks)(x:Int)(v:V):KeysI (putK Af (E8 x) v) (addI ks x):=by
 have a:=(qPZ (E8 x) Af).trans (h.mem x);unfold putK addI;by_cases e:x∈ks
 ·rw[if_pos (a.mpr e),if_pos e];exact⟨by rw[qR4];exact h.keys,h.nd⟩
 ·rw[if_neg λz=>e (a.mp z),if_neg e];refine⟨by rw[B3,B3,h.keys];rfl,qH5 h.nd e⟩
theorem qUK {ks:List Int} {n:Nat} (h:ks.Nodup)(b:∀x∈ks,0<=x/\x<(n:Int)):ks.length<=n:=by
 have a:ks ⊆ (E6 n).map λ(i:Nat)=>(i:Int):=λx c=>by
  have:=b x c;exact D4.mpr ⟨x.toNat,D6.mpr (by lia),by lia⟩
 have:=N9 h a;simpa using this
structure Fnd (Ae:Aa0)(Ad ks:List Int)(j:Int):Prop where
 in_:∀x∈ks,(0<=x/\x<(Ae.length:Int))/\Nd Ae Ad x
 ask:∀x∈Ad,x∈ks
 clo:∀(w:Nat) zs,j<=(w:Int)->(w:Int)∈ks->Ae[w]?=some zs->∀y∈zs,y∈ks
theorem Fnd.all {Ae:Aa0} {Ad ks:List Int} (c:WFn Ae)(h:Fnd Ae Ad ks 0)(x:Int):x∈ks↔Nd Ae Ad x:=by
 refine⟨λa=>(h.in_ x a).2,λa=>?_⟩
 induction a with
 |ask m=>exact h.ask _ m
 |@need w y zs _ e m ih=>
  have b:=(h.in_ w ih).1;exact h.clo w.toNat zs (by lia) (by rw[show((w.toNat:Nat):Int)=w by lia];exact ih) e y m
def qB5 (Ae:Aa0)(Ad zs:List Int):Prop:=Rise (Ae.length:Int) zs/\∀x,x∈zs↔Nd Ae Ad x
theorem qTA:∀{l m:List Int},l.Pairwise (·<·)->m.Pairwise (·<·)->(∀x,x∈l↔x∈m)->l=m
 |[],[],_,_,_=>rfl
 |[],y::m,_,_,h=>absurd ((h y).mpr (by simp)) (by simp)
 |x::l,[],_,_,h=>absurd ((h x).mp (by simp)) (by simp)
 |x::l,y::m,hl,hm,h=>by
  have l1:=Q4.mp hl;have m1:=Q4.mp hm;have exy:x=y:=by
   rcases B7.mp ((h x).mp (by simp)) with e|e
   ·exact e
   ·rcases B7.mp ((h y).mpr (by simp)) with e2|e2
    ·exact e2.symm
    ·have:=m1.1 x e;have:=l1.1 y e2
     lia
  subst exy;rw[qTA l1.2 m1.2 λz=>?_]
  constructor
  ·intro hz;rcases B7.mp ((h z).mp (by simp[hz])) with e|e
   ·have:=l1.1 z hz;lia
   ·exact e
  ·intro hz;rcases B7.mp ((h z).mpr (by simp[hz])) with e|e
   ·have:=m1.1 z hz;lia
   ·exact e
noncomputable def qCR (ws:List Int)(x:Int):Option Int:=if x∈ws then some (ws.idxOf x:Int) else none
theorem qGF {a:List Int} {x p:Int} (h:qCR a x=some p):0<=p/\a[p.toNat]?=some x:=by
 unfold qCR at h
 split at h
 ·rename_i m
  cases h;have b:=List.idxOf_lt_length_iff.mpr m;refine⟨by lia,?_⟩
  rw[D9,A4 b,List.getElem_idxOf]
 ·cases h
theorem qFE {a:List Int} (c:a.Nodup){x:Int}{i:Nat}(h:a[i]?=some x):qCR a x=some (i:Int):=by
 obtain⟨b,e⟩:=A5.mp h;unfold qCR;rw[if_pos (by rw[<- e];exact T4 b),<- e,c.idxOf_getElem]
theorem qKI {a:List Int} (f:a.Nodup){i:Nat}{y:Int}(h:a[i]?=some y)(x:Int):qCR (a.take (i+1)) x=if x=y then some (i:Int) else qCR (a.take i) x:=by
 obtain⟨g,e⟩:=A5.mp h;have d:a.take (i+1)=a.take i++[y]:=by rw[C9,h];rfl
 have c:(a.take (i+1)).Nodup:=f.sublist (Y1 _ _);by_cases b:x=y
 ·subst b;rw[if_pos rfl];exact qFE c (by rw[Z9 (by lia)];exact h)
 ·rw[if_neg b];unfold qCR;rw[d];by_cases m:x∈a.take i
  ·rw[if_pos (by simp[m]),if_pos m,List.idxOf_append,if_pos m]
  ·rw[if_neg (by simp[m,b]),if_neg m]
noncomputable def qBW (Ae:Aa0)(a:List Int):Aa0:=a.map λw=>((Ae[w.toNat]?).getD []).filterMap (qCR a)
theorem qBV (Ae:Aa0)(a:List Int):(qBW Ae a).length=a.length:=by simp[qBW]
theorem qIW {Ae:Aa0} {a:List Int} {i:Nat} {w:Int} (h:a[i]?=some w):(qBW Ae a)[i]?=some (((Ae[w.toNat]?).getD []).filterMap (qCR a)):=by
 unfold qBW;rw[B6,h]
 rfl
theorem qYP {c:List Int} (m:c.Pairwise (·<·)){i j:Nat}{x y:Int}(k:c[i]?=some x)(l:c[j]?=some y):i<j↔x<y:=by
 obtain⟨g,n⟩:=A5.mp k;obtain⟨f,o⟩:=A5.mp l;have d:∀a b (ha:a<c.length) (hb:b<c.length),a<b->c[a]<c[b]:=λa b ha hb e=>G3.mp m a b ha hb e
 constructor
 ·intro h;have:=d i j g f h
  lia
 ·intro h;rcases j9 i j with z|z|z
  ·exact z
  ·subst z
   lia
  ·have:=d j i f g z
   lia
theorem qT9 {d zs:List Int} (j:d.Pairwise (·<·))(g:zs.Pairwise (·<·)):(zs.filterMap (qCR d)).Pairwise (·<·):=by
 rw[c8];refine g.imp λ{a b} c p e q i=>?_;obtain⟨k,h⟩:=qGF e;obtain⟨l,f⟩:=qGF i;have:=(qYP j h f).mpr c
 lia
theorem qLW {c zs:List Int} (f:c.Nodup){p:Int}:p∈zs.filterMap (qCR c)↔0<=p/\∃x,c[p.toNat]?=some x/\x∈zs:=by
 rw[P2]
 constructor
 ·rintro⟨x,a,e⟩;obtain⟨d,b⟩:=qGF e;exact⟨d,x,b,a⟩
 ·rintro⟨d,x,b,a⟩;refine⟨x,a,?_⟩;have:=qFE f b;rw[this];congr 1
  lia
theorem qJ2 {Ae:Aa0} (a:WFn Ae)(w:Nat):Rise (w:Int) ((Ae[w]?).getD []):=by
 cases e:Ae[w]? with
 |none=>exact Rise.nil
 |some zs=>exact a w zs e
theorem qD7 {Ae:Aa0} {a:List Int} (j:WFn Ae)(r:Rise (Ae.length:Int) a):WFn (qBW Ae a):=by
 intro i k h;have b:i<a.length:=by rw[<- qBV Ae a];exact(A5.mp h).1
 have c:=A4 b;rw[qIW c] at h;cases h;have m:=(r.in_ a[i] (T4 b)).1;have d:=qJ2 j a[i].toNat;refine⟨qT9 r.up d.up,λp e=>?_⟩;obtain⟨l,x,g,f⟩:=(qLW r.nodup).mp e;have n:=d.in_ x f;have:=(qYP r.up g c).mpr (by lia)
 lia
def qbO:Sp:=λvs H Q _=>∃(r d:Addr) (zs:List Int) (Af:List (Key×V)) (num:Int->Option Int),vs=[.ref r,.ref d]/\H r=some (.tup (zs.map V.int))/\zs.length<=1000/\H d=some (.dK Af)/\(∀x,valV Af (E8 x)=(num x).map V.int)/\
 ∀r' H',Same H H'->H' r'=some (.tup ((zs.filterMap num).map V.int))->Q (.ref r') H'
abbrev Mv:=Str×Int
def nd (Ae:Aa0)(w:Int):List Int:=(Ae[w.toNat]?).getD []
noncomputable def qZ9 (Ae:Aa0):List Int->Int->Option Int
 |[],_=>none
 |w::r,y=>match qZ9 Ae r y with
  |some v=>some v
  |none=>if y∈nd Ae w then some w else none
def later (Ae:Aa0)(zs:List Int)(j:Nat)(x:Int):Prop:=∃v∈zs.drop j,x∈nd Ae v
instance (Ae:Aa0) (zs:List Int) (j:Nat) (x:Int):Decidable (later Ae zs j x):=by unfold later;infer_instance
noncomputable def clrs (Ae:Aa0)(Ad zs:List Int)(w:Int):List Int:=(nd Ae w).filter λy=>decide (qZ9 Ae zs y=some w/\y∉Ad)
noncomputable def qe2 (Ae:Aa0) (Ad zs:List Int) (w:Int):List Mv:=("do",w)::(clrs Ae Ad zs w).map λy=>("clear",y)
noncomputable def qc0 (Ae:Aa0)(Ad zs:List Int):List Mv:=zs.flatMap (qe2 Ae Ad zs)
inductive Run (Ae:Aa0)(Aa:Int):List Int->List Mv->List Int->Prop
 |nil {s:List Int}:Run Ae Aa s [] s
 |do_ {s s' t:List Int} {w:Int} {ms:List Mv}:w∉s->(∀y∈nd Ae w,y∈s)->(s.length:Int)<Aa->s'.Perm (s++[w])->s'.Pairwise (·<·)->Run Ae Aa s' ms t->Run Ae Aa s (("do",w)::ms) t
 |clear {s t:List Int} {w:Int} {ms:List Mv}:w∈s->Run Ae Aa (s.filter λx=>decide (x≠w)) ms t->Run Ae Aa s (("clear",w)::ms) t
noncomputable def qNW (ms:List Mv):List Int:=ms.filterMap λ(m:Mv)=>if m.1=D0 "do" then some m.2 else none
theorem qVS (a b:List Mv):qNW (a++b)=qNW a++qNW b:=Y0
theorem qYY:∀{s:List Int} {w:Int},s.Nodup->w∈s->(s.filter λx=>decide (x≠w)).length+1=s.length
 |[],w,_,h=>by cases h
 |x::s,w,n,h=>by
  have n2:=P4.mp n;by_cases e:x=w
  ·subst e;have:s.filter (λy=>decide (y≠x))=s:=u8.mpr λy hy=>decide_eq_true λz=>n2.1 (z▸hy);rw[P5,if_neg (by simp),this,D3]
  ·rw[P5,if_pos (by simpa using e),D3,D3,qYY n2.2 ((B7.mp h).resolve_left λz=>e z.symm)]
section
variable{Ae:Aa0}{Ad zs:List Int}
theorem qH4 {ys:List Int} (a:qB5 Ae Ad zs)(b:qB5 Ae Ad ys):zs=ys:=qTA a.1.up b.1.up λx=>(a.2 x).trans (b.2 x).symm
end
def PlanAt (H:Hp)(l:Addr)(ms:List Mv):Prop:=∃rs:List Addr,H l=some (.lst (rs.map V.ref))/\MovL H rs ms
theorem PlanAt.same {H H':Hp} {l:Addr} {a:List Mv} (h:PlanAt H l a)(k:Same H H'):PlanAt H' l a:=by
 obtain⟨d,b,c⟩:=h;exact⟨d,k _ _ b,c.same k⟩
def qG3 (H:Hp)(t:Addr)(Ae:Aa0)(Ad:List Int):Prop:=H t=some (.tup (Ad.map V.int))/\Rise (Ae.length:Int) Ad
def qTL:Sp:=λvs H Q _=>∃d c t ns a Ae,vs=[.ref d,.ref a]/\StAt H d c t ns/\t<=TB-100/\NetAt H a Ae/\WFn Ae/\1<=Ae.length/\Ae.length<=400/\
 ∀r ws t' ns' H',StAt H' d c t' ns'->t<=t'->t'<=t+10->Keep d c H H'->H' r=some (.tup (ws.map V.int))->Rise (Ae.length:Int) ws->1<=ws.length->Q (.ref r) H'
def qQ6:Sp:=λvs H Q _=>∃(a t:Addr) (Ae:Aa0) (Ad:List Int),vs=[.ref a,.ref t]/\NetAt H a Ae/\WFn Ae/\Ae.length<=1000/\qG3 H t Ae Ad/\
 ∀l zs H',Same H H'->H l=none->H' l=some (.lst (zs.map V.int))->qB5 Ae Ad zs->Q (.ref l) H'
def qQ9:Sp:=λvs H Q _=>∃(a mv:Addr) (Ae:Aa0) (Ac:Str) (wk:Int),vs=[.ref a,.ref mv]/\NetAt H a Ae/\H mv=some (.tup [.str Ac,.int wk])/\(Ac = "do"\/Ac = "clear")/\0<=wk/\wk<(Ae.length:Int)/\∀H',Same H H'->Q (.bl true) H'
theorem qWC:B82 "dict" = some (.type "dict"):=by decide +kernel
noncomputable def lv (L:List Int)(x:Int):Int:=(L[x.toNat]?).getD 0
structure Lev (Ae:Aa0)(L:List Int):Prop where
 len:L.length=Ae.length
 at_:∀(i:Nat) zs,Ae[i]?=some zs->∃l,L[i]?=some l/\0<=l/\l<=(i:Int)/\(∀y∈zs,lv L y+1<=l)/\(l=0\/∃y∈zs,lv L y+1=l)
structure Fd (n:Nat)(L:List Int)(S:Int->Prop)(fs:List Int):Prop where
 len:fs.length=n
 at_:∀w:Nat,w<n->(S w->fs[w]?=some (lv L w))/\(¬S w->fs[w]?=some 0)
structure CntX (n:Nat)(cs:List Int)(seen:List Int):Prop where
 len:cs.length=n
 at_:∀x:Nat,x<n->cs[x]?=some ((seen.count (x:Int):Nat):Int)
def Beh (st st':List Int) (Ac:Str) (wk:Int):Prop:=(Ac = "do"->st'.Perm (st++[wk])/\st'.Pairwise (·<=·))/\(Ac = "clear"->st'=st.filter λx=>decide (x≠wk))
theorem qS0:∀{l m:List Int},l.Perm m->l.Pairwise (·<=·)->m.Pairwise (·<=·)->l=m:=by
 intro l m d e c;exact d.eq_of_pairwise (λa b _ _ g f=>Int.le_antisymm g f) e c
theorem Beh.one {st a b:List Int} {Ac:Str} {d:Int} (h:Ac = "do"\/Ac = "clear") (f:Beh st a Ac d) (c:Beh st b Ac d):a=b:=by
 rcases h with e|e
 ·obtain⟨i,j⟩:=f.1 e;obtain⟨k,g⟩:=c.1 e;exact qS0 (i.trans k.symm) j g
 ·rw[f.2 e,c.2 e]
def qEN:Sp:=λvs H Q _=>∃(s mv:Addr) (st:List Int) (Ac:Str) (wk:Int),vs=[.ref s,.ref mv]/\H s=some (.tup (st.map V.int))/\st.length<=62/\H mv=some (.tup [.str Ac,.int wk])/\(Ac = "do"\/Ac = "clear")/\
 ∀r st' H',Same H H'->H' r=some (.tup (st'.map V.int))->Beh st st' Ac wk->Q (.ref r) H'
inductive Play (Ae:Aa0)(Aa:Int):List Int->List Mv->Aa0->V->Prop
 |nil {st}:Play Ae Aa st [] [] .non
 |stop {st m ms w0}:wd Ae st Aa m=.str w0->Play Ae Aa st (m::ms) [] (.str w0)
 |go {st st' m ms sts v}:wd Ae st Aa m=.non->Beh st st' m.1 m.2->Play Ae Aa st' ms sts v->Play Ae Aa st (m::ms) (st'::sts) v
def MvOk (Ae:Aa0) (ms:List Mv):Prop:=∀m∈ms,(m.1 = "do"\/m.1 = "clear")/\0<=m.2/\m.2<(Ae.length:Int)
theorem Play.one {Ae:Aa0} {Aa:Int} {st:List Int} {f:List Mv} {a b:Aa0} {v u:V} (g:MvOk Ae f)(h:Play Ae Aa st f a v)(c:Play Ae Aa st f b u):a=b/\v=u:=by
 induction h generalizing b u with
 |nil=>cases c;exact⟨rfl,rfl⟩
 |stop e=>
  cases c with
  |stop e2=>rw[e] at e2;exact⟨rfl,e2⟩
  |go e2 _ _=>rw[e] at e2;cases e2
 |go e bh p ih=>
  cases c with
  |stop e2=>rw[e] at e2;cases e2
  |go e2 bh2 p2=>
   have:=bh.one (g _ (by simp)).1 bh2
   subst this;obtain⟨x,y⟩:=ih (λm d=>g m (B9 _ d)) p2;exact⟨by rw[x],y⟩
def StandsAt (H:Hp)(l:Addr)(sts:Aa0):Prop:=∃rs:List Addr,H l=some (.lst (rs.map V.ref))/\NetL H rs sts
theorem NetL.sm {H H':Hp} {b:List Addr} {a:Aa0} (h:NetL H b a)(s:Same H H'):NetL H' b a:=h.same λr c e=>s _ _ e
theorem StandsAt.same {H H':Hp} {l:Addr} {c:Aa0} (h:StandsAt H l c)(s:Same H H'):StandsAt H' l c:=by
 obtain⟨d,a,b⟩:=h;exact⟨d,s _ _ a,NetL.sm b s⟩
theorem NetL.put {H:Hp} {p:Addr} {xs:List V} {o:HO} {b:List Addr} {a:Aa0} (h:NetL H b a)(c:H p=some (.lst xs)):NetL (Ag H p o) b a:=h.same λr d e=>by
 rw[qA8 (qCA e c (by intro z;cases z))]
 exact e
theorem qIY {α β:Type} {F:α->β->Prop} :∀{l₁:List α} {l₂:List β} (k:Nat),Paired F l₁ l₂->Paired F (l₁.drop k) (l₂.drop k)
 |_,_,0,h=>h
 |_,_,_+1,.nil=>.nil
 |_,_,k+1,.cons _ t=>qIY k t
theorem qIX {α β:Type} {F:α->β->Prop} :∀{l₁:List α} {l₂:List β} (k:Nat),Paired F l₁ l₂->Paired F (l₁.take k) (l₂.take k)
 |_,_,0,_=>.nil
 |_,_,_+1,.nil=>.nil
 |_,_,k+1,.cons r t=>.cons r (qIX k t)
noncomputable def lens (sts:Aa0):List Int:=sts.map λz=>(z.length:Int)
structure YNa (K:Ab1)(C:Addr):Prop where
 Ae:qRS K C "net"
 Aa:qRS K C "rooms"
 made:qRS K C "made"
 stands:qRS K C "stands"
noncomputable def yfs (a:Addr) (Aa:Int) (lm ls:Addr):List (Str×V):=putF "stands" (.ref ls) (putF "made" (.ref lm) (putF "rooms" (.int Aa) (putF "net" (.ref a) [])))
noncomputable def qR8 (st:List Int):Aa0->List Int
 |[]=>st
 |s::r=>qR8 s r
structure YardAt (C:Addr)(H:Hp)(y a lm ls:Addr)(Ae:Aa0)(Aa:Int)(ms:List Mv)(sts:Aa0):Prop where
 obj:∃dx,H y=some (.ins C dx (yfs a Aa lm ls))
 nat:NetAt H a Ae
 wf:WFn Ae
 n400:Ae.length<=400
 r0:0<=Aa
 r62:Aa<=62
 made:PlanAt H lm ms
 ok:MvOk Ae ms
 len:ms.length<=10000
 stands:StandsAt H ls ([]::sts)
 play:Play Ae Aa [] ms sts .non
 ne:lm≠ls
section
variable{Ae:Aa0}
noncomputable def qb3 (Ae:Aa0):Nat->List Int
 |0=>[]
 |i+1=>qb3 Ae i++[if nd Ae (i:Int)=[] then 1 else((nd Ae (i:Int)).map λz=>(qb3 Ae i).getD z.toNat 0).sum]
noncomputable def cn (Ae:Aa0)(z:Int):Int:=(qb3 Ae (z.toNat+1)).getD z.toNat 0
def hd (p:List Int):Int:=p.headD 0
noncomputable def apF (Ae:Aa0):Nat->List Int->Aa0
 |0,p=>[p]
 |n+1,p=>if nd Ae (hd p)=[] then[p] else((nd Ae (hd p)).reverse.map λz=>apF Ae n (z::p)).flatten
noncomputable def aP (Ae:Aa0)(p:List Int):Aa0:=apF Ae ((hd p).toNat+1) p
structure POk (Ae:Aa0)(p:List Int):Prop where
 ne:p≠[]
 h0:0<=hd p
 h1:hd p<(Ae.length:Int)
 len:(p.length:Int)+hd p<=(Ae.length:Int)
structure PWay (Ae:Aa0)(work:Int)(fs st:Aa0):Prop where
 all:fs++(st.map (aP Ae)).flatten=aP Ae [work]
 ok:∀p∈st,POk Ae p
 fok:∀p∈fs,POk Ae p
end
noncomputable abbrev keyOf (s:Nat×Nat):List Key:=[E8 (s.1:Int),E8 (s.2:Int)]
theorem Paired.app {α β:Type} {F:α->β->Prop} {l₁ b:List α} {l₂ a:List β} (h:Paired F l₁ l₂)(c:Paired F b a):Paired F (l₁++b) (l₂++a):=by
 induction h with
 |nil=>exact c
 |cons r t ih=>exact .cons r ih
structure NumP (rs:List Addr)(ss:List (Nat×Nat))(j:Nat)(ps:List (List Key×Addr×V)):Prop where
 keys:ps.map (·.1)=(ss.take j).map keyOf
 at_:∀(k:Nat) (s:Nat×Nat),k<j->ss[k]?=some s->∃a,ps[k]?=some (keyOf s,a,.int (k:Int))
noncomputable def qaO (ins:List (Int×Int))(x:Int):Option Int:=(ins.find? λq=>decide (q.1=x)).map (·.2)
noncomputable def qdR (ins:List (Int×Int))(i:Nat):Nat:=((E6 i).filter λ(x:Nat)=>(qaO ins (x:Int)).isNone).length
noncomputable def numO (m:Nat)(ins:List (Int×Int))(x:Nat):Int:=match qaO ins (x:Int) with|some v=>v|none=>((m+qdR ins x:Nat):Int)
structure InsAt (H:Hp)(i:Addr)(ins:List (Int×Int)):Prop where
 at_:∃rs:List Addr,BareT H i (rs.map V.ref)/\Paired (λr (q:Int×Int)=>H r=some (.tup [.int q.1,.int q.2])) rs ins
 nodup:(ins.map (·.1)).Nodup
structure InsOk (m:Nat)(other:Aa0)(k:Nat)(ins:List (Int×Int))(fs:List Int):Prop where
 st:∀q∈ins,(0<=q.1/\q.1<(k:Int))/\other[q.1.toNat]?=some []/\0<=q.2/\q.2<(m:Int)
 nd1:(ins.map (·.1)).Nodup
 nd2:(ins.map (·.2)).Nodup
 fr:fs.Nodup
 fin:∀x∈fs,(0<=x/\x<(m:Int))/\x∉ins.map (·.2)
 len:ins.length<=k
noncomputable def pm (m:Mv):Int:=if m.1 = "do" then 1 else -1
noncomputable def peak:Int->List Mv->Int
 |n,[]=>n
 |n,m::ms=>max n (peak (n+pm m) ms)
theorem qdY (w:Int):pm ("do",w)=1:=rfl
theorem qXE (w:Int):pm ("clear",w) = -1:=if_neg (qAK)
theorem qU5:∀(n:Int) (ms:List Mv),n<=peak n ms
 |n,[]=>O6 _
 |n,m::ms=>by show n<=max n _;lia
theorem Run.app {Ae:Aa0} {Aa:Int} {s t u:List Int} {a b:List Mv} (h:Run Ae Aa s a t)(k:Run Ae Aa t b u):Run Ae Aa s (a++b) u:=by
 induction h with
 |nil=>exact k
 |do_ h1 h2 h3 h4 h5 _ ih=>exact .do_ h1 h2 h3 h4 h5 (ih k)
 |clear h1 _ ih=>exact .clear h1 (ih k)
theorem qWZ {s:List Int} (h:s.Pairwise (·<·)):s.Nodup:=h.imp λ{a b} c=>by lia
noncomputable def less (th s:List Int):List Int:=s.filter λx=>decide (x∉th)
noncomputable def qe9 (th:List Int)(ms:List Mv):List Mv:=ms.filter λm=>decide (m.2∉th)
theorem Run.play {Ae:Aa0} {Aa:Int} {s t:List Int} {c:List Mv} (h:Run Ae Aa s c t):s.Pairwise (·<·)->∃sts,Play Ae Aa s c sts .non/\qR8 s sts=t/\topD none (lens (s::sts))=some (peak (s.length:Int) c)/\∀z∈sts,(z.length:Int)<=peak (s.length:Int) c:=by
 induction h with
 |nil=>intro _;exact⟨[],.nil,rfl,rfl,λ_ z=>nomatch z⟩
 |@do_ s s' t w c h1 h2 h3 h4 h5 h6 ih=>
  intro n;obtain⟨sts,p,l,d,j⟩:=ih h5;have v:=h4.length_eq;rw[A8,C1] at v;have g:peak (s.length:Int) (("do",w)::c)=max (s.length:Int) (peak (s'.length:Int) c):=by
   show max _ (peak ((s.length:Int)+pm ("do",w)) c)=_
   rw[qdY,show((s.length:Int)+1)=(s'.length:Int) by lia]
  have pg:=qU5 (s'.length:Int) c;refine⟨s'::sts,.go ?_ ⟨λ_=>⟨h4,h5.imp λ{a b} a0=>by lia⟩,λz=>absurd z.symm qAK⟩ p,l,?_,λz o=>?_⟩
  ·unfold wd qCB qCY;rw[if_pos rfl,if_neg h1,if_pos (show∀x∈(Ae[w.toNat]?).getD [],x∈s from h2),if_neg (by lia)]
  ·unfold lens at d ⊢;rw[C7] at d;rw[C7,C7,g];show some (topI _ _)=_;have e:topI (s'.length:Int) (sts.map λz=>(z.length:Int))=peak (s'.length:Int) c:=D7 d;have i:=qIJ ((s'.length:Int)::sts.map λz=>(z.length:Int)) (s.length:Int);have f:=qIJ (sts.map λz=>(z.length:Int)) (s'.length:Int);rw[e] at f;congr 1;have u:∀x∈(s'.length:Int)::sts.map (λz=>(z.length:Int)),x<=peak (s'.length:Int) c:=λx r=>by
    rcases B7.mp r with q|q
    ·lia
    ·exact f.2.1 x q
   have k:peak (s'.length:Int) c∈(s'.length:Int)::sts.map (λz=>(z.length:Int)):=by
    rcases f.2.2 with q|q
    ·rw[q];exact F0
    ·exact B9 _ q
   have y:=i.2.1 _ k;rcases i.2.2 with q|q
   ·lia
   ·have:=u _ q
    lia
  ·rw[g];rcases B7.mp o with q|q
   ·rw[q];lia
   ·have:=j z q;lia
 |@clear s t w c h1 h2 ih=>
  intro n;obtain⟨sts,p,l,d,j⟩:=ih (n.filter _);have v:=qYY (qWZ n) h1;generalize hs':(s.filter λx=>decide (x≠w))=s' at p l d j v;have g:peak (s.length:Int) (("clear",w)::c)=max (s.length:Int) (peak (s'.length:Int) c):=by
   show max _ (peak ((s.length:Int)+pm ("clear",w)) c)=_;rw[qXE,show((s.length:Int) + -1)=(s'.length:Int) by lia]
  have pg:=qU5 (s'.length:Int) c;refine⟨s'::sts,.go ?_ ⟨λz=>absurd z qAK,λ_=>hs'.symm⟩ p,l,?_,λz o=>?_⟩
  ·unfold wd qCB qCO;rw[if_neg (show¬(("clear",w):Mv).1 = "do" fromλz=>qAK z),if_pos h1]
  ·unfold lens at d ⊢;rw[C7] at d;rw[C7,C7,g];show some (topI _ _)=_;have e:topI (s'.length:Int) (sts.map λz=>(z.length:Int))=peak (s'.length:Int) c:=D7 d;have i:=qIJ ((s'.length:Int)::sts.map λz=>(z.length:Int)) (s.length:Int);have f:=qIJ (sts.map λz=>(z.length:Int)) (s'.length:Int);rw[e] at f;congr 1;have u:∀x∈(s'.length:Int)::sts.map (λz=>(z.length:Int)),x<=peak (s'.length:Int) c:=λx r=>by
    rcases B7.mp r with q|q
    ·lia
    ·exact f.2.1 x q
   have k:peak (s'.length:Int) c∈(s'.length:Int)::sts.map (λz=>(z.length:Int)):=by
    rcases f.2.2 with q|q
    ·rw[q];exact F0
    ·exact B9 _ q
   have y:=i.2.1 _ k;rcases i.2.2 with q|q
   ·lia
   ·have:=u _ q
    lia
  ·rw[g];rcases B7.mp o with q|q
   ·rw[q];lia
   ·have:=j z q;lia
noncomputable def pbGo (num:Int->Int)(jn:Int->Bool)(pl:Int->List Mv):List Int->List Mv->List Mv
 |_,[]=>[]
 |th,m::c=>if m.1 = "clear" then("clear",num m.2)::pbGo num jn pl (th.filter λx=>decide (x≠num m.2)) c else(if jn m.2 then qe9 th (pl (num m.2)) else[("do",num m.2)])++pbGo num jn pl (th++[num m.2]) c
structure ThOk (n:Nat)(num:Int->Int)(th s:List Int):Prop where
 perm:th.Perm (s.map num)
 rise:Rise (n:Int) s
structure TopO (Ae:Aa0)(zs:List Int):Prop where
 nodup:zs.Nodup
 in_:∀x∈zs,0<=x/\x<(Ae.length:Int)
 bef:∀(p:Nat) (o:Int),zs[p]?=some o->∀x∈nd Ae o,x∈zs.take p
 aft:∀(p:Nat) (o:Int),zs[p]?=some o->p+1<zs.length->later Ae zs (p+1) o
structure Begun (Ae:Aa0)(some_ ord:List Int):Prop where
 nodup:ord.Nodup
 sub:∀x∈ord,x∈some_
 bef:∀(p:Nat) (o:Int),ord[p]?=some o->∀x∈nd Ae o,x∈ord.take p
def qTM:Sp:=λvs H Q _=>∃(a t:Addr) (Ae:Aa0) (Ad:List Int),vs=[.ref a,.ref t]/\NetAt H a Ae/\WFn Ae/\Ae.length<=60/\H t=some (.tup (Ad.map V.int))/\(∀x∈Ad,0<=x/\x<(Ae.length:Int))/\
 ∀l zs H',Same H H'->H l=none->H' l=some (.lst (zs.map V.int))->qB5 Ae Ad zs->Q (.ref l) H'
noncomputable def ndOf (Ae:Aa0)(Ad:List Int):List Int:=by
 classical
 exact if h:∃zs,qB5 Ae Ad zs then B33 h else[]
noncomputable def qZ1 (Ae:Aa0)(w:Int):List Mv:=qc0 Ae [w] (ndOf Ae [w])
def numF (m:Nat)(ins:List (Int×Int))(x:Int):Int:=numO m ins x.toNat
noncomputable def qeC (ins:List (Int×Int))(x:Int):Bool:=(qaO ins x).isSome
noncomputable def qeU (one:Aa0)(ins:List (Int×Int))(ms:List Mv):List Mv:=pbGo (numF one.length ins) (qeC ins) (qZ1 one) [] ms
noncomputable def qe5 (one:Aa0)(ins:List (Int×Int)):Int:=(topD (some 1) (ins.map λq=>peak 0 (qZ1 one q.2))).getD 0
noncomputable def qeT (one:Aa0)(ins:List (Int×Int))(ms:List Mv):Int:=match ins with|[]=>peak 0 ms|_::_=>qe5 one ins+peak 0 ms-1
structure BehIn (H:Hp)(a b i l:Addr)(one other:Aa0)(ins:List (Int×Int))(ms:List Mv)(st:List Int):Prop where
 gA:NetAt H a one
 wf1:WFn one
 gB:NetAt H b other
 wf2:WFn other
 gI:InsAt H i ins
 ok:∃fs,InsOk one.length other other.length ins fs
 plan:PlanAt H l ms
 mv:MvOk other ms
 len:ms.length<=400
 run:Run other (other.length:Int) [] ms st
 o1:1<=one.length
 o2:one.length<=60
 o3:1<=other.length
 o4:other.length<=60
theorem qXP {Ae:Aa0} {Ad:List Int} (a:WFn Ae)(r:Rise (Ae.length:Int) Ad){x:Int}(h:Nd Ae Ad x):0<=x/\x<(Ae.length:Int):=by
 induction h with
 |ask m=>exact r.in_ _ m
 |need _ e hy ih=>
  have b:=(a _ _ e).in_ _ hy;have c:=(A5.mp e).1
  lia
theorem qUI {Ae:Aa0} {Ad:List Int} (a:WFn Ae)(r:Rise (Ae.length:Int) Ad):∃zs,qB5 Ae Ad zs:=by
 classical
 refine⟨(qBM 0 Ae.length).filter λx=>decide (Nd Ae Ad x),⟨(qEP _ _).filter _,λx b=>?_⟩,λx=>?_⟩
 ·have:=mem_rangeI.mp (E4.mp b).1
  lia
 ·rw[E4,decide_eq_true_eq,mem_rangeI];exact⟨λh=>h.2,λh=>⟨qXP a r h,h⟩⟩
structure TwoIn (H:Hp)(a b i:Addr)(one other:Aa0)(ins:List (Int×Int)):Prop where
 gA:NetAt H a one
 wf1:WFn one
 gB:NetAt H b other
 wf2:WFn other
 gI:InsAt H i ins
 ok:∃fs,InsOk one.length other other.length ins fs
 o1:1<=one.length
 o2:one.length<=40
 o3:1<=other.length
 o4:other.length<=7
theorem qYO {Ae:Aa0} {st:List Int} {Aa:Int} {Ac:Str} {b:Int} (c:Ac = "do"\/Ac = "clear") (e:wd Ae st Aa (Ac,b)=.non):(Ac = "do"->b∉st/\(∀y∈nd Ae b,y∈st)/\(st.length:Int)<Aa)/\(Ac = "clear"->b∈st):=by
 rcases c with d|d
 ·subst d;refine⟨λ_=>?_,λz=>absurd z.symm qAK⟩;have a:qCY ((Ae[b.toNat]?).getD []) st Aa b=.non:=by
   have:=e;unfold wd qCB at this;rw[if_pos rfl] at this;exact this
  unfold qCY at a
  split at a
  ·cases a
  rename_i hn
  split at a
  ·rename_i hall
   split at a
   ·cases a
   ·exact⟨hn,hall,by lia⟩
  ·cases a
 ·subst d;refine⟨λz=>absurd z qAK,λ_=>?_⟩;have a:qCO st b=.non:=by
   have:=e;unfold wd qCB at this;rw[if_neg (show¬D0 "clear" = D0 "do" from qAK)] at this
   exact this
  unfold qCO at a
  split at a
  ·rename_i hin;exact hin
  ·cases a
theorem qRP {n:Nat} {st a:List Int} {Ac:Str} {c:Int} (r:Rise (n:Int) st) (h:Ac = "do"\/Ac = "clear") (j:0<=c) (g:c<(n:Int)) (i:Ac = "do"->c∉st) (b:Beh st a Ac c):Rise (n:Int) a:=by
 rcases h with d|d
 ·obtain⟨f,k⟩:=b.1 d;refine⟨qEV k (f.nodup_iff.mpr (qH5 r.nodup (i d))),λx e=>?_⟩;rcases B0.mp (f.mem_iff.mp e) with q|q
  ·exact r.in_ x q
  ·rw[A7.mp q];exact⟨j,g⟩
 ·rw[b.2 d];exact⟨r.up.filter _,λx e=>r.in_ x (E4.mp e).1⟩
def PlayIn2 (H:Hp)(a l:Addr)(Ae:Aa0)(ms:List Mv)(Aa:Int):Prop:=NetAt H a Ae/\WFn Ae/\Ae.length<=60/\PlanAt H l ms/\ms.length<=10000/\MvOk Ae ms/\0<=Aa/\Aa<=100000
theorem PlayIn2.same {H H':Hp} {a l:Addr} {Ae:Aa0} {b:List Mv} {Aa:Int} (h:PlayIn2 H a l Ae b Aa)(s:Same H H'):PlayIn2 H' a l Ae b Aa:=by
 obtain⟨e,c,g,f,d,i,j⟩:=h;exact⟨e.same s,c,g,f.same s,d,i,j⟩
def qQ4:Sp:=λvs H Q _=>∃(a l:Addr) (Ae:Aa0) (ms:List Mv) (Aa:Int),vs=[.ref a,.int Aa,.ref l]/\PlayIn2 H a l Ae ms Aa/\
 ∀T ls sts v H',Same H H'->Play Ae Aa [] ms sts v->H' T=some (.tup [.ref ls,v])->H ls=none->StandsAt H' ls ([]::sts)->sts.length<=ms.length->Q (.ref T) H'
structure Ord (Ae:Aa0)(Ad os:List Int):Prop where
 nodup:os.Nodup
 in_:∀w∈os,0<=w/\w<(Ae.length:Int)
 has:∀(i:Nat) (w y:Int),os[i]?=some w->y∈nd Ae w->y∈os.take i
 used:∀(i:Nat) (w:Int),os[i]?=some w->w∈Ad\/later Ae os (i+1) w
 ask:∀x∈Ad,x∈os
section
variable{Ae:Aa0}{Ad os:List Int}
end
structure Span (Ae:Aa0)(Ad os:List Int)(K:Nat):Prop where
 near:∀(q r:Nat) (x v:Int),os[q]?=some x->os[r]?=some v->x∈nd Ae v->r<=q+K
 last:∀x∈Ad,∀q:Nat,os[q]?=some x->q+1=os.length
structure Told (Ae:Aa0)(R:Int)(ms:List Mv):Prop where
 run:Run Ae R [] ms [(Ae.length:Int)-1]
 top:peak 0 ms=R
 ok:MvOk Ae ms
 once:(qNW ms).Perm (qBM 0 (Ae.length:Int))
 len:ms.length<=2*Ae.length
noncomputable def mskN (zs:List Int):Nat:=(zs.map λz=>2^z.toNat).sum
noncomputable def cntN (n b:Nat):Nat:=((E6 n).map λk=>b/2^k%2).sum
def clrb (b k:Nat):Nat:=b-2^k*(b/2^k%2)
noncomputable def nxt (Ae:Aa0)(k:Nat):Nat:=mskN ((Ae[k]?).getD [])
def can (Ae:Aa0)(Aa:Int)(b k:Nat):Prop:=(cntN Ae.length b:Int)<Aa/\k<Ae.length/\b &&& nxt Ae k=nxt Ae k
inductive Rm (Ae:Aa0)(Aa:Int):Nat->Nat->Prop
 |zero:Rm Ae Aa 0 0
 |clr {m b k:Nat}:Rm Ae Aa m b->k<Ae.length->Rm Ae Aa m (clrb b k)
 |do_ {m b k:Nat}:Rm Ae Aa m b->can Ae Aa b k->Rm Ae Aa (m+1) (b ||| 2^k)
def Mn (Ae:Aa0)(Aa:Int)(m b:Nat):Prop:=Rm Ae Aa m b/\∀m',m'<m->¬Rm Ae Aa m' b
theorem qb4 (b k:Nat):clrb b k<=b:=Nat.sub_le _ _
theorem Rm.lt {Ae:Aa0} {Aa:Int} {m b:Nat} (h:Rm Ae Aa m b):b<2^Ae.length:=by
 induction h with
 |zero=>exact A50 _
 |clr _ _ ih=>exact X3 (qb4 _ _) ih
 |do_ _ c ih=>exact Nat.or_lt_two_pow ih (A70 (by decide) c.2.1)
theorem qTE {α:Type} [DecidableEq α]:∀{l r:List α},l.Nodup->(∀x∈l,x∈r)->l.length<=r.length
 |[],r,_,_=>E7 _
 |a::l,r,nd,h=>by
  have nd':=P4.mp nd;have ha:=h a (F0 ..);have:=qTE (r:=r.erase a) nd'.2 λx hx=>(List.mem_erase_of_ne (λ(e:x=a)=>nd'.1 (e▸hx))).mpr (h x (B9 _ hx));rw[List.length_erase_of_mem ha] at this;have:0<r.length:=X1 ha;rw[D3]
  lia
theorem qE3 {ks:List Nat} {n:Nat} (c:ks.Nodup)(h:∀b∈ks,b<n):ks.length<=n:=by
 have:=qTE (r:=E6 n) c λx a=>D6.mpr (h x a)
 rwa[B12] at this
theorem qH0 {ks:List Nat} {x:Nat} (f:ks.Nodup)(h:x∉ks):(ks++[x]).Nodup:=by
 rw[B13];exact⟨f,by simp,λa c b d e=>h (by rw[A7.mp d] at e;exact e▸c)⟩
structure FdC (Ae:Aa0)(Aa:Int)(many:Nat)(ks:List Nat)(f:Nat->Nat):Prop where
 nd:ks.Nodup
 snd:∀b∈ks,f b<=many/\Mn Ae Aa (f b) b
 zero:0∈ks
 full:∀m,m<many->∀b,Rm Ae Aa m b->b∈ks
section
variable{Ae:Aa0}{Aa:Int}{many:Nat}{ks cl ly:List Nat}{f:Nat->Nat}{at_ wk:Nat}
theorem FdC.lt (h:FdC Ae Aa many ks f){b:Nat}(a:b∈ks):b<2^Ae.length:=(h.snd b a).2.1.lt
theorem FdC.len (h:FdC Ae Aa many ks f):ks.length<=2^Ae.length:=qE3 h.nd λb a=>h.lt a
theorem FdC.le (h:FdC Ae Aa many ks f){m b:Nat}(a:b∈ks)(r:Rm Ae Aa m b):f b<=m:=by
 apply G4;intro z;exact(h.snd b a).2.2 m (by lia) r
def fset (f:Nat->Nat)(x v:Nat):Nat->Nat:=λy=>if y=x then v else f y
theorem qEY (f:Nat->Nat)(x v:Nat):fset f x v x=v:=if_pos rfl
theorem qaS {f:Nat->Nat} {x v y:Nat} (h:y≠x):fset f x v y=f y:=if_neg h
theorem qEZ {f:Nat->Nat} {x v y:Nat} {ks:List Nat} (h:y∈ks)(a:x∉ks):fset f x v y=f y:=qaS λe=>a (by rw[<- e];exact h)
theorem FdC.add (h:FdC Ae Aa many ks f){x:Nat}(c:x∉ks)(r:Rm Ae Aa many x):FdC Ae Aa many (ks++[x]) (fset f x many):=by
 refine⟨qH0 h.nd c,λb hb=>?_,B0.mpr (.inl h.zero),λm a b e=>B0.mpr (.inl (h.full m a b e))⟩;rcases B0.mp hb with hb|hb
 ·rw[qEZ hb c];exact h.snd b hb
 ·rw[A7.mp hb,qEY];exact⟨A6 _,r,λd a z=>c (h.full d a x z)⟩
structure A1 (Ae:Aa0)(Aa:Int)(many:Nat)(ks:List Nat)(f:Nat->Nat)(cl:List Nat)(at_ wk:Nat):Prop where
 fd:FdC Ae Aa many ks f
 dos:∀m b k,m+1=many->Rm Ae Aa m b->can Ae Aa b k->b ||| 2^k∈ks
 clm:∀b,b∈cl↔b∈ks/\f b=many
 nd:cl.Nodup
 done:∀i b,cl[i]?=some b->i<at_->∀k,k<Ae.length->clrb b k∈ks
 dk:∀b,cl[at_]?=some b->∀k,k<wk->clrb b k∈ks
theorem A1.start:A1 Ae Aa 0 [0] (λ_=>0) [0] 0 0:=
 ⟨⟨by simp,λb a=>by rw[A7.mp a];exact⟨A6 _,.zero,λ_ z=>absurd z (J5 _)⟩,by simp,λm c=>absurd c (J5 _)⟩,λm b k e=>by lia,λb=>by simp,by simp,λi b _ z=>absurd z (J5 _),λb _ k z=>absurd z (J5 _)⟩
theorem A1.hit (h:A1 Ae Aa many ks f cl at_ wk){c:Nat}(g:cl[at_]?=some c)(i:clrb c wk∈ks):A1 Ae Aa many ks f cl at_ (wk+1):=by
 refine⟨h.fd,h.dos,h.clm,h.nd,h.done,λb a k d=>?_⟩;by_cases e:k=wk
 ·rw[g] at a;cases a;rw[e];exact i
 ·exact h.dk b a k (by lia)
theorem A1.add (h:A1 Ae Aa many ks f cl at_ wk){c:Nat}(n:cl[at_]?=some c)(t:wk<Ae.length)(j:clrb c wk∉ks):A1 Ae Aa many (ks++[clrb c wk]) (fset f (clrb c wk) many) (cl++[clrb c wk]) at_ (wk+1):=by
 have d:=(h.clm c).mp (B5 n);have s:Rm Ae Aa many c:=d.2▸(h.fd.snd c d.1).2.1;have a:∀{i b},i<=at_->(cl++[clrb c wk])[i]?=some b->cl[i]?=some b:=λ{i b} o e=>by
  have:=(A5.mp n).1
  rwa[J2 (by lia)] at e
 refine⟨h.fd.add j (.clr s t),λm b k q r c=>B0.mpr (.inl (h.dos m b k q r c)),λb=>?_,qH0 h.nd λz=>j ((h.clm _).mp z).1,λi b e o k g=>?_,λb e k g=>?_⟩
 ·rw[B0,B0,A7,h.clm b]
  constructor
  ·rintro(z|z)
   ·exact⟨.inl z.1,by rw[qEZ z.1 j];exact z.2⟩
   ·exact⟨.inr z,by rw[z,qEY]⟩
  ·rintro⟨z|z,e⟩
   ·rw[qEZ z j] at e;exact .inl ⟨z,e⟩
   ·exact .inr z
 ·exact B0.mpr (.inl (h.done i b (a (by lia) e) o k g))
 ·have l:=a (A6 _) e;by_cases p:k=wk
  ·rw[n] at l;cases l;rw[p];exact B0.mpr (.inr (A7.mpr rfl))
  ·exact B0.mpr (.inl (h.dk b l k (by lia)))
theorem A1.next (h:A1 Ae Aa many ks f cl at_ Ae.length):A1 Ae Aa many ks f cl (at_+1) 0:=by
 refine⟨h.fd,h.dos,h.clm,h.nd,λi b e d k a=>?_,λb _ k z=>absurd z (J5 _)⟩;by_cases c:i=at_
 ·rw[c] at e;exact h.dk b e k a
 ·exact h.done i b e (by lia) k a
theorem A1.len (h:A1 Ae Aa many ks f cl at_ wk):cl.length<=2^Ae.length:=qE3 h.nd λb a=>h.fd.lt ((h.clm b).mp a).1
theorem A1.all (h:A1 Ae Aa many ks f cl at_ wk)(l:cl.length<=at_):∀m b,Rm Ae Aa m b->m<=many->b∈ks:=by
 intro m b r
 induction r with
 |zero=>exactλ_=>h.fd.zero
 |@clr m b k r hk ih=>
  intro d;have a:=ih d;by_cases e:f b=many
  ·obtain⟨i,j,g⟩:=L6 ((h.clm b).mpr ⟨a,e⟩);exact h.done i b (by rw[A4 j,g]) (by lia) k hk
  ·have:=(h.fd.snd b a);exact h.fd.full (f b) (by lia) _ (.clr this.2.1 hk)
 |@do_ m b k r c ih=>
  intro d;by_cases e:m+1=many
  ·exact h.dos m b k e r c
  ·exact h.fd.full (m+1) (by lia) _ (.do_ r c)
structure A2 (Ae:Aa0)(Aa:Int)(many:Nat)(ks:List Nat)(f:Nat->Nat)(cl ly:List Nat)(at_ wk:Nat):Prop where
 fd:FdC Ae Aa (many+1) ks f
 clm:∀b,b∈cl↔b∈ks/\f b=many
 lym:∀b,b∈ly↔b∈ks/\f b=many+1
 nd:ly.Nodup
 done:∀i b,cl[i]?=some b->i<at_->∀k,can Ae Aa b k->b ||| 2^k∈ks
 dk:∀b,cl[at_]?=some b->∀k,k<wk->can Ae Aa b k->b ||| 2^k∈ks
theorem A1.two (h:A1 Ae Aa many ks f cl at_ wk)(c:cl.length<=at_):A2 Ae Aa many ks f cl [] 0 0:=by
 refine⟨⟨h.fd.nd,λb a=>⟨by have:=(h.fd.snd b a).1;lia,(h.fd.snd b a).2⟩,h.fd.zero,λm d b r=>h.all c m b r (by lia)⟩,h.clm,λb=>⟨λz=>absurd z (by simp),λz=>?_⟩,.nil,λi b _ z=>absurd z (J5 _),λb _ k z=>absurd z (J5 _)⟩
 have:=(h.fd.snd b z.1).1
 lia
theorem A2.hit (h:A2 Ae Aa many ks f cl ly at_ wk){c:Nat}(i:cl[at_]?=some c)(j:can Ae Aa c wk->c ||| 2^wk∈ks):A2 Ae Aa many ks f cl ly at_ (wk+1):=by
 refine⟨h.fd,h.clm,h.lym,h.nd,h.done,λb d k g a=>?_⟩;by_cases e:k=wk
 ·rw[i] at d;cases d;rw[e] at a ⊢;exact j a
 ·exact h.dk b d k (by lia) a
theorem A2.add (h:A2 Ae Aa many ks f cl ly at_ wk){c:Nat}(j:cl[at_]?=some c)(m:can Ae Aa c wk)(a:c ||| 2^wk∉ks):A2 Ae Aa many (ks++[c ||| 2^wk]) (fset f (c ||| 2^wk) (many+1)) cl (ly++[c ||| 2^wk]) at_ (wk+1):=by
 have d:=(h.clm c).mp (B5 j);have n:Rm Ae Aa many c:=d.2▸(h.fd.snd c d.1).2.1;refine⟨h.fd.add a (.do_ n m),λb=>?_,λb=>?_,qH0 h.nd λz=>a ((h.lym _).mp z).1,λi b e o k g=>B0.mpr (.inl (h.done i b e o k g)),λb e k p g=>?_⟩
 ·rw[h.clm b,B0,A7]
  constructor
  ·rintro⟨z,e⟩;exact⟨.inl z,by rw[qEZ z a];exact e⟩
  ·rintro⟨z|z,e⟩
   ·rw[qEZ z a] at e;exact⟨z,e⟩
   ·rw[z,qEY] at e
    lia
 ·rw[B0,B0,A7,h.lym b]
  constructor
  ·rintro(z|z)
   ·exact⟨.inl z.1,by rw[qEZ z.1 a];exact z.2⟩
   ·exact⟨.inr z,by rw[z,qEY]⟩
  ·rintro⟨z|z,e⟩
   ·rw[qEZ z a] at e;exact .inl ⟨z,e⟩
   ·exact .inr z
 ·by_cases l:k=wk
  ·rw[j] at e;cases e;rw[l];exact B0.mpr (.inr (A7.mpr rfl))
  ·exact B0.mpr (.inl (h.dk b e k (by lia) g))
theorem A2.next (h:A2 Ae Aa many ks f cl ly at_ Ae.length):A2 Ae Aa many ks f cl ly (at_+1) 0:=by
 refine⟨h.fd,h.clm,h.lym,h.nd,λi b e d k c=>?_,λb _ k z=>absurd z (J5 _)⟩;by_cases a:i=at_
 ·rw[a] at e;exact h.dk b e k c.2.1 c
 ·exact h.done i b e (by lia) k c
theorem A2.skip (h:A2 Ae Aa many ks f cl ly at_ wk){c:Nat}(j:cl[at_]?=some c)(d:¬(cntN Ae.length c:Int)<Aa):A2 Ae Aa many ks f cl ly (at_+1) 0:=by
 refine⟨h.fd,h.clm,h.lym,h.nd,λi b e l k a=>?_,λb _ k z=>absurd z (J5 _)⟩;by_cases g:i=at_
 ·rw[g,j] at e;cases e;exact absurd a.1 d
 ·exact h.done i b e (by lia) k a
theorem A2.one (h:A2 Ae Aa many ks f cl ly at_ wk)(o:cl.length<=at_):A1 Ae Aa (many+1) ks f ly 0 0:=by
 refine⟨h.fd,λm b k e r c=>?_,h.lym,h.nd,λi b _ z=>absurd z (J5 _),λb _ k z=>absurd z (J5 _)⟩;have n:m=many:=by lia
 subst n;have a:=h.fd.full m (by lia) b r
 have g:=h.fd.le a r;by_cases d:f b=m
 ·obtain⟨i,l,j⟩:=L6 ((h.clm b).mpr ⟨a,d⟩);exact h.done i b (by rw[A4 l,j]) (by lia) k c
 ·exact h.fd.full (f b+1) (by lia) _ (.do_ (h.fd.snd b a).2.1 c)
structure Come (Ae:Aa0)(Aa:Int)(ks:List Nat)(f:Nat->Nat):Prop where
 nd:ks.Nodup
 snd:∀b∈ks,Mn Ae Aa (f b) b
 all:∀m b,Rm Ae Aa m b->b∈ks
theorem A1.come (h:A1 Ae Aa many ks f [] at_ wk):Come Ae Aa ks f:=by
 have d:∀b∈ks,f b<many:=λb a=>by
  have g:=(h.fd.snd b a).1;have i:f b≠many:=λe=>nomatch(h.clm b).mpr ⟨a,e⟩
  lia
 refine⟨h.fd.nd,λb a=>(h.fd.snd b a).2,λm b r=>?_⟩
 induction r with
 |zero=>exact h.fd.zero
 |@clr m b k r hk ih=>exact h.fd.full (f b) (d b ih) _ (.clr (h.fd.snd b ih).2.1 hk)
 |@do_ m b k r c ih=>
  have:=d b ih;by_cases e:f b+1=many
  ·exact h.dos (f b) b k e (h.fd.snd b ih).2.1 c
  ·exact h.fd.full (f b+1) (by lia) _ (.do_ (h.fd.snd b ih).2.1 c)
end
noncomputable def kvN (ks:List Nat)(f:Nat->Nat):List (Key×V):=ks.map λ(b:Nat)=>((E8 (b:Int):Key),V.int (f b:Int))
theorem qPE (ks:List Nat)(f:Nat->Nat):(kvN ks f).length=ks.length:=by simp[kvN]
theorem qPD (ks:List Nat)(f:Nat->Nat)(x:Nat):valV (kvN ks f) (E8 (x:Int))=if x∈ks then some (.int (f x:Int)) else none:=by
 induction ks with
 |nil=>rfl
 |cons b ks ih=>
  show((((E8 (b:Int):Key),V.int (f b:Int))::kvN ks f).find? λa=>decide (a.1=E8 (x:Int))).map (·.2)=_;rw[V2];by_cases e:b=x
  ·subst e;simp
  ·have:¬((E8 (b:Int):Key)=E8 (x:Int)):=λz=>e (by have:=f9 z;lia)
   rw[decide_eq_false this];show valV (kvN ks f) (E8 (x:Int))=_;rw[ih];have c:x≠b:=F5 e;simp[c]
theorem qUU {ks:List Nat} {f:Nat->Nat} {x v:Nat} (h:x∉ks):putK (kvN ks f) (E8 (x:Int)) (.int (v:Int))=kvN (ks++[x]) (fset f x v):=by
 rw[qQK _ (by rw[qPD,if_neg h])]
 unfold kvN;rw[B3];congr 1
 ·exact W4 λb a=>by rw[qEZ a h]
 ·simp[qEY]
theorem qE2 (a b:Nat):U1 (a:Int) (b:Int)=((a &&& b:Nat):Int):=by
 unfold U1;rw[decide_eq_true (X2 a),decide_eq_true (X2 b)]
 rfl
theorem qWF (a b:Nat):A88 (a:Int) (b:Int)=((a ||| b:Nat):Int):=by
 have d:∀c:Nat,U5 (c:Int)=A32 c:=λc=>by unfold U5;lia
 have f:∀c:Nat,decide (0<=A32 c)=false:=λc=>decide_eq_false (by lia)
 have e:∀c:Nat,U5 (A32 c)=(c:Int):=λc=>by unfold U5;lia
 unfold A88 U1;rw[d,d,f,f];show U5 (U5 (((U5 (A32 a)).toNat ||| (U5 (A32 b)).toNat:Nat)))=_;rw[e,e,d,e]
 rfl
theorem qa0 (a k:Nat):(a:Int)/2^k=((a/2^k:Nat):Int):=by
 rw[Int.natCast_ediv,B42]
 rfl
theorem qPX (a k:Nat):U1 ((a:Int)/2^k) 1=((a/2^k%2:Nat):Int):=by
 rw[qa0,show(1:Int)=((1:Nat):Int) from rfl,qE2,Nat.and_one_is_mod]
theorem qOU (k:Nat):(1:Int)*2^k=((2^k:Nat):Int):=by
 rw[Int.one_mul,B42]
 rfl
theorem qb5 (a k:Nat):(a:Int)-(1*2^k)*U1 ((a:Int)/2^k) 1=((clrb a k:Nat):Int):=by
 rw[qPX,qOU,<- Int.natCast_mul];unfold clrb;have b:a/2^k%2<=a/2^k:=Nat.mod_le _ _;have c:2^k*(a/2^k%2)<=a:=F4 (Nat.mul_le_mul_left _ b) (Nat.mul_div_le _ _)
 lia
noncomputable def qOE (ws Ad:List Int):Nat:=mskN ((qBM 0 ws.length).filter λp=>decide ((ws[p.toNat]?).getD 0∈Ad))
def qEJ (Ae:Aa0)(ws Ad:List Int)(r:Int):Prop:=∃m b,Rm (qBW Ae ws) r m b/\b &&& qOE ws Ad=qOE ws Ad
def LeastR (Ae:Aa0)(ws Ad:List Int)(r:Int):Prop:=1<=r/\qEJ Ae ws Ad r/\∀r',1<=r'->r'<r->¬qEJ Ae ws Ad r'
theorem LeastR.one {Ae:Aa0} {d Ad:List Int} {r c:Int} (h:LeastR Ae d Ad r)(h':LeastR Ae d Ad c):r=c:=by
 have a:¬r<c:=λz=>h'.2.2 r h.1 z h.2.1;have b:¬c<r:=λz=>h.2.2 c h'.1 z h'.2.1
 lia
theorem qRN (g:Nat->Nat):∀l:List Nat,(l.map λk=>((g k:Nat):Int)).sum=(((l.map g).sum:Nat):Int)
 |[]=>rfl
 |k::l=>by rw[C7,p9,qRN g l,C7,p9];lia
theorem qP5:∀zs:List Int,(zs.map λz=>(1:Int)*2^z.toNat).sum=((mskN zs:Nat):Int)
 |[]=>rfl
 |z::l=>by
  have:=qP5 l;unfold mskN at this ⊢;rw[C7,p9,this,C7,p9,qOU]
  lia
def natI (l:List Nat):List Int:=l.map λ(b:Nat)=>(b:Int)
theorem qJ3 (l:List Nat)(b:Nat):natI (l++[b])=natI l++[(b:Int)]:=by simp[natI]
theorem qGI (l:List Nat):(natI l).length=l.length:=by simp[natI]
theorem qR2 {l:List Nat} {i:Nat} {b:Nat} (h:l[i]?=some b):(natI l)[i]?=some (b:Int):=by unfold natI;rw[B6,h];rfl
theorem qaF {l:List Nat} {i:Nat} {z:Int} (h:(natI l)[i]?=some z):∃b:Nat,l[i]?=some b/\z=(b:Int):=by
 unfold natI at h;rw[B6] at h;cases e:l[i]? with
 |none=>rw[e] at h;cases h
 |some b=>rw[e] at h;cases h;exact⟨b,rfl,rfl⟩
def qYW:Sp:=λvs H Q _=>∃(a:Addr) (Ae:Aa0) (Aa:Int),vs=[.ref a,.int Aa]/\NetAt H a Ae/\WFn Ae/\Ae.length<=12/\
 ∀(d:Addr) (o:Obj) (ks:List Nat) (f:Nat->Nat) H',Same H H'->H d=none->H' d=some (.frz o (.dK (kvN ks f)))->Come Ae Aa ks f->Q (.ref d) H'
def qYX:Sp:=λvs H Q _=>∃(l:Addr) (ws:List Int),vs=[.ref l]/\H l=some (.lst (ws.map V.int))/\(∀x∈ws,0<=x/\x<1000)/\ws.length<=1000/\∀H',Same H H'->Q (.int ((mskN ws:Nat):Int)) H'
def qQA:Sp:=λvs H Q _=>∃(a t:Addr) (Ae:Aa0) (Ad ws:List Int) (Aa:Int),vs=[.ref a,.ref t,.int Aa]/\NetAt H a Ae/\WFn Ae/\Ae.length<=12/\qG3 H t Ae Ad/\qB5 Ae Ad ws/\∀b H',Same H H'->(b=true↔qEJ Ae ws Ad Aa)->Q (.bl b) H'
def qQ7:Sp:=λvs H Q _=>∃(a t:Addr) (Ae:Aa0) (Ad ws:List Int) (r:Int),vs=[.ref a,.ref t]/\NetAt H a Ae/\WFn Ae/\Ae.length<=12/\qG3 H t Ae Ad/\qB5 Ae Ad ws/\LeastR Ae ws Ad r/\∀H',Same H H'->Q (.int r) H'
theorem qUM {k:Nat} :∀{st:List Int},(∀x∈st,(k:Int)<=x)->∃a,mskN st=2^k*a
 |[],_=>⟨0,rfl⟩
 |z::st,h=>by
  obtain⟨a,ha⟩:=qUM (st:=st) λx hx=>h x (B9 _ hx);have hz:=h z (by simp)
  refine⟨2^(z.toNat-k)+a,?_⟩;show 2^z.toNat+mskN st=_;rw[ha,j7,<- Nat.pow_add,show k+(z.toNat-k)=z.toNat by lia]
theorem qLV:∀{st:List Int},st.Pairwise (·<·)->(∀x∈st,0<=x)->∀j:Nat,(mskN st).testBit j=decide ((j:Int)∈st)
 |[],_,_,j=>by show(0:Nat).testBit j=_;simp
 |z::st,up,nn,j=>by
  have up':=Q4.mp up;have hz:=nn z (by simp)
  obtain⟨a,ha⟩:=qUM (k:=z.toNat+1) (st:=st) λx hx=>by have:=up'.1 x hx;lia
  have ih:=qLV up'.2 (λx hx=>nn x (B9 _ hx)) j;have e:mskN (z::st)=2^(z.toNat+1)*a+2^z.toNat:=by show 2^z.toNat+mskN st=_;rw[ha,A00]
  rw[e,Nat.testBit_two_pow_mul_add a (A70 (by decide) (by lia)) j]
  by_cases c:j<z.toNat+1
  ·rw[if_pos c,Z7];refine decide_eq_decide.mpr ⟨λh=>?_,λh=>?_⟩
   ·rw[B7];left;lia
   ·rcases B7.mp h with h|h
    ·lia
    ·have:=up'.1 _ h;lia
  ·rw[if_neg c];rw[ha,Nat.testBit_two_pow_mul] at ih;have:decide (j>=z.toNat+1)=true:=decide_eq_true (by lia)
   rw[this,o8] at ih;rw[ih];refine decide_eq_decide.mpr ⟨λh=>B9 _ h,λh=>?_⟩;rcases B7.mp h with h|h
   ·lia
   ·exact h
theorem Rise.nn {n:Int} {st:List Int} (r:Rise n st):∀x∈st,0<=x:=λx a=>(r.in_ x a).1
theorem qBS {n:Int} {st:List Int} (r:Rise n st)(j:Nat):(mskN st).testBit j=decide ((j:Int)∈st):=qLV r.up r.nn j
theorem qUN {n:Int} {st a:List Int} (r:Rise n st)(c:Rise n a)(h:mskN st=mskN a):st=a:=by
 refine qTA r.up c.up λx=>?_
 constructor
 ·intro b;have e:=qBS r x.toNat;rw[h,qBS c x.toNat] at e;have d:=r.nn x b;rw[show((x.toNat:Nat):Int)=x by lia,decide_eq_true b] at e
  exact of_decide_eq_true e
 ·intro b;have e:=qBS r x.toNat;rw[h,qBS c x.toNat] at e;have d:=c.nn x b;rw[show((x.toNat:Nat):Int)=x by lia,decide_eq_true b] at e
  exact of_decide_eq_true e.symm
theorem qPY (b k:Nat):b/2^k%2=if b.testBit k=true then 1 else 0:=by
 rw[Nat.testBit_eq_decide_div_mod_eq];by_cases h:b/2^k%2=1
 ·rw[decide_eq_true h,if_pos rfl,h]
 ·rw[decide_eq_false h,if_neg B4]
  lia
theorem qXQ {a b:List Int} (h:a.Perm b):mskN a=mskN b:=by
 induction h with
 |nil=>rfl
 |cons x _ ih=>show 2^x.toNat+mskN _=2^x.toNat+mskN _;rw[ih]
 |swap x y l=>show 2^y.toNat+(2^x.toNat+mskN l)=2^x.toNat+(2^y.toNat+mskN l);lia
 |trans _ _ h1 h2=>exact h1.trans h2
theorem qJF {st:List Int} (a:st.Nodup){k:Int}(h:k∈st):st.Perm (k::st.filter λx=>decide (x≠k)):=by
 have e:(st.filter λx=>decide (x≠k))=st.erase k:=by
  rw[a.erase_eq_filter];exact B14 λx _=>by simp[bne,BEq.beq]
 rw[e];exact List.perm_cons_erase h
theorem qPT {n:Int} {st:List Int} (r:Rise n st)(k:Nat):clrb (mskN st) k=mskN (st.filter λx=>decide (x≠(k:Int))):=by
 unfold clrb;rw[qPY,qBS r];by_cases h:(k:Int)∈st
 ·rw[decide_eq_true h,if_pos rfl,Nat.mul_one,qXQ (qJF r.nodup h)];show 2^((k:Int)).toNat+mskN _-_=_;rw[D9,A29]
 ·rw[decide_eq_false h,if_neg B4,Nat.mul_zero,l9];congr 1;exact(u8.mpr λx a=>by rw[decide_eq_true_eq];intro e;exact h (e▸a)).symm
theorem qJW {n:Int} {st ns:List Int} (r:Rise n st)(a:Rise n ns):mskN st &&& mskN ns=mskN ns↔∀y∈ns,y∈st:=by
 constructor
 ·intro h y d;have e:=congrArg (λb=>Nat.testBit b y.toNat) h;simp only[u9,qBS r,qBS a] at e;have f:=a.nn y d;rw[show((y.toNat:Nat):Int)=y by lia,decide_eq_true d,Bool.and_true] at e
  exact of_decide_eq_true e
 ·intro h;refine Q8 λj=>?_;rw[u9,qBS r,qBS a];by_cases c:(j:Int)∈ns
  ·rw[decide_eq_true c,decide_eq_true (h _ c)];rfl
  ·rw[decide_eq_false c,k7]
noncomputable def insL:List Int->Int->List Int
 |[],k=>[k]
 |x::r,k=>if k<x then k::x::r else x::insL r k
theorem qEX:∀(st:List Int) (k:Int),(insL st k).Perm (st++[k])
 |[],k=>.refl _
 |x::r,k=>by
  unfold insL
  split
  ·exact(A49 (l₁:=x::r) (l₂:=[k])).symm
  ·exact(qEX r k).cons x
theorem mem_insL {st:List Int} {k x:Int} :x∈insL st k↔x∈st\/x=k:=by
 rw[(qEX st k).mem_iff,B0,A7]
theorem qV7:∀{st:List Int} {k:Int},st.Pairwise (·<=·)->(insL st k).Pairwise (·<=·)
 |[],k,_=>by simp[insL]
 |x::r,k,h=>by
  have h':=Q4.mp h;unfold insL
  split
  ·rename_i c
   refine Q4.mpr ⟨λy hy=>?_,h⟩;rcases B7.mp hy with e|e
   ·lia
   ·have:=h'.1 y e;lia
  ·rename_i c
   refine Q4.mpr ⟨λy hy=>?_,qV7 h'.2⟩;rcases mem_insL.mp hy with e|e
   ·exact h'.1 y e
   ·lia
theorem qRC (st:List Int)(k:Int):(insL st k).length=st.length+1:=by rw[(qEX st k).length_eq,A8];rfl
noncomputable def behL (st:List Int) (m:Mv):List Int:=if m.1=D0 "do" then insL st m.2 else st.filter λx=>decide (x≠m.2)
theorem qRQ {n:Int} {st:List Int} {m:Mv} (r:Rise n st) (a:m.1 = "do"\/m.1 = "clear"):Beh st (behL st m) m.1 m.2:=by
 refine⟨λe=>?_,λe=>?_⟩
 ·unfold behL;rw[if_pos e];exact⟨qEX _ _,qV7 (r.up.imp λh=>A01 h)⟩
 ·unfold behL;rw[if_neg (λz=>by rw[e] at z;exact qAK z)]
theorem qZM {n:Int} {st a:List Int} {m:Mv} (r:Rise n st) (b:m.1 = "do"\/m.1 = "clear") (h:Beh st a m.1 m.2):a=behL st m:=Beh.one b h (qRQ r b)
theorem qZ4 {n:Int} {st:List Int} (r:Rise n st){k:Nat}(b:(k:Int)∉st)(a:Rise n (insL st (k:Int))):mskN st ||| 2^k=mskN (insL st (k:Int)):=by
 refine Q8 λj=>?_;rw[A77,qBS r,qBS a,Z7,O1,c5,decide_eq_true_eq,decide_eq_true_eq,decide_eq_true_eq,mem_insL]
 constructor
 ·rintro(h|h)
  ·exact .inl h
  ·exact .inr (by lia)
 ·rintro(h|h)
  ·exact .inl h
  ·exact .inr (by lia)
theorem qIK (p:Nat->Bool):∀l:List Nat,(l.map λk=>if p k=true then 1 else 0).sum=(l.filter p).length
 |[]=>rfl
 |k::l=>by
  rw[C7,p9,qIK p l,P5];cases p k
  ·simp
  ·simp;lia
theorem qW3 {n:Nat} {st:List Int} (r:Rise (n:Int) st):cntN n (mskN st)=st.length:=by
 unfold cntN;have e:((E6 n).map λk=>mskN st/2^k%2)=(E6 n).map λ(k:Nat)=>if(decide ((k:Int)∈st))=true then 1 else 0:=W4 λk _=>by rw[qPY,qBS r]
 rw[e,qIK (λ(k:Nat)=>decide ((k:Int)∈st))];have c:(((E6 n).filter λ(k:Nat)=>decide ((k:Int)∈st)).map λ(k:Nat)=>(k:Int))=st:=by
  refine qTA ?_ r.up λx=>?_
  ·refine J4.mpr ?_;exact(T1.filter _).imp λh=>by lia
  ·rw[D4]
   constructor
   ·rintro⟨k,b,rfl⟩;exact of_decide_eq_true (E4.mp b).2
   ·intro a;have d:=r.in_ x a;exact⟨x.toNat,E4.mpr ⟨D6.mpr (by lia),decide_eq_true (by rw[show((x.toNat:Nat):Int)=x by lia];exact a)⟩,by lia⟩
 have:=congrArg V6 c
 rwa[A0] at this
section
variable{Ae:Aa0}{Aa:Int}
theorem due_iff {st:List Int} {m:Mv} :m∈qDH Ae st Aa↔((m.1 = "do"\/m.1 = "clear")/\0<=m.2/\m.2<(Ae.length:Int))/\(m.1 = "do"->m.2∉st/\(∀y∈nd Ae m.2,y∈st)/\(st.length:Int)<Aa)/\(m.1 = "clear"->m.2∈st):=by
 unfold qDH;rw[E4,decide_eq_true_eq]
 constructor
 ·rintro⟨g,d⟩;have a:=qRJ g;exact⟨a,qYO a.1 d⟩
 ·rintro⟨⟨g,d,h⟩,j,i⟩;obtain⟨k,f⟩:=m;refine⟨?_,?_⟩
  ·unfold qK9 qHX;rw[B0,D4,D4];rcases g with e|e
   ·exact .inl ⟨f.toNat,D6.mpr (by dsimp only at d h;lia),by dsimp only at e d ⊢;rw[e];congr 1;lia⟩
   ·exact .inr ⟨f.toNat,D6.mpr (by dsimp only at d h;lia),by dsimp only at e d ⊢;rw[e];congr 1;lia⟩
  ·show qCB _ st Aa k f=.non;unfold qCB;rcases g with e|e
   ·obtain⟨a,b,c⟩:=j e;dsimp only at e;rw[if_pos e];unfold qCY;rw[if_neg a,if_pos (show∀y∈(Ae[f.toNat]?).getD [],y∈st from b),if_neg (by lia)]
   ·have a:=i e;dsimp only at e;rw[if_neg (λz=>by rw[e] at z;exact qAK z)]
    unfold qCO;rw[if_pos a]
inductive Pt (Ae:Aa0)(Aa:Int):Nat->List Int->Prop
 |zero:Pt Ae Aa 0 []
 |step {t:Nat} {st:List Int} {m:Mv}:Pt Ae Aa t st->m∈qDH Ae st Aa->Pt Ae Aa (t+1) (behL st m)
theorem Pt.rise {t:Nat} {st:List Int} (h:Pt Ae Aa t st):Rise (Ae.length:Int) st:=by
 induction h with
 |zero=>exact .nil
 |step _ hm ih=>
  obtain⟨⟨a,b,c⟩,d,e⟩:=due_iff.mp hm;exact qRP ih a b c (λz=>(d z).1) (qRQ ih a)
theorem qJU {st:List Int} (r:Rise (Ae.length:Int) st) {m:Mv} (f:m∈qDH Ae st Aa):(m.1 = "do"/\(behL st m).length=st.length+1)\/(m.1 = "clear"/\(behL st m).length+1=st.length):=by
 obtain⟨⟨a,b,c⟩,d,e⟩:=due_iff.mp f;rcases a with a|a
 ·refine .inl ⟨a,?_⟩;unfold behL;rw[if_pos a,qRC]
 ·refine .inr ⟨a,?_⟩;unfold behL;rw[if_neg (λz=>by rw[a] at z;exact qAK z)]
  have:=(qJF r.nodup (e a)).length_eq;rw[D3] at this
  lia
theorem qUJ (a:WFn Ae){w:Int}(h:w<(Ae.length:Int)):Rise (Ae.length:Int) (nd Ae w):=by
 by_cases b:0<=w
 ·exact(qJ2 a w.toNat).mono (by lia)
 ·have:=qJ2 a w.toNat;rw[show w.toNat=0 by lia] at this
  unfold nd;rw[show w.toNat=0 by lia]
  exact this.mono (by lia)
theorem Pt.bits (s:WFn Ae){t:Nat}{st:List Int}(h:Pt Ae Aa t st):∃m,2*m=t+st.length/\Rm Ae Aa m (mskN st):=by
 induction h with
 |zero=>exact⟨0,rfl,.zero⟩
 |@step t st m h hm ih=>
  obtain⟨d,e,R⟩:=ih;have r:=h.rise;have i:=(Pt.step h hm).rise;obtain⟨⟨a,b,c⟩,n,u⟩:=due_iff.mp hm;have f:((m.2.toNat:Nat):Int)=m.2:=by lia
  rcases qJU r hm with⟨w,l⟩|⟨w,l⟩
  ·refine⟨d+1,by lia,?_⟩
   obtain⟨j,p,q⟩:=n w;have g:behL st m=insL st m.2:=by unfold behL;rw[if_pos w]
   rw[g] at i ⊢;have:=qZ4 (k:=m.2.toNat) r (by rw[f];exact j) (by rw[f];exact i)
   rw[f] at this;rw[<- this];refine .do_ R ⟨by rw[qW3 r];exact q,by lia,?_⟩
   have o:Rise (Ae.length:Int) (nd Ae m.2):=qUJ s c;exact(qJW r o).mpr p
  ·refine⟨d,by lia,?_⟩
   have g:behL st m=st.filter λx=>decide (x≠m.2):=by unfold behL;rw[if_neg (λz=>by rw[w] at z;exact qAK z)]
   rw[g];have:=qPT r m.2.toNat;rw[f] at this;rw[<- this];exact .clr R (by lia)
theorem qaB {b k:Nat} (h:b.testBit k=true):b ||| 2^k=b:=by
 refine Q8 λj=>?_;rw[A77,Z7];by_cases e:k=j
 ·subst e;simp[h]
 ·simp[e]
theorem Rm.path (q:WFn Ae){m b:Nat}(h:Rm Ae Aa m b):∃st t,b=mskN st/\Pt Ae Aa t st/\t+st.length<=2*m:=by
 induction h with
 |zero=>exact⟨[],0,rfl,.zero,by simp⟩
 |@clr m b k _ hk ih=>
  obtain⟨st,t,rfl,P,l⟩:=ih;have r:=P.rise;by_cases c:(k:Int)∈st
  ·have a:((D0 "clear",(k:Int)):Mv)∈qDH Ae st Aa:=due_iff.mpr ⟨⟨.inr rfl,by show(0:Int)<=(k:Int);lia,by show(k:Int)<_;lia⟩,λz=>absurd z qAK,λ_=>c⟩
   refine⟨_,t+1,?_,.step P a,?_⟩
   ·rw[qPT r];unfold behL;rw[if_neg qAK]
   ·rcases qJU r a with⟨w,_⟩|⟨_,u⟩
    ·exact absurd w qAK
    ·lia
  ·refine⟨st,t,?_,P,l⟩;rw[qPT r];congr 1;exact u8.mpr λx n=>by rw[decide_eq_true_eq];intro e;exact c (e▸n)
 |@do_ m b k _ hc ih=>
  obtain⟨st,t,rfl,P,l⟩:=ih;have r:=P.rise;by_cases c:(k:Int)∈st
  ·exact⟨st,t,qaB (by rw[qBS r];exact decide_eq_true c),P,by lia⟩
  ·obtain⟨g,s,j⟩:=hc;rw[qW3 r] at g;have o:Rise (Ae.length:Int) (nd Ae (k:Int)):=qUJ q (by lia)
   have p:nxt Ae k=mskN (nd Ae (k:Int)):=by unfold nxt nd;rw[D9]
   rw[p] at j;have a:((D0 "do",(k:Int)):Mv)∈qDH Ae st Aa:=due_iff.mpr ⟨⟨.inl rfl,by show(0:Int)<=(k:Int);lia,by show(k:Int)<_;lia⟩,λ_=>⟨c,(qJW r o).mp j,g⟩,λz=>absurd z.symm qAK⟩
   have f:=Pt.step P a;have i:behL st ((D0 "do",(k:Int)):Mv)=insL st (k:Int):=by unfold behL;rw[if_pos rfl]
   refine⟨_,t+1,?_,f,?_⟩
   ·have d:=f.rise;rw[i] at d ⊢;exact qZ4 r c d
   ·rw[i,qRC]
    lia
def Mt (Ae:Aa0)(Aa:Int)(t:Nat)(st:List Int):Prop:=Pt Ae Aa t st/\∀u,u<t->¬Pt Ae Aa u st
theorem Mt.one {t u:Nat} {st:List Int} (h:Mt Ae Aa t st)(h':Mt Ae Aa u st):t=u:=by
 rcases j9 t u with c|c|c
 ·exact absurd h.1 (h'.2 t c)
 ·exact c
 ·exact absurd h'.1 (h.2 u c)
structure BF (Ae:Aa0)(Aa:Int)(t:Nat)(ks due ly:Aa0)(f:List Int->Nat)(i k:Nat):Prop where
 nd:ks.Nodup
 snd:∀s∈ks,∃u,u<=t+1/\Mt Ae Aa u s/\2*f s=u+s.length
 full:∀u s,u<=t->Pt Ae Aa u s->s∈ks
 duem:∀s,s∈due↔Mt Ae Aa t s
 lym:∀s,s∈ly↔s∈ks/\Mt Ae Aa (t+1) s
 done:∀j s,due[j]?=some s->j<i->∀m∈qDH Ae s Aa,behL s m∈ks
 dk:∀s,due[i]?=some s->∀m∈(qDH Ae s Aa).take k,behL s m∈ks
theorem BF.start:BF Ae Aa 0 [[]] [[]] [] (λ_=>0) 0 0:=by
 have z:∀s,Pt Ae Aa 0 s->s=[]:=λs h=>by cases h;rfl
 have a:Mt Ae Aa 0 []:=⟨.zero,λu b=>absurd b (J5 _)⟩;refine⟨by simp,λs f=>?_,λu s b p=>?_,λs=>?_,λs=>?_,λj s _ c=>absurd c (J5 _),λs _ m d=>by simp at d⟩
 ·rw[A7.mp f];exact⟨0,by lia,a,rfl⟩
 ·have:u=0:=by lia
  subst this;rw[z s p];simp
 ·rw[A7];exact⟨λe=>e▸a,λh=>z s h.1⟩
 ·constructor
  ·intro h;cases h
  ·rintro⟨h,m⟩;rw[A7.mp h] at m;exact absurd (Mt.one m a) (by lia)
section
variable{t:Nat}{ks due ly:Aa0}{f:List Int->Nat}{i k:Nat}
theorem BF.hit (h:BF Ae Aa t ks due ly f i k){s:List Int}{m:Mv}(b:due[i]?=some s)(d:(qDH Ae s Aa)[k]?=some m)(c:behL s m∈ks):BF Ae Aa t ks due ly f i (k+1):=by
 refine⟨h.nd,h.snd,h.full,h.duem,h.lym,h.done,λj e g a=>?_⟩;rw[b] at e;cases e;rw[C9,d,D2,B0,A7] at a;rcases a with z|z
 ·exact h.dk s b g z
 ·rw[z];exact c
noncomputable def qHY (f:List Int->Nat)(x:List Int)(v:Nat):List Int->Nat:=λy=>if y=x then v else f y
theorem qKV (f:List Int->Nat)(x:List Int)(v:Nat):qHY f x v x=v:=if_pos rfl
theorem qI9 {f:List Int->Nat} {x y:List Int} {v:Nat} {ks:Aa0} (h:y∈ks)(a:x∉ks):qHY f x v y=f y:=if_neg λe=>a (by rw[<- e];exact h)
theorem qIN {ks:Aa0} {x:List Int} (f:ks.Nodup)(h:x∉ks):(ks++[x]).Nodup:=by
 rw[B13];exact⟨f,by simp,λa c b d e=>h (by rw[A7.mp d] at e;exact e▸c)⟩
theorem BF.val (h:BF Ae Aa t ks due ly f i k){s:List Int}(c:s∈due):s∈ks/\2*f s=t+s.length:=by
 have m:=(h.duem s).mp c;have a:=h.full t s (A6 _) m.1;obtain⟨u,_,b,e⟩:=h.snd s a;rw[Mt.one b m] at e;exact⟨a,e⟩
theorem BF.add (h:BF Ae Aa t ks due ly f i k){s:List Int}{m:Mv}(d:due[i]?=some s)(r:(qDH Ae s Aa)[k]?=some m)(g:behL s m∉ks):
  BF Ae Aa t (ks++[behL s m]) due (ly++[behL s m]) (qHY f (behL s m) (f s+if m.1=D0 "do" then 1 else 0)) i (k+1):=by
 have b:=B5 d;have v:=(h.duem s).mp b;obtain⟨y,ev⟩:=h.val b;have n:=B5 r;have q:Mt Ae Aa (t+1) (behL s m):=⟨.step v.1 n,λu o p=>g (h.full u _ (by lia) p)⟩
 refine⟨qIN h.nd g,λx hx=>?_,λu x o p=>B0.mpr (.inl (h.full u x o p)),h.duem,λx=>?_,λj x e hj c a=>B0.mpr (.inl (h.done j x e hj c a)),λx e c a=>?_⟩
 ·rcases B0.mp hx with z|z
  ·rw[qI9 z g];exact h.snd x z
  ·rw[A7.mp z,qKV];refine⟨t+1,A6 _,q,?_⟩;rcases qJU v.1.rise n with⟨w,l⟩|⟨w,l⟩
   ·rw[if_pos w];lia
   ·rw[if_neg (λz=>by rw[w] at z;exact qAK z)];lia
 ·rw[B0,B0,A7,h.lym x]
  constructor
  ·rintro(z|z)
   ·exact⟨.inl z.1,z.2⟩
   ·exact⟨.inr z,z▸q⟩
  ·rintro⟨z|z,e⟩
   ·exact .inl ⟨z,e⟩
   ·exact .inr z
 ·rw[d] at e;cases e;rw[C9,r,D2,B0,A7] at a;rcases a with z|z
  ·exact B0.mpr (.inl (h.dk s d c z))
  ·rw[z];simp
theorem BF.next (h:BF Ae Aa t ks due ly f i k){s:List Int}(b:due[i]?=some s)(d:(qDH Ae s Aa).length<=k):BF Ae Aa t ks due ly f (i+1) 0:=by
 refine⟨h.nd,h.snd,h.full,h.duem,h.lym,λj x e g m a=>?_,λs _ m a=>by simp at a⟩
 by_cases c:j=i
 ·subst c;rw[b] at e;cases e;exact h.dk s b m (by rw[C6 d];exact a)
 ·exact h.done j x e (by lia) m a
theorem BF.level (h:BF Ae Aa t ks due ly f i k)(hi:due.length<=i):BF Ae Aa (t+1) ks ly [] f 0 0:=by
 have full:∀u s,u<=t+1->Pt Ae Aa u s->s∈ks:=λu s g p=>by
  cases p with
  |zero=>exact h.full 0 [] (by lia) .zero
  |@step u st m p hm=>
   have b:=h.full u st (by lia) p
   obtain⟨v,q,a,_⟩:=h.snd st b;have l:v<=u:=by
    apply G4;intro z;exact a.2 u (by lia) p
   by_cases e:v=t
   ·subst e;obtain⟨j,c,o⟩:=L6 ((h.duem st).mpr a);exact h.done j st (by rw[A4 c,o]) (by lia) m hm
   ·exact h.full (v+1) _ (by lia) (.step a.1 hm)
 refine⟨h.nd,λs d=>?_,full,λs=>?_,λs=>?_,λj s _ c=>absurd c (J5 _),λs _ m hm=>by simp at hm⟩
 ·obtain⟨u,g,r⟩:=h.snd s d;exact⟨u,by lia,r⟩
 ·rw[h.lym s];exact⟨λz=>z.2,λz=>⟨full _ _ (A6 _) z.1,z⟩⟩
 ·constructor
  ·intro z;cases z
  ·rintro⟨d,m⟩;obtain⟨u,g,n,_⟩:=h.snd s d;exact absurd (Mt.one n m) (by lia)
structure Rch (Ae:Aa0)(Aa:Int)(ks:Aa0)(f:List Int->Nat):Prop where
 nd:ks.Nodup
 snd:∀s∈ks,∃u,Mt Ae Aa u s/\2*f s=u+s.length
 all:∀u s,Pt Ae Aa u s->s∈ks
theorem BF.rch (h:BF Ae Aa t ks [] [] f i k):Rch Ae Aa ks f:=by
 have d:∀s∈ks,∃u,u<t/\Mt Ae Aa u s:=λs a=>by
  obtain⟨u,m,b,_⟩:=h.snd s a;have g:u≠t:=λe=>nomatch(h.duem s).mpr (e▸b);have j:u≠t+1:=λe=>nomatch(h.lym s).mpr ⟨a,e▸b⟩;exact⟨u,by lia,b⟩
 refine⟨h.nd,λs a=>let⟨u,_,r⟩:=h.snd s a;⟨u,r⟩,λu s p=>?_⟩
 induction p with
 |zero=>exact h.full 0 [] (by lia) .zero
 |step p hm ih=>
  obtain⟨v,l,c⟩:=d _ ih;exact h.full (v+1) _ (by lia) (.step c.1 hm)
theorem BF.len (h:BF Ae Aa t ks due ly f i k):ks.length<=2^Ae.length:=by
 have c:∀s∈ks,Rise (Ae.length:Int) s:=λs d=>let⟨_,_,m,_⟩:=h.snd s d;m.1.rise
 have nd:(ks.map mskN).Nodup:=by
  refine J4.mpr (h.nd.imp_of_mem λ{a b} o g l e=>l (qUN (c a o) (c b g) e))
 have:=qE3 (n:=2^Ae.length) nd λb g=>by
  obtain⟨s,d,rfl⟩:=D4.mp g;refine A11 _ λj p=>?_;rw[qBS (c s d)];refine decide_eq_false λz=>?_;have:=((c s d).in_ _ z).2
  lia
 rwa[A0] at this
end
theorem Rch.le {ks:Aa0} {f:List Int->Nat} (h:Rch Ae Aa ks f){s:List Int}(a:s∈ks){t:Nat}(p:Pt Ae Aa t s):2*f s<=t+s.length:=by
 obtain⟨u,m,e⟩:=h.snd s a;have:u<=t:=by
  apply G4;intro z;exact m.2 t (by lia) p
 lia
end
theorem _root_.L2.lm_hu {X:Cx} {a:Scope} {p:Str} {fv:List Nat} {q:Str} (z:LmZ):(lmCx X a p fv q z).A.units+1<cLine:=by
 have:=z.rm.un;show z.A.units+3+1<cLine
 lia
theorem _root_.L2.hu2_of {k:Nat} (a:Room k A):A.in1.units+1<cLine:=by
 have:=a.units;show A.units+1+1<cLine
 lia
noncomputable def keyS (s:List Int):List Key:=s.map E8
theorem qDE (s:List Int):(keyS s).map kV=s.map V.int:=by unfold keyS;rw[k9];rfl
theorem qI7 {s c:List Int} (h:keyS s=keyS c):s=c:=by
 unfold keyS at h;exact List.map_inj_right (λa b e=>f9 e) |>.mp h
def Val3 (H:Hp)(v:V)(n:Nat):Prop:=∃r x y,v=.ref r/\H r=some (.tup [.int (n:Int),x,y])
theorem Val3.same {H H':Hp} {v:V} {n:Nat} (h:Val3 H v n)(a:Same H H'):Val3 H' v n:=let⟨r,x,y,e,g⟩:=h;⟨r,x,y,e,a _ _ g⟩
def Ent (H:Hp)(Af:List (List Key×V))(ks:Aa0)(f:List Int->Nat):Prop:=Paired (λ(kv:List Key×V) s=>kv.1=keyS s/\Val3 H kv.2 (f s)) Af ks
section
variable{H H':Hp}{Af:List (List Key×V)}{ks:Aa0}{f:List Int->Nat}
theorem Ent.same (h:Ent H Af ks f)(a:Same H H'):Ent H' Af ks f:=Paired.mapP h λ_ _ z=>⟨z.1,z.2.same a⟩
theorem Ent.val:∀{Af:List (List Key×V)} {ks:Aa0},Ent H Af ks f->∀{s:List Int},s∈ks->∃v,valV Af (keyS s)=some v/\Val3 H v (f s)
 |_,_,.nil,s,hs=>nomatch hs
 |_,_,.cons (a:=kv) (b:=s0) ⟨e,v3⟩ t,s,hs=>by
  by_cases c:s0=s
  ·subst c;exact⟨kv.2,qBQ e,v3⟩
  ·rw[qBR (λz=>c (qI7 (e.symm.trans z)))];exact Ent.val t ((B7.mp hs).resolve_left λz=>c z.symm)
theorem Ent.none:∀{Af:List (List Key×V)} {ks:Aa0},Ent H Af ks f->∀{s:List Int},s∉ks->valV Af (keyS s)=none
 |_,_,.nil,s,hs=>rfl
 |_,_,.cons (a:=kv) (b:=s0) ⟨e,v3⟩ t,s,hs=>by
  rw[qBR (λz=>hs (by rw[qI7 (e.symm.trans z)];simp))]
  exact Ent.none t λz=>hs (B9 _ z)
theorem Ent.len (h:Ent H Af ks f):Af.length=ks.length:=C2 h
end
def StL (H:Hp)(rs:List Addr)(ss:Aa0):Prop:=Paired (λ(r:Addr) (s:List Int)=>H r=some (.tup (s.map V.int))) rs ss
theorem StL.same {H H':Hp} {b:List Addr} {a:Aa0} (h:StL H b a)(c:Same H H'):StL H' b a:=Paired.mapP h λ_ _ z=>c _ _ z
theorem StL.put {H:Hp} {b:List Addr} {a:Aa0} {d:Addr} {o u:HO} (h:StL H b a)(c:H d=some o)(f:∀xs,o≠.tup xs):StL (Ag H d u) b a:=Paired.mapP h λr s z=>by
 rw[qA8 (qCA z c λe=>f _ e.symm)];exact z
theorem StL.snoc {H:Hp} {c:List Addr} {b:Aa0} {r:Addr} {s:List Int} (h:StL H c b)(g:H r=some (.tup (s.map V.int))):StL H (c++[r]) (b++[s]):=by
 induction h with
 |nil=>exact .cons g .nil
 |cons a _ ih=>exact .cons a ih
theorem MovL.putG {H:Hp} {b:List Addr} {a:List Mv} {d:Addr} {o u:HO} (h:MovL H b a)(c:H d=some o)(f:∀xs,o≠.tup xs):MovL (Ag H d u) b a:=Paired.mapP h λr s z=>by
 rw[qA8 (qCA z c λe=>f _ e.symm)];exact z
theorem qH7:∀a b c:List Int,HT.lexLt a b=false->HT.lexLt b c=false->HT.lexLt a c=false
 |[],[],c,_,h=>h
 |[],_::_,c,h,_=>by cases h
 |x::a,[],[],_,_=>rfl
 |x::a,[],_::_,_,h=>by cases h
 |x::a,y::b,[],_,_=>rfl
 |x::a,y::b,z::c,h1,h2=>by
  rw[HT.lexLt_cons] at h1 h2 ⊢;by_cases e1:x=y
  ·subst e1;rw[if_pos rfl] at h1;by_cases e2:x=z
   ·rw[if_pos e2] at h2 ⊢;exact qH7 a b c h1 h2
   ·rw[if_neg e2] at h2 ⊢;exact h2
  ·rw[if_neg e1] at h1;have h1:=of_decide_eq_false h1;by_cases e2:y=z
   ·subst e2;rw[if_neg e1];exact decide_eq_false h1
   ·rw[if_neg e2] at h2;have h2:=of_decide_eq_false h2;rw[if_neg (by lia)]
    exact decide_eq_false (by lia)
theorem qR5:∀a b:List Int,HT.lexLt a b=true->HT.lexLt b a=false
 |[],[],_=>rfl
 |[],_::_,_=>rfl
 |_::_,[],h=>by cases h
 |x::a,y::b,h=>by
  rw[HT.lexLt_cons] at h ⊢;by_cases e:x=y
  ·subst e;rw[if_pos rfl] at h ⊢;exact qR5 a b h
  ·rw[if_neg e] at h;have h:=of_decide_eq_true h;rw[if_neg (by lia)]
   exact decide_eq_false (by lia)
theorem qIV:∀(r:List (V×List Int)) (b:V×List Int),∃k,(qEK b r,k)∈b::r/\∀q∈b::r,HT.lexLt q.2 k=false
 |[],b=>⟨b.2,by simp[qEK],λq hq=>by rw[A7.mp hq];exact qPA _⟩
 |x::r,b=>by
  by_cases e:HT.lexLt x.2 b.2=true
  ·obtain⟨k,h1,h2⟩:=qIV r x;have ep:qEK b (x::r)=qEK x r:=by rw[qEK,if_pos e]
   rw[ep];refine⟨k,B9 _ h1,λq hq=>?_⟩;rcases B7.mp hq with z|z
   ·rw[z];exact qH7 _ _ _ (qR5 _ _ e) (h2 x (by simp))
   ·exact h2 q z
  ·obtain⟨k,h1,h2⟩:=qIV r b;have ep:qEK b (x::r)=qEK b r:=by rw[qEK,if_neg e]
   rw[ep];refine⟨k,?_,λq hq=>?_⟩
   ·rcases B7.mp h1 with z|z
    ·rw[z];simp
    ·exact B9 _ (B9 _ z)
   ·rcases B7.mp hq with z|z
    ·exact h2 q (by rw[z];simp)
    ·rcases B7.mp z with z|z
     ·rw[z];exact qH7 _ _ _ (F7.mpr e) (h2 b (by simp))
     ·exact h2 q (B9 _ z)
def TabB (H:Hp) (Pt:Addr):Prop:=H Pt=some (.tbl (.tab "best_end.<locals>.<lambda>"))
def qTJ (Pt:Addr):Sp:=λvs H Q _=>∃(d t:Addr) (o:Obj) (Af:List (List Key×V)) (ks:Aa0) (f:List Int->Nat) (Ad:List Int),vs=[.ref d,.ref t]/\TabB H Pt/\H d=some (.frz o (.dT Af))/\Ent H Af ks f/\ks.length<=4096/\H t=some (.tup (Ad.map V.int))/\Ad.length<=1000/\
 ∀H',Same H H'->((∀s∈ks,¬ ∀x∈Ad,x∈s)->Q .non H')/\∀r s,H' r=some (.tup (s.map V.int))->s∈ks->(∀x∈Ad,x∈s)->(∀s'∈ks,(∀x∈Ad,x∈s')->f s<=f s')->Q (.ref r) H'
def LB (Ae:Aa0)(Aa:Int)(Ad:List Int):Option Nat->Prop
 |none=>∀m b,Rm Ae Aa m b->¬b &&& mskN Ad=mskN Ad
 |some k=>(∃b,Rm Ae Aa k b/\b &&& mskN Ad=mskN Ad)/\∀m b,Rm Ae Aa m b->b &&& mskN Ad=mskN Ad->k<=m
section
variable{Ae:Aa0}{Aa:Int}{Ad:List Int}
theorem qO7 (k:WFn Ae)(j:Rise (Ae.length:Int) Ad){ks:Aa0}{f:List Int->Nat}(h:Rch Ae Aa ks f){s:List Int}(v:s∈ks)(n:∀x∈Ad,x∈s)(le:∀s'∈ks,(∀x∈Ad,x∈s')->f s<=f s'):LB Ae Aa Ad (some (f s)):=by
 obtain⟨u,m,e⟩:=h.snd s v;obtain⟨d,w,R⟩:=m.1.bits k;have q:d=f s:=by lia
 subst q;refine⟨⟨_,R,(qJW m.1.rise j).mpr n⟩,λy b p o=>?_⟩;obtain⟨i,t,r,P,l⟩:=p.path k;subst r;have g:=h.all t i P;have a:=le i g ((qJW P.rise j).mp o);have c:=h.le g P
 lia
theorem qO8 (i:WFn Ae)(c:Rise (Ae.length:Int) Ad){ks:Aa0}{f:List Int->Nat}(h:Rch Ae Aa ks f)(d:∀s∈ks,¬ ∀x∈Ad,x∈s):LB Ae Aa Ad none:=λm b R e=>by
 obtain⟨a,t,g,P,l⟩:=R.path i;subst g;exact d a (h.all t a P) ((qJW P.rise c).mp e)
theorem qR6 {P:Nat->Prop} :∀n,P n->∃k,P k/\∀m,P m->k<=m:=by
 intro n
 induction n using Nat.strongRecOn with
 |_ n ih=>
  intro h;by_cases c:∃m,m<n/\P m
  ·obtain⟨m,a,d⟩:=c;exact ih m a d
  ·exact⟨n,h,λm b=>Z3 λz=>c ⟨m,z,b⟩⟩
theorem qe7 (Ae:Aa0)(Aa:Int)(Ad:List Int):∃o,LB Ae Aa Ad o:=by
 by_cases c:∃m b,Rm Ae Aa m b/\b &&& mskN Ad=mskN Ad
 ·obtain⟨m,b,R,e⟩:=c;obtain⟨k,⟨a,f,d⟩,l⟩:=qR6 (P:=λm=>∃b,Rm Ae Aa m b/\b &&& mskN Ad=mskN Ad) m ⟨b,R,e⟩;exact⟨some k,⟨a,f,d⟩,λm b R e=>l m ⟨b,R,e⟩⟩
 ·exact⟨none,λm b R e=>c ⟨m,b,R,e⟩⟩
noncomputable def lstO (Ae:Aa0)(Aa:Int)(Ad:List Int):Option Nat:=B33 (qe7 Ae Aa Ad)
noncomputable def upS (Ae:Aa0)(Ad:List Int)(r:Nat):List (Nat×Nat):=(E6 r).filterMap λi=>(lstO Ae ((i+1:Nat):Int) Ad).map λk=>(i+1,k)
end
theorem Rch.len {Ae:Aa0} {Aa:Int} {ks:Aa0} {f:List Int->Nat} (h:Rch Ae Aa ks f):ks.length<=2^Ae.length:=by
 have c:∀s∈ks,Rise (Ae.length:Int) s:=λs d=>let⟨_,m,_⟩:=h.snd s d;m.1.rise
 have nd:(ks.map mskN).Nodup:=J4.mpr (h.nd.imp_of_mem λ{a b} k g i e=>i (qUN (c a k) (c b g) e));have:=qE3 (n:=2^Ae.length) nd λb g=>by
  obtain⟨s,d,rfl⟩:=D4.mp g;refine A11 _ λj l=>?_;rw[qBS (c s d)];refine decide_eq_false λz=>?_;have:=((c s d).in_ _ z).2
  lia
 rwa[A0] at this
def qQ8 (K:Ab1)(Pt:Addr):Sp:=λvs H Q E=>TabB H Pt/\qdO K vs H Q E
abbrev Prv:=Option (List Int×Mv)
def ValX (H:Hp)(v:V)(n:Nat):Prv->Prop
 |none=>∃r,v=.ref r/\H r=some (.tup [.int (n:Int),.non,.non])
 |some (p,m)=>∃r rp rm,v=.ref r/\H r=some (.tup [.int (n:Int),.ref rp,.ref rm])/\H rp=some (.tup (p.map V.int))/\H rm=some (.tup [.str m.1,.int m.2])
theorem ValX.same {H H':Hp} {v:V} {n:Nat} {o:Prv} (h:ValX H v n o)(a:Same H H'):ValX H' v n o:=by
 cases o with
 |none=>obtain⟨r,e,g⟩:=h;exact⟨r,e,a _ _ g⟩
 |some pm=>obtain⟨r,f,d,e,b,i,c⟩:=h;exact⟨r,f,d,e,a _ _ b,a _ _ i,a _ _ c⟩
theorem ValX.put {H:Hp} {v:V} {n:Nat} {q:Prv} {d:Addr} {o u:HO} (h:ValX H v n q)(b:H d=some o)(a:∀xs,o≠.tup xs):ValX (Ag H d u) v n q:=by
 have k:∀(r:Addr) (xs:List V),H r=some (.tup xs)->(Ag H d u) r=some (.tup xs):=λr xs g=>by
  rw[qA8 (qCA g b λz=>a _ z.symm)];exact g
 cases q with
 |none=>obtain⟨r,e,g⟩:=h;exact⟨r,e,k _ _ g⟩
 |some pm=>obtain⟨r,j,i,e,c,l,f⟩:=h;exact⟨r,j,i,e,k _ _ c,k _ _ l,k _ _ f⟩
theorem ValX.val3 {H:Hp} {v:V} {n:Nat} {o:Prv} (h:ValX H v n o):Val3 H v n:=by
 cases o with
 |none=>obtain⟨r,e,g⟩:=h;exact⟨r,_,_,e,g⟩
 |some pm=>obtain⟨r,a,b,e,g,_⟩:=h;exact⟨r,_,_,e,g⟩
def EntX (H:Hp)(Af:List (List Key×V))(ks:Aa0)(f:List Int->Nat)(g:List Int->Prv):Prop:=Paired (λ(kv:List Key×V) s=>kv.1=keyS s/\ValX H kv.2 (f s) (g s)) Af ks
noncomputable def gset (g:List Int->Prv)(x:List Int)(v:Prv):List Int->Prv:=λy=>if y=x then v else g y
section
variable{H H':Hp}{Af:List (List Key×V)}{ks:Aa0}{f:List Int->Nat}{g:List Int->Prv}
theorem EntX.same (h:EntX H Af ks f g)(a:Same H H'):EntX H' Af ks f g:=Paired.mapP h λ_ _ z=>⟨z.1,z.2.same a⟩
theorem EntX.put {d:Addr} {o u:HO} (h:EntX H Af ks f g)(a:H d=some o)(b:∀xs,o≠.tup xs):EntX (Ag H d u) Af ks f g:=Paired.mapP h λ_ _ z=>⟨z.1,z.2.put a b⟩
theorem EntX.ent (h:EntX H Af ks f g):Ent H Af ks f:=Paired.mapP h λ_ _ z=>⟨z.1,z.2.val3⟩
theorem EntX.val:∀{Af:List (List Key×V)} {ks:Aa0},EntX H Af ks f g->∀{s:List Int},s∈ks->∃v,valV Af (keyS s)=some v/\ValX H v (f s) (g s)
 |_,_,.nil,s,hs=>nomatch hs
 |_,_,.cons (a:=kv) (b:=s0) ⟨e,v3⟩ t,s,hs=>by
  by_cases c:s0=s
  ·subst c;exact⟨kv.2,qBQ e,v3⟩
  ·rw[qBR (λz=>c (qI7 (e.symm.trans z)))];exact EntX.val t ((B7.mp hs).resolve_left λz=>c z.symm)
theorem EntX.snoc (h:EntX H Af ks f g){s:List Int}(c:s∉ks){v:V}{n:Nat}{o:Prv}(e:ValX H v n o):EntX H (putK Af (keyS s) v) (ks++[s]) (qHY f s n) (gset g s o):=by
 rw[qQK v (h.ent.none c)];have d:EntX H Af ks (qHY f s n) (gset g s o):=by
  have:∀{Af:List (List Key×V)} {ks:Aa0},EntX H Af ks f g->s∉ks->EntX H Af ks (qHY f s n) (gset g s o):=by
   intro Af ks h
   induction h with
   |nil=>exactλ_=>.nil
   |@cons kv s0 l1 l2 a t ih=>exactλb=>.cons ⟨a.1,by rw[show qHY f s n s0=f s0 from if_neg λz=>b (by rw[z];simp),show gset g s o s0=g s0 from if_neg λz=>b (by rw[z];simp)];exact a.2⟩ (ih λz=>b (B9 _ z))
  exact this h c
 have:∀{Af:List (List Key×V)} {ks:Aa0},EntX H Af ks (qHY f s n) (gset g s o)->EntX H (Af++[(keyS s,v)]) (ks++[s]) (qHY f s n) (gset g s o):=by
  intro Af ks h
  induction h with
  |nil=>exact .cons ⟨rfl,by rw[show qHY f s n s=n from if_pos rfl,show gset g s o s=o from if_pos rfl];exact e⟩ .nil
  |cons a _ ih=>exact .cons a ih
 exact this d
end
section
variable{Ae:Aa0}{Aa:Int}{ks ks':Aa0}{f f':List Int->Nat}{g g':List Int->Prv}
def Prov (Ae:Aa0)(Aa:Int)(ks:Aa0)(f:List Int->Nat)(g:List Int->Prv):Prop:=
 ∀s∈ks,(s=[]/\g s=none/\f s=0)\/∃p m,g s=some (p,m)/\p∈ks/\m∈qDH Ae p Aa/\s=behL p m/\f s=f p+if m.1=D0 "do" then 1 else 0
theorem qaH {a b:Aa0} (d:a.Nodup)(e:b.Nodup)(h:∀x∈a,x∈b):a.length<=b.length:=by
 have p:a.Perm (b.filter λx=>decide (x∈a)):=(List.perm_ext_iff_of_nodup d (e.filter _)).mpr λx=>by
  rw[E4,decide_eq_true_eq];exact⟨λc=>⟨h x c,c⟩,λc=>c.2⟩
 rw[p.length_eq];exact P0 _ _
noncomputable def qES (g:List Int->Prv):Nat->List Int->List Mv
 |0,_=>[]
 |n+1,s=>match g s with
  |none=>[]
  |some (p,m)=>qES g n p++[m]
noncomputable def pth (f:List Int->Nat)(g:List Int->Prv)(s:List Int):List Mv:=qES g (2*f s-s.length) s
theorem qLB (R:Rch Ae Aa ks f) {p:List Int} {m:Mv} (d:p∈ks) (b:m∈qDH Ae p Aa) {u:Nat} (e:2*(f p+if m.1=D0 "do" then 1 else 0)=u+(behL p m).length):∃v,u=v+1/\2*f p=v+p.length:=by
 obtain⟨v,c,a⟩:=R.snd p d;refine⟨v,?_,a⟩;rcases qJU c.1.rise b with⟨w,l⟩|⟨w,l⟩
 ·rw[if_pos w] at e;lia
 ·rw[if_neg (λz=>by rw[w] at z;exact qAK z)] at e;lia
theorem qa2 (n:WFn Ae){p:List Int}{m:Mv}{t:Nat}(P:Pt Ae Aa t p)(g:m∈qDH Ae p Aa):Run Ae Aa p [m] (behL p m):=by
 have r:=P.rise;have h:=(Pt.step P g).rise;obtain⟨⟨a,b,c⟩,d,e⟩:=due_iff.mp g;obtain⟨f,l⟩:=m;rcases a with a|a
 ·have a:f=D0 "do":=a
  subst a;obtain⟨i,j,k⟩:=d rfl;exact .do_ i j k (by unfold behL;rw[if_pos rfl];exact qEX _ _) h.up .nil
 ·have a:f=D0 "clear":=a;subst a;unfold behL;rw[if_neg (λz=>qAK z)];exact .clear (e rfl) .nil
theorem qQS (wf:WFn Ae)(R:Rch Ae Aa ks f)(pv:Prov Ae Aa ks f g):∀(u:Nat) (s:List Int),s∈ks->2*f s=u+s.length->Run Ae Aa [] (qES g u s) s/\(qNW (qES g u s)).length=f s/\MvOk Ae (qES g u s)/\(qES g u s).length=u/\
  ∃L:Aa0,L.length=u+1/\L.Nodup/\∀x∈L,x∈ks/\∃v,v<=u/\2*f x=v+x.length
 |0,s,hs,e=>by
  rcases pv s hs with⟨a1,a2,a3⟩|⟨p,m,a1,a2,a3,a4,a5⟩
  ·subst a1;refine⟨.nil,by rw[a3];rfl,(λ_ z=>by cases z),rfl,[[]],rfl,by simp,λx hx=>by rw[A7.mp hx];exact⟨hs,0,A6 _,e⟩⟩
  ·rw[a5,a4] at e;obtain⟨v,z,_⟩:=qLB R a2 a3 e
   lia
 |u+1,s,hs,e=>by
  rcases pv s hs with⟨a1,a2,a3⟩|⟨p,m,a1,a2,a3,a4,a5⟩
  ·rw[a3,a1] at e;simp at e
  ·have e2:=e;rw[a5,a4] at e2;obtain⟨v,z1,z2⟩:=qLB R a2 a3 e2;have:v=u:=by lia
   subst this;obtain⟨i1,i2,i3,i4,L,i5,i6,i7⟩:=qQS wf R pv v p a2 z2;obtain⟨_,mp,_⟩:=R.snd p a2;have ep:qES g (v+1) s=qES g v p++[m]:=by show(match g s with|none=>[]|some (p,m)=>qES g v p++[m])=_;rw[a1]
   rw[ep];have one:=qa2 wf mp.1 a3;rw[<- a4] at one;have dd:(qNW [m]).length=if m.1=D0 "do" then 1 else 0:=by
    unfold qNW;rw[O5]
    split<;>rename_i h
    ·split at h
     ·cases h
     ·rename_i hn;rw[if_neg hn];rfl
    ·split at h
     ·rename_i hy;rw[if_pos hy];rfl
     ·cases h
   refine⟨i1.app one,by rw[qVS,A8,i2,dd,a5],λx hx=>?_,by rw[A8,i4];rfl,L++[s],by rw[A8,i5];rfl,qIN i6 λhz=>?_,λx hx=>?_⟩
   ·rcases B0.mp hx with z|z
    ·exact i3 x z
    ·rw[A7.mp z];exact(due_iff.mp a3).1
   ·obtain⟨_,w,w1,w2⟩:=i7 s hz
    lia
   ·rcases B0.mp hx with z|z
    ·obtain⟨j1,w,w1,w2⟩:=i7 x z;exact⟨j1,w,by lia,w2⟩
    ·rw[A7.mp z];exact⟨hs,v+1,A6 _,e⟩
theorem qOS (m:WFn Ae)(R:Rch Ae Aa ks f)(h:Prov Ae Aa ks f g){s:List Int}(a:s∈ks):Run Ae Aa [] (pth f g s) s/\(qNW (pth f g s)).length=f s/\MvOk Ae (pth f g s)/\(pth f g s).length+1<=ks.length:=by
 obtain⟨u,_,e⟩:=R.snd s a;have j:2*f s-s.length=u:=by lia
 obtain⟨d,b,i,o,L,n,k,l⟩:=qQS m R h u s a e;unfold pth;rw[j];refine⟨d,b,i,?_⟩;have:=qaH k R.nd λx c=>(l x c).1
 lia
end
structure EntZ (H:Hp)(Af:List (List Key×V))(ks:Aa0)(f:List Int->Nat)(Φ:(List Int->Prv)->Prop):Prop where
 ex:∃g,EntX H Af ks f g/\Φ g
section
variable{H H':Hp}{Af:List (List Key×V)}{ks:Aa0}{f:List Int->Nat}{Φ Ψ:(List Int->Prv)->Prop}
theorem EntZ.same (h:EntZ H Af ks f Φ)(c:Same H H'):EntZ H' Af ks f Φ:=let⟨g,a,b⟩:=h.ex;⟨g,a.same c,b⟩
theorem EntZ.put {d:Addr} {o u:HO} (h:EntZ H Af ks f Φ)(c:H d=some o)(e:∀xs,o≠.tup xs):EntZ (Ag H d u) Af ks f Φ:=let⟨g,a,b⟩:=h.ex;⟨g,a.put c e,b⟩
theorem EntZ.ent (h:EntZ H Af ks f Φ):Ent H Af ks f:=let⟨_,a,_⟩:=h.ex;a.ent
theorem EntZ.len (h:EntZ H Af ks f Φ):Af.length=ks.length:=h.ent.len
theorem EntZ.val (h:EntZ H Af ks f Φ){s:List Int}(a:s∈ks):∃v,valV Af (keyS s)=some v/\Val3 H v (f s):=h.ent.val a
theorem EntZ.none (h:EntZ H Af ks f Φ){s:List Int}(a:s∉ks):valV Af (keyS s)=none:=h.ent.none a
theorem EntZ.snoc (h:EntZ H Af ks f Φ){s p:List Int}{m:Mv}(l:s∉ks){r d c:Addr}{n:Nat}(e:H r=some (.tup [.int (n:Int),.ref d,.ref c]))(k:H d=some (.tup (p.map V.int)))(j:H c=some (.tup [.str m.1,.int m.2]))(i:∀g,Φ g->Ψ (gset g s (some (p,m)))):
  EntZ H (putK Af (keyS s) (.ref r)) (ks++[s]) (qHY f s n) Ψ:=let⟨g,a,b⟩:=h.ex;⟨_,a.snoc (v:=.ref r) (n:=n) (o:=some (p,m)) l ⟨r,d,c,rfl,e,k,j⟩,i g b⟩
end
def qTI:Sp:=λvs H Q _=>∃(a l t:Addr) (Ae:Aa0) (ms:List Mv) (Aa:Int) (Ad last:List Int),vs=[.ref a,.int Aa,.ref l,.ref t]/\PlayIn2 H a l Ae ms Aa/\Run Ae Aa [] ms last/\H t=some (.tup (Ad.map V.int))/\Ad.length<=1000/\(∀x∈Ad,x∈last)/\∀H',Same H H'->Q (.bl true) H'
theorem qKR:∀(sts:Aa0) (s:List Int),(s::sts)[sts.length]?=some (qR8 s sts)
 |[],s=>rfl
 |x::sts,s=>qKR sts x
noncomputable def renW (ws:List Int)(i:Int):Int:=(ws[i.toNat]?).getD 0
noncomputable def renM (ws:List Int)(ms:List Mv):List Mv:=ms.map λm=>(m.1,renW ws m.2)
section
variable{Ae:Aa0}{Ad ws:List Int}{Aa:Int}
theorem qQG {i:Nat} {x:Int} (h:ws[i]?=some x):renW ws (i:Int)=x:=by
 unfold renW;rw[D9,h]
 rfl
theorem qIQ (c:ws.Pairwise (·<·)){i j:Int}(d:0<=i)(h:i<j)(e:j<(ws.length:Int)):renW ws i<renW ws j:=by
 have a:i.toNat<ws.length:=by lia
 have b:j.toNat<ws.length:=by lia
 unfold renW;rw[A4 a,A4 b];exact G3.mp c i.toNat j.toNat a b (by lia)
theorem qQF (a:ws.Pairwise (·<·)){i j:Int}(b:0<=i)(hi:i<(ws.length:Int))(d:0<=j)(f:j<(ws.length:Int))(e:renW ws i=renW ws j):i=j:=by
 rcases Int.lt_trichotomy i j with c|c|c
 ·have:=qIQ a b c f;lia
 ·exact c
 ·have:=qIQ a d c hi;lia
theorem qXO (N:qB5 Ae Ad ws){w y:Int}(b:w∈ws)(a:y∈nd Ae w):y∈ws:=by
 have n:=(N.2 w).mp b;unfold nd at a;cases e:Ae[w.toNat]? with
 |none=>rw[e] at a;cases a
 |some zs=>
  rw[e] at a;exact(N.2 y).mpr (.need n e a)
theorem qX5 (N:qB5 Ae Ad ws){s t:List Int}{l:List Mv}(R:Run (qBW Ae ws) Aa s l t):(∀x∈s,0<=x/\x<(ws.length:Int))->MvOk (qBW Ae ws) l->Run Ae Aa (s.map (renW ws)) (renM ws l) (t.map (renW ws)):=by
 have up:=N.1.up;have v:=qBV Ae ws
 induction R with
 |nil=>exactλ_ _=>.nil
 |@do_ s s' t w l h1 h2 h3 h4 h5 h6 ih=>
  intro n k;have c:=(k (D0 "do",w) (by simp)).2
  dsimp only at c;rw[v] at c;have f:∀x∈s',0<=x/\x<(ws.length:Int):=λx d=>by
   rcases B0.mp (h4.mem_iff.mp d) with z|z
   ·exact n x z
   ·rw[A7.mp z];exact c
  have wi:w.toNat<ws.length:=by lia
  have ew:ws[w.toNat]?=some (renW ws w):=by unfold renW;rw[A4 wi];rfl
  refine .do_ (λhz=>?_) (λy r=>?_) (by rw[A0];exact h3) ?_ ?_ (ih f λm g=>k m (B9 _ g))
  ·obtain⟨x,d,ex⟩:=D4.mp hz;have j:=n x d;rw[qQF up j.1 j.2 c.1 c.2 ex] at d;exact h1 d
  ·have p:=qXO N (B5 ew) r;obtain⟨i,u⟩:=M9 p;have o:(i:Int)∈nd (qBW Ae ws) w:=by
    unfold nd;rw[qIW ew];exact(qLW N.1.nodup).mpr ⟨by lia,y,by rw[D9];exact u,r⟩
   exact D4.mpr ⟨(i:Int),h2 _ o,qQG u⟩
  ·have:=h4.map (renW ws);rw[B3] at this;exact this
  ·rw[J4];exact h5.imp_of_mem λ{a b} ha hb q=>qIQ up (f a ha).1 q (f b hb).2
 |@clear s t w l h1 h2 ih=>
  intro n k;have c:=(k (D0 "clear",w) (by simp)).2
  dsimp only at c;rw[v] at c;refine .clear (D4.mpr ⟨w,h1,rfl⟩) ?_;have e:(s.map (renW ws)).filter (λx=>decide (x≠renW ws w))=(s.filter λx=>decide (x≠w)).map (renW ws):=by
   rw[List.filter_map];congr 1;refine B14 λx d=>?_;have j:=n x d;refine decide_eq_decide.mpr ⟨λh z=>h (by rw[z]),λh z=>h (qQF up j.1 j.2 c.1 c.2 z)⟩
  rw[e];exact ih (λx d=>n x (E4.mp d).1) λm g=>k m (B9 _ g)
noncomputable def qDI (ws Ad:List Int):List Int:=Ad.filterMap (qCR ws)
theorem qKC (N:qB5 Ae Ad ws)(a:Rise (Ae.length:Int) Ad):Rise ((qBW Ae ws).length:Int) (qDI ws Ad):=by
 refine⟨qT9 N.1.up a.up,λx c=>?_⟩;obtain⟨d,y,b,_⟩:=(qLW N.1.nodup).mp c;have:=(A5.mp b).1;rw[qBV]
 lia
theorem qMO (N:qB5 Ae Ad ws)(e:Rise (Ae.length:Int) Ad):qOE ws Ad=mskN (qDI ws Ad):=by
 unfold qOE;congr 1;refine qTA ((qEP 0 ws.length).filter _) (qT9 N.1.up e.up) λx=>?_;rw[E4,show x∈qDI ws Ad↔_ from qLW N.1.nodup,mem_rangeI,decide_eq_true_eq]
 constructor
 ·rintro⟨⟨b,f⟩,a⟩;have c:x.toNat<ws.length:=by lia
  rw[A4 c] at a ⊢;exact⟨b,_,rfl,a⟩
 ·rintro⟨b,y,d,a⟩;have c:=(A5.mp d).1;rw[d];exact⟨⟨b,by lia⟩,a⟩
theorem qUS (N:qB5 Ae Ad ws)(a:Rise (Ae.length:Int) Ad){k:Nat}(h:LB (qBW Ae ws) Aa (qDI ws Ad) (some k)):qEJ Ae ws Ad Aa:=by
 obtain⟨⟨b,R,e⟩,_⟩:=h;exact⟨k,b,R,by rw[qMO N a];exact e⟩
theorem qZ8 (N:qB5 Ae Ad ws)(a:Rise (Ae.length:Int) Ad)(h:LB (qBW Ae ws) Aa (qDI ws Ad) none):¬qEJ Ae ws Ad Aa:=by
 rintro⟨m,b,R,e⟩;rw[qMO N a] at e;exact h m b R e
end
def qLD:Sp:=λvs H Q _=>∃(t u:Addr) (ws Ad:List Int),vs=[.ref t,.ref u]/\BareT H t (ws.map V.int)/\H u=some (.tup (Ad.map V.int))/\ws.Nodup/\Ad.length<=1000/\ws.length<=1000/\(∀x∈Ad,x∈ws)/\
 ∀r H',Same H H'->H' r=some (.tup ((qDI ws Ad).map V.int))->Q (.ref r) H'
def qOI:Sp:=λvs H Q _=>∃(a t:Addr) (Ae:Aa0) (ws:List Int),vs=[.ref a,.ref t]/\NetAt H a Ae/\WFn Ae/\Ae.length<=1000/\Rd H t (.tup (ws.map V.int))/\Rise (Ae.length:Int) ws/\
 ∀b H',Same H H'->NetAt H' b (qBW Ae ws)->Q (.ref b) H'
theorem sqo {b:Bool} {K:Ab1} {H:Hp} {a:Addr} {xs:List V} (h:Rd H a (seqO b xs)):SqO b K H a xs:=by
 cases b with
 |true=>exact .inl h
 |false=>exact .inl h
theorem Rd.same {H H':Hp} {a:Addr} {o:HO} (h:Rd H a o)(s:Same H H'):Rd H' a o:=h.elim (λe=>.inl (s _ _ e)) λ⟨q,e⟩=>.inr ⟨q,s _ _ e⟩
structure Nev (Ae:Aa0)(Aa:Int)(want:List Int)(ss:Aa0):Prop where
 rise:∀s∈ss,Rise (Ae.length:Int) s
 few:∀s∈ss,(s.length:Int)<=Aa
 nil:[]∈ss
 shut:∀s∈ss,∀m∈qDH Ae s Aa,behL s m∈ss
 no:∀s∈ss,¬ ∀x∈want,x∈s
structure NevP (Ae:Aa0)(Aa:Int)(ss:Aa0):Prop where
 nd:ss.Nodup
 mem:∀s,s∈ss↔∃u,Pt Ae Aa u s
 so:ss.Pairwise λa b=>HT.lexLt b a=false
theorem Pt.few {Ae:Aa0} {Aa:Int} (a:0<=Aa){u:Nat}{s:List Int}(h:Pt Ae Aa u s):(s.length:Int)<=Aa:=by
 induction h with
 |zero=>exact a
 |@step t st m p hm ih=>
  rcases qJU p.rise hm with⟨e,l⟩|⟨_,l⟩
  ·have:=((due_iff.mp hm).2.1 e).2.2
   lia
  ·lia
theorem NevP.nev {Ae:Aa0} {Aa:Int} {a:List Int} {c:Aa0} (f:0<=Aa)(h:NevP Ae Aa c)(d:∀s∈c,¬ ∀x∈a,x∈s):Nev Ae Aa a c:=by
 refine⟨λs b=>?_,λs b=>?_,(h.mem _).mpr ⟨0,.zero⟩,λs b m e=>?_,d⟩
 ·obtain⟨u,p⟩:=(h.mem s).mp b;exact p.rise
 ·obtain⟨u,p⟩:=(h.mem s).mp b;exact p.few f
 ·obtain⟨u,p⟩:=(h.mem s).mp b;exact(h.mem _).mpr ⟨u+1,.step p e⟩
theorem Rch.nevP {Ae:Aa0} {Aa:Int} {ks c:Aa0} {f:List Int->Nat} (h:Rch Ae Aa ks f)(d:c.Perm ks)(e:c.Pairwise λa b=>HT.lexLt b a=false):NevP Ae Aa c:=
 ⟨d.nodup_iff.mpr h.nd,λs=>d.mem_iff.trans ⟨λg=>let⟨u,m,_⟩:=h.snd s g;⟨u,m.1⟩,λ⟨u,p⟩=>h.all u s p⟩,e⟩
theorem Ent.keys1 {H:Hp} {f:List Int->Nat} :∀{Af:List (List Key×V)} {ks:Aa0},Ent H Af ks f->Af.map (·.1)=ks.map λt=>t.map (E8:Int->Key)
 |[],[],.nil=>rfl
 |_::_,_::_,.cons a b=>by rw[C7,C7,Ent.keys1 b,a.1];rfl
def qYU:Sp:=λvs H Q _=>∃(b:Bool) (a t:Addr) (st Ad:List Int),vs=[.ref a,.ref t]/\H a=some (.tup (st.map V.int))/\Rd H t (seqO b (Ad.map V.int))/\Ad.length<=1000/\∀H',Same H H'->Q (.bl (decide (∀x∈Ad,x∈st))) H'
def qOH:Sp:=λvs H Q _=>∃(o:Bool) (a l:Addr) (Ae:Aa0) (ws:List Int),vs=[.ref a,.ref l]/\NetAt H a Ae/\WFn Ae/\Ae.length<=60/\Rd H l (seqO o (ws.map V.int))/\Rise (Ae.length:Int) ws/\∀b H',Same H H'->NetAt H' b (qBW Ae ws)->Q (.ref b) H'
def qMV:Sp:=λvs H Q _=>∃(a:Addr) (zs:List Int) (k:Int),vs=[.ref a,.int k]/\Rd H a (.tup (zs.map V.int))/\Rise k zs/\zs.length<=1000/\∀H',Same H H'->Q (.bl true) H'
structure PapN (H:Hp)(T tw l:Addr)(ws:List Int)(rs:List Addr)(ss:Aa0):Prop where
 tup:H T=some (.tup [.ref tw,.ref l])
 works:BareT H tw (ws.map V.int)
 lst:H l=some (.lst (rs.map V.ref))
 at_:StL H rs ss
def qQ3:Sp:=λvs H Q _=>∃(a t T tw l:Addr) (Ae:Aa0) (Ad ws:List Int) (Aa:Int) (rs:List Addr) (ss:Aa0),vs=[.ref a,.ref t,.int Aa,.ref T]/\NetAt H a Ae/\WFn Ae/\Ae.length<=12/\qG3 H t Ae Ad/\PapN H T tw l ws rs ss/\Rise (Ae.length:Int) ws/\qDI ws Ad≠[]/\ss.length<=5000/\Nev (qBW Ae ws) Aa (qDI ws Ad) ss/\∀H',Same H H'->Q (.bl true) H'
def qQ5 (Pt:Addr):Sp:=λvs H Q _=>∃(a t:Addr) (Ae:Aa0) (Ad ws:List Int) (Aa:Int),vs=[.ref a,.ref t,.int Aa]/\TabB H Pt/\NetAt H a Ae/\WFn Ae/\Ae.length<=12/\qG3 H t Ae Ad/\1<=Ad.length/\qB5 Ae Ad ws/\
 (qEJ Ae ws Ad Aa->∀H',Same H H'->Q .non H')/\(¬qEJ Ae ws Ad Aa->∀T tw l rs ss H',Same H H'->H T=none->H l=none->PapN H' T tw l ws rs ss->NevP (qBW Ae ws) Aa ss->(∀s∈ss,¬ ∀x∈qDI ws Ad,x∈s)->ss.length<=4096->Q (.ref T) H')
def qTF:Sp:=λvs H Q _=>∃(a t d:Addr) (o:Obj) (Ae:Aa0) (Aa:Int) (s:List Int) (ks:Aa0) (Af:List (List Key×V)),vs=[.ref a,.int Aa,.ref t,.ref d]/\NetAt H a Ae/\WFn Ae/\Ae.length<=12/\H t=some (.tup (s.map V.int))/\Rise (Ae.length:Int) s/\H d=some (.frz o (.dT Af))/\(∀z:List Int,z∈ks->(valV Af (keyS z)).isSome=true)/\(∀m∈qDH Ae s Aa,behL s m∈ks)/\∀H',Same H H'->Q (.bl true) H'
open PySem PySem.Spec L2
def qYT:Sp:=λvs H Q _=>∃(d c a:Addr) (t:Int) (ns:List Int) (Ae:Aa0),vs=[.ref d,.ref a]/\StAt H d c t ns/\t<=TB-100/\NetAt H a Ae/\WFn Ae/\1<=Ae.length/\Ae.length<=8/\
 ∀b net' t' ns' H',StAt H' d c t' ns'->t<=t'->t'<=t+10->Keep d c H H'->NetAt H' b net'->WFn net'->1<=net'.length->net'.length<=9->Q (.ref b) H'
def CaseAt (H:Hp)(r:Addr):Prop:=∃(a t:Addr) (Ae:Aa0) (Ad ws:List Int) (least:Int),H r=some (.tup [.ref a,.ref t,.int least])/\NetAt H a Ae/\WFn Ae/\Ae.length<=12/\qG3 H t Ae Ad/\1<=Ad.length/\qB5 Ae Ad ws/\LeastR Ae ws Ad least/\least<=12
theorem CaseAt.keep {H H':Hp} {d c:Addr} {t:Int} {ns:List Int} (S:StAt H d c t ns){r:Addr}(h:CaseAt H r)(k:Keep d c H H'):CaseAt H' r:=by
 obtain⟨a,t,i,j,m,b,g,l,p,n,⟨e,f⟩,o,N,L⟩:=h;exact⟨a,t,i,j,m,b,k _ _ g (S.tup g).1 (S.tup g).2,l.keep S k,p,n,⟨k _ _ e (S.tup e).1 (S.tup e).2,f⟩,o,N,L⟩
theorem NetAt.put' {H:Hp} {a d:Addr} {Ae:Aa0} {o u:HO} (h:NetAt H a Ae)(j:H d=some o)(b:∀xs,o≠.tup xs):NetAt (Ag H d u) a Ae:=by
 have k:∀(r:Addr) (xs:List V),H r=some (.tup xs)->(Ag H d u) r=some (.tup xs):=λr xs g=>by
  rw[qA8 (qCA g j λz=>b _ z.symm)];exact g
 obtain⟨f,i,c⟩:=h;exact⟨f,k _ _ i,c.same λr l e=>k _ _ e⟩
theorem CaseAt.put {H:Hp} {r d:Addr} {o u:HO} (h:CaseAt H r)(e:H d=some o)(c:∀xs,o≠.tup xs):CaseAt (Ag H d u) r:=by
 have k:∀(r:Addr) (xs:List V),H r=some (.tup xs)->(Ag H d u) r=some (.tup xs):=λr xs g=>by
  rw[qA8 (qCA g e λz=>c _ z.symm)];exact g
 obtain⟨a,t,i,j,p,b,g,l,s,n,⟨m,f⟩,q,N,L⟩:=h;exact⟨a,t,i,j,p,b,k _ _ g,l.put' e c,s,n,⟨k _ _ m,f⟩,q,N,L⟩
def qTG:Sp:=λvs H Q _=>∃i:Int,vs=[.int i,.int i]/\∀H',Same H H'->Q (.bl true) H'
def qMW (Pt:Addr):Sp:=λvs H Q _=>∃(r:Addr),vs=[.ref r]/\TabB H Pt/\CaseAt H r/\∀H',Same H H'->Q (.bl true) H'
theorem WFn.put {Ae:Aa0} {zs:List Int} {k:Nat} (h:WFn Ae)(l:k<Ae.length)(b:Rise (k:Int) zs):WFn (Ae.take k++[zs]++Ae.drop (k+1)):=by
 intro i a e;have f:(Ae.take k).length=k:=by rw[C5];lia
 rw[M7,List.getElem?_append] at e
 split at e
 ·rw[List.getElem?_take] at e
  split at e
  ·exact h i a e
  ·cases e
 ·rename_i c
  rw[f] at e c;by_cases d:i=k
  ·subst d;rw[A03] at e;cases e;exact b
  ·obtain⟨j,g⟩:∃j,i-k=j+1:=⟨i-k-1,by lia⟩
   rw[g,List.singleton_append,A31,A02] at e;exact h i a (by rw[<- e];congr 1;lia)
theorem WFn.less {Ae:Aa0} {f:Int->Bool} (h:WFn Ae):WFn (Ae.map λns=>ns.filter f):=by
 intro i a e;rw[B6] at e;cases h2:Ae[i]? with
 |none=>rw[h2] at e;cases e
 |some zs=>
  rw[h2] at e;cases e;exact(h i zs h2).sub List.filter_sublist
theorem qb1 (xs:List V)(k:Nat):cutV xs none (some (k:Int))=xs.take k:=by
 unfold cutV;rw[HT.sIx_nat,HT.sIx_none,W6,l9];rcases B18 k xs.length with h|h
 ·rw[u7 h]
 ·rw[A40 h,C6 h,C6 (A6 _)]
theorem qNX (xs:List V)(k:Nat):cutV xs (some (k:Int)) none=xs.drop k:=by
 unfold cutV;rw[HT.sIx_nat,HT.sIx_none];rcases B18 k xs.length with h|h
 ·rw[u7 h,C6 (by rw[G0];exact A6 _)]
 ·rw[A40 h,A03,W9 h];rfl
theorem qIT (m j:Nat):(2^m-1).testBit j=decide (j<m):=Nat.testBit_two_pow_sub_one m j
theorem qZO {Ae:Aa0} (wf:WFn Ae):∀m,m<=Ae.length->Rm Ae (Ae.length:Int) m (2^m-1)
 |0,_=>.zero
 |m+1,h=>by
  have ih:=qZO wf m (by lia)
  have hz:=A4 (show m<Ae.length by lia)
  have rz:=wf m _ hz;have e:2^(m+1)-1=(2^m-1) ||| 2^m:=Q8 λj=>by
   rw[A77,qIT,qIT,Z7];by_cases c:j<m
   ·rw[decide_eq_true c,decide_eq_true (by lia:j<m+1),Bool.true_or]
   ·by_cases d:m=j
    ·rw[decide_eq_true d,decide_eq_true (by lia:j<m+1),Bool.or_true]
    ·rw[decide_eq_false c,decide_eq_false d,decide_eq_false (by lia:¬j<m+1)];rfl
  rw[e];refine .do_ ih ⟨?_,by lia,?_⟩
  ·have lt:cntN Ae.length (2^m-1)<=m:=by
    unfold cntN;rw[W4 (g:=λk=>if(decide (k<m))=true then 1 else 0) λk _=>by rw[qPY,qIT],qIK]
    have nd:((E6 Ae.length).filter λk=>decide (k<m)).Nodup:=m8.filter _;exact qE3 nd λb hb=>of_decide_eq_true (E4.mp hb).2
   lia
  ·unfold nxt;rw[hz];refine Q8 λj=>?_;rw[u9,qIT];show(decide (j<m)&&(mskN Ae[m]).testBit j)=(mskN Ae[m]).testBit j;rw[qLV rz.up (λx hx=>(rz.in_ x hx).1)];by_cases c:(j:Int)∈Ae[m]
   ·have:=(rz.in_ _ c).2;rw[decide_eq_true (by lia:j<m),o8]
   ·rw[decide_eq_false c,k7]
theorem qNP {Ae:Aa0} {a Ad:List Int} (d:WFn Ae)(N:qB5 Ae Ad a):qEJ Ae a Ad (a.length:Int):=by
 have b:WFn (qBW Ae a):=qD7 d N.1;have R:=qZO b _ (A6 _);rw[qBV] at R;refine⟨_,_,R,Q8 λj=>?_⟩;rw[u9,qIT];unfold qOE;rw[qLV ((qEP _ _).filter _) (λx e=>(mem_rangeI.mp (E4.mp e).1).1)];by_cases c:(j:Int)∈(qBM 0 a.length).filter λp=>decide ((a[p.toNat]?).getD 0∈Ad)
 ·have:=mem_rangeI.mp (E4.mp c).1;rw[decide_eq_true (by lia:j<a.length),o8]
 ·rw[decide_eq_false c,k7]
theorem qXS {Ae:Aa0} {a Ad:List Int} (h:WFn Ae)(N:qB5 Ae Ad a)(g:1<=Ad.length):∃r,LeastR Ae a Ad r/\r<=(a.length:Int):=by
 have e:=qNP h N;have l:1<=a.length:=by
  cases Ad with
  |nil=>simp at g
  |cons x Ad=>exact X1 ((N.2 x).mpr (.ask F0))
 obtain⟨k,f,c⟩:=qR6 (P:=λk=>qEJ Ae a Ad ((k:Int)+1)) (a.length-1) (by rw[show(((a.length-1:Nat):Int)+1)=(a.length:Int) by lia];exact e)
 have i:=c (a.length-1) (by rw[show(((a.length-1:Nat):Int)+1)=(a.length:Int) by lia];exact e)
 refine⟨(k:Int)+1,⟨by lia,f,λb j m d=>?_⟩,by lia⟩
 have:=c (b-1).toNat (by rw[show(((b-1).toNat:Nat):Int)+1=b by lia];exact d)
 lia
def PrvH (Ae:Aa0)(Aa:Int)(ks:Aa0)(f:List Int->Nat)(g:List Int->Prv):Prop:=Prov Ae Aa ks f g/\∃l,ks=[]::l
theorem PrvH.start {Ae:Aa0} {Aa:Int} :PrvH Ae Aa [[]] (λ_=>0) (λ_=>none):=⟨λs a=>.inl ⟨A7.mp a,rfl,rfl⟩,[],rfl⟩
theorem PrvH.snoc {Ae:Aa0} {Aa:Int} {ks:Aa0} {f:List Int->Nat} {g:List Int->Prv} {s:List Int} {m:Mv} {z:Nat} (b:s∈ks) (q:m∈qDH Ae s Aa) (c:behL s m∉ks) (d:z=if m.1=D0 "do" then 1 else 0) (h:PrvH Ae Aa ks f g):PrvH Ae Aa (ks++[behL s m]) (qHY f (behL s m) (f s+z)) (gset g (behL s m) (some (s,m))):=by
 obtain⟨h,l,j⟩:=h;refine⟨λx i=>?_,l++[behL s m],by rw[j];rfl⟩
 have o:∀y∈ks,gset g (behL s m) (some (s,m)) y=g y:=λy n=>if_neg λe=>c (by rw[<- e];exact n)
 rcases B0.mp i with k|k
 ·rw[qI9 k c,o x k];rcases h x k with a|⟨p,mm,a1,a2,a3,a4,a5⟩
  ·exact .inl a
  ·exact .inr ⟨p,mm,a1,B0.mpr (.inl a2),a3,a4,by rw[qI9 a2 c];exact a5⟩
 ·rw[A7.mp k];refine .inr ⟨s,m,if_pos rfl,B0.mpr (.inl b),q,rfl,?_⟩;rw[qKV,qI9 b c,d]
def qLC:Sp:=λvs H Q _=>∃(a:Addr) (Ae:Aa0) (Aa:Int),vs=[.ref a,.int Aa]/\NetAt H a Ae/\WFn Ae/\Ae.length<=12/\
 ∀d o Af ks f g H',Same H H'->H d=none->H' d=some (.frz o (.dT Af))->EntX H' Af ks f g->Rch Ae Aa ks f->PrvH Ae Aa ks f g->Q (.ref d) H'
def qTH:Sp:=λvs H Q _=>∃(d t:Addr) (o:Obj) (Af:List (List Key×V)) (Ae:Aa0) (Aa:Int) (ks:Aa0) (f:List Int->Nat) (g:List Int->Prv) (s:List Int),vs=[.ref d,.ref t]/\H d=some (.frz o (.dT Af))/\EntX H Af ks f g/\WFn Ae/\Rch Ae Aa ks f/\PrvH Ae Aa ks f g/\ks.length<=4096/\H t=some (.tup (s.map V.int))/\s∈ks/\
 ∀l H',Same H H'->H l=none->PlanAt H' l (pth f g s)->Q (.ref l) H'
def FewP (Ae:Aa0)(Ad:List Int)(r:Int)(ms:List Mv):Prop:=∃ws ks f g s,qB5 Ae Ad ws/\LeastR Ae ws Ad r/\Rch (qBW Ae ws) r ks f/\Prov (qBW Ae ws) r ks f g/\(s∈ks/\∀x∈qDI ws Ad,x∈s)/\ms=renM ws (pth f g s)
def qYV (Pt:Addr):Sp:=λvs H Q _=>∃(a t:Addr) (Ae:Aa0) (Ad:List Int),vs=[.ref a,.ref t]/\TabB H Pt/\NetAt H a Ae/\WFn Ae/\Ae.length<=12/\qG3 H t Ae Ad/\1<=Ad.length/\
 ∀T l r ms H',Same H H'->FewP Ae Ad r ms->H l=none->PlanAt H' l ms->H' T=some (.tup [.int r,.ref l])->Q (.ref T) H'
theorem FewP.lr {Ae:Aa0} {Ad a:List Int} {r:Int} {e:List Mv} (h:FewP Ae Ad r e)(N:qB5 Ae Ad a):LeastR Ae a Ad r:=by
 obtain⟨b,i,f,g,s,d,c,_⟩:=h;rw[qH4 N d];exact c
theorem FewP.run {Ae:Aa0} {Ad:List Int} (v:WFn Ae)(ra:Rise (Ae.length:Int) Ad)(u:Ae.length<=12){r:Int}{c:List Mv}(h:FewP Ae Ad r c):∃last,Run Ae r [] c last/\(∀x∈Ad,x∈last)/\MvOk Ae c/\c.length<=4096:=by
 obtain⟨a,ks,f,g,s,N,a2,n,q,B,e⟩:=h;have wp:=qD7 v N.1;have t:=qBV Ae a;have lw:=N.1.len;obtain⟨R,_,l,ln⟩:=qOS wp n q B.1;have lk:=n.len;have pw:2^(qBW Ae a).length<=2^12:=L0 (by decide) (by lia)
 refine⟨s.map (renW a),?_,λx p=>?_,λm o=>?_,?_⟩
 ·rw[e];exact qX5 N R (λ_ z=>nomatch z) l
 ·have j:x∈a:=(N.2 x).mpr (.ask p);obtain⟨i,b⟩:=M9 j;exact D4.mpr ⟨(i:Int),B.2 _ (P2.mpr ⟨x,p,qFE N.1.nodup b⟩),qQG b⟩
 ·rw[e] at o;obtain⟨k,d,em⟩:=D4.mp o;obtain⟨w,h2,y⟩:=l k d;rw[t] at y;have b:k.2.toNat<a.length:=by lia
  have j:renW a k.2∈a:=by unfold renW;rw[A4 b];exact T4 b
  rw[<- em];exact⟨w,N.1.in_ _ j⟩
 ·rw[e];unfold renM;rw[A0]
  lia
section
variable{P:B79}{w:World}{K:Ab1}{mg:Ab0}{base:Heap}{f:Addr}{fd:B98}{qF2 qEB qG1 qF1 qEA qHC qJK f_played qd5 qJN qPP qM6 qPO qHE qM3 qGS qJM qHD qHB qDV Pt cc qDO qFL qCM qC5 qD9 qJJ qJL qM4 qE9 qG2 qM2 qPN qPL qM8 qVN qPM qM9 qM7 qM5:Addr}{qFK qK8 qNR qM1 qK7 qPI qSQ fd_played qST qYF qRI qYE qPK qRH qKY qSS qPJ qPH qJG qGR qJH qF0 qE1 qJI qSP qSR qVI qK6 qNS qVH qYD qYB qVL qaU qYC qVM qVK qVJ:B98}
theorem sc_Lbegin:FnScope ["_law_script","_law_cells"] ["_law_script"] (qAB qI5):=qBT
theorem ok_Lbegin (F:Fun K "_law_begin" "_law_begin" qI5 f fd) (y:mg "list" = none):FnOk P w K mg base CX0 1 f fd ["_law_script"] (qTK K):=by
 refine F.okA sc_Lbegin λa0 A z s H vs Q E hr h=>?_;obtain⟨a,n,rfl,hS,u,q⟩:=h;have hu:=qH9 hr;have v:=hr.units0;refine⟨_,(qA4 (qAG (i:=1) sc_Lbegin.nd rfl (E2 rfl) (qAD qHO rfl y qJT (qA0 (qE6 qOL (pv 0) qFW (qFV qA7)) qA3))) (qA4 (qBD (qAN (qNB v) (pv 1) (qBU qA3) (qAY _)) (qA5 (qAG (i:=1) sc_Lbegin.nd rfl (E2 rfl) (qBU (qA0 qA7 qA3)))) qAM) (qA5 (qAE (qU9 (qLP qBO (pv 1) (qLP qBO qA7 qTW)) rfl rfl (by simp) (by decide)))))),?_⟩
 try dsimp only[Cx.nox,Cx.wish,cxOf]
 refine⟨_,rfl,_,rfl,a,_,rfl,hS,λp hp=>?_⟩;rw[qIA];have hl:(cutI n none (some 63)).length<=63:=F4 (qYJ _ _ _) u;refine⟨p,_,rfl,.inl (Ab2 qA1),λc t=>?_⟩;have s1:Same H (Ag (Ag H p (.lst ((cutI n none (some 63)).map V.int))) c (.lst ((cutI n none (some 63)).map V.int))):=(qA2 hp _).trans (qA2 t _);refine⟨_,rfl,(by show 0<=B77;decide),λe m=>?_⟩
 have l:c≠e:=qA6 qA1 m;refine⟨c,e,_,rfl,rfl,Ab2 (by rw[qA8 l];exact qA1),Ab2 qA1,_,rfl,?_⟩
 have j:=s1.trans (qA2 m (.lst []));cases hm:cutI n none (some 63) with
 |nil=>
  rw[hm] at j m;refine iteT ?_;refine⟨(by show 1<=B77;decide),λo k=>?_⟩
  have s3:=j.trans (qA2 k (.lst [.int 7]));intro d g;refine⟨_,rfl,?_⟩;have s4:=s3.trans (qA2 g (.dK []));refine⟨qA1,[(L9 (D0 "cells"),.ref o),(L9 (D0 "turn"),.int 0)],rfl,(by show 2<=15;decide),?_⟩
  have b:o≠d:=qA6 qA1 g;refine q d o [7] _ ⟨?_,?_,by decide,by decide,by decide⟩ ?_ ?_ ?_
  ·rw[qA1,qZ6]
  ·rw[qA8 b,qA8 b];exact qA1
  ·rw[qIH];exact s3.trans (qA2 g _)
  ·exact s3.free g
  ·exact j.free k
 |cons x r=>
  rw[hm] at j m hl;refine iteF ?_;intro d g;refine⟨_,rfl,?_⟩;refine⟨qA1,[(L9 (D0 "cells"),.ref c),(L9 (D0 "turn"),.int 0)],rfl,(by show 2<=15;decide),?_⟩
  have gc:(Ag (Ag (Ag H p (.lst ((x::r).map V.int))) c (.lst ((x::r).map V.int))) e (.lst [])) c=some (.lst ((x::r).map V.int)):=by rw[qA8 l];exact qA1
  have b:c≠d:=qA6 gc g;refine q d c (x::r) _ ⟨?_,?_,by simp,hl,by decide⟩ ?_ ?_ ?_
  ·rw[qA1,qZ6]
  ·rw[qA8 b,qA8 b];exact gc
  ·rw[qIH];exact j.trans (qA2 g _)
  ·exact j.free g
  ·rw[hm] at t;exact(qA2 hp _).free t
theorem sc_Ltake:FnScope ["_law_state","_law_many","_law_turn","_law_place","_law_cell","_law_digit","_law_mixed"] ["_law_state","_law_many"] (qAB qLI):=qBT
theorem ok_Ltake (F:Fun K "_law_take" "_law_take" qLI f fd) (qBI:mg "len" = none) (a1:mg "divmod" = none):FnOk P w K mg base CX0 1 f fd ["_law_state","_law_many"] qIL:=by
 refine F.okA sc_Ltake λa8 A a0 s H vs Q E hr h=>?_;obtain⟨d,c,t,g,m,rfl,S,ht,a6,a7,q⟩:=h;have v:=qH9 hr;refine⟨_,(qA4 (qAG (i:=2) sc_Ltake.nd rfl (E2 rfl) (qAR qEH (qDB v (pv 0) qBO (λ_ _=>rfl)) qA7)) (qA4 (qEQ v (pv 0) qBO (pv 2) rfl) (qA4 (qAG (i:=3) sc_Ltake.nd rfl (E2 rfl) (qAR qJ1 (pv 2) (qA9 qAC rfl qBI qBH (qA0 (qDB v (pv 0) qBO (λ_ _=>rfl)) qA3)))) (qA4 (qAG (i:=4) sc_Ltake.nd rfl (E2 rfl) (qB7 qCD (qDB v (pv 0) qBO (λ_ _=>rfl)) (pv 3) (λ_ _=>rfl))) (qA4 (qBD (qAN qXM (pv 4) (qAR qc9 qA7 qA7) (qAY _)) (qA4 (qKH (qA9 qPV rfl a1 qWB (qA0 (pv 4) (qA0 (pv 1) qA3))) (qKJ rfl (qAW (qU3 (qDB v (pv 0) qBO (λ_ _=>rfl)) (pv 3) qLF) (qAW (qAS (i:=5) sc_Ltake.nd rfl (E2 rfl)) qDA)))) (qA5 (qAE (pv 5)))) qAM) (qA4 (qAG (i:=6) sc_Ltake.nd rfl (E2 rfl) (qAR qJ1 (qAR qJ0 (qAR qEH (qAR qEH (qAR qJ1 (pv 4) qA7) (qAR qJ0 (qAR qJ0 (pv 2) (pv 2)) qA7)) qA7) qA7) qA7)) (qA4 (qAG (i:=6) sc_Ltake.nd rfl (E2 rfl) (qAR qJ1 (qAR qJ0 (pv 6) (pv 6)) qA7)) (qA5 (qAE (qAR qJ1 (qAR qOZ (qAR qJ1 (qAR qJ0 (qAR qEH (pv 6) (qAR qJ0 (pv 2) qA7)) qA7) qA7) qA7) (pv 1))))))))))),?_⟩
 try dsimp only[Cx.nox,Cx.wish,cxOf]
 have a2:=S.pos;have a4:=S.ne;have a3:t<=1000000000:=ht;refine⟨_,rfl,d,_,rfl,qaY S,_,_,rfl,rfl,?_⟩;refine⟨_,rfl,_,rfl,d,_,rfl,qaW S,?_⟩;have l:=S.turn (u:=t+1) (by lia)
 have k1:Keep d c H (Ag H d (.dK [(L9 (D0 "cells"),.ref c),(L9 (D0 "turn"),.int (t+1))])):=λb o e n _=>by rw[qA8 n];exact e
 generalize Ag H d (.dK [(L9 (D0 "cells"),.ref c),(L9 (D0 "turn"),.int (t+1))])=H1 at l k1;have k:(((g.map V.int).length:Nat):Int)=(g.length:Int):=by rw[A0]
 refine⟨_,rfl,_,rfl,d,_,rfl,qMB l,c,_,rfl,.inl (Ab2 l.list),_,_,rfl,rfl,(by rw[k];lia),?_⟩
 have p0:0<=(t+1)%(((g.map V.int).length:Nat):Int):=X9 _ (by rw[k];lia)
 have p1:(t+1)%(((g.map V.int).length:Nat):Int)<(g.length:Int):=by
  have:=U0 (t+1) (b:=(((g.map V.int).length:Nat):Int)) (by rw[k];lia)
  rw[k] at this ⊢;exact this
 dsimp only;generalize (t+1)%(((g.map V.int).length:Nat):Int)=pl at p0 p1;obtain⟨j,rfl⟩:∃j:Nat,pl=(j:Int):=⟨pl.toNat,by lia⟩
 have hj:j<g.length:=by lia
 have r:atI (g.map V.int) (j:Int)=some (.int g[j]):=qWG (by rw[B6,A4 hj];rfl)
 refine⟨_,rfl,d,_,rfl,qMB l,_,rfl,c,_,_,_,rfl,rfl,Ab2 l.list,r,?_⟩;generalize hx:g[j]=x at r ⊢;refine⟨_,rfl,_,_,rfl,rfl,⟨by decide,by decide,by decide⟩,_,_,rfl,rfl,_,rfl,?_⟩
 refine ite2 (λ_=>?_) (λ_=>?_)
 ·-- a great cell
  refine⟨_,rfl,_,rfl,x,m,rfl,⟨by lia,by lia⟩,λp hp=>?_⟩
  have S2:=l.new hp (.tup [.int (x/m),.int (x%m)]);have a5:p≠c:=(qA6 l.list hp).symm;refine⟨p,_,rfl,Ac0 qA1,rfl,_,_,rfl,?_⟩;refine⟨_,rfl,d,_,rfl,qMB S2,_,rfl,c,_,_,j,rfl,rfl,S2.list,qV1 (by rw[A0];exact hj),?_⟩
  refine⟨_,_,rfl,rfl,?_⟩;refine⟨_,rfl,?_⟩;have e1:(g.map V.int).set j (.int (x/m))=(g.set j (x/m)).map V.int:=by rw[B20]
  rw[e1];refine q (x%m) (g.set j (x/m)) _ (X9 _ (by lia)) (U0 _ (by lia)) (S2.put (by rw[A47])) ?_
  have k2:=k1.trans (qDN (d:=d) (c:=c) hp (.tup [.int (x/m),.int (x%m)]));exactλb o e n1 n2=>by rw[qA8 n2];exact k2 b o e n1 n2
 ·have b1:0<=x%2147483629:=X9 _ (by decide)
  have b2:x%2147483629<2147483629:=U0 _ (by decide)
  refine⟨_,rfl,_,_,rfl,rfl,(by show(0:Int)<2147483629;decide),_,rfl,_,rfl,_,_,rfl,rfl,.inl ⟨by lia,by lia⟩,_,_,rfl,rfl,.inr ⟨by decide,by decide⟩,_,_,rfl,rfl,_,_,rfl,rfl,_,_,rfl,rfl,.inr ⟨by decide,by decide⟩,_,_,rfl,rfl,(by show(0:Int)<2147483647;decide),?_⟩
  have c1:=X9 ((x%2147483629+(t+1)*(t+1)*7919+11)*48271) (b:=2147483647) (by decide)
  have c2:=U0 ((x%2147483629+(t+1)*(t+1)*7919+11)*48271) (b:=2147483647) (by decide)
  dsimp only;generalize ((x%2147483629+(t+1)*(t+1)*7919+11)*48271)%2147483647=y at c1 c2;refine⟨_,rfl,_,rfl,_,_,rfl,rfl,.inl ⟨by lia,by lia⟩,_,_,rfl,rfl,(by show(0:Int)<2147483587;decide),?_⟩
  dsimp only;generalize y*y%2147483587=z;refine⟨_,rfl,_,rfl,_,_,rfl,rfl,.inr ⟨by decide,by decide⟩,_,_,rfl,rfl,_,_,rfl,rfl,.inr ⟨by decide,by decide⟩,_,_,rfl,rfl,(by show(0:Int)<2147483629;decide),_,_,rfl,rfl,⟨by decide,by decide⟩,_,rfl,_,_,rfl,rfl,(by lia),?_⟩
  exact q _ g _ (X9 _ (by lia)) (U0 _ (by lia)) l k1
theorem sc_Lsome_needs:FnScope ["_law_state","_law_k","_law_found","_law_turn","_law_far"] ["_law_state","_law_k"] (qAB qD3):=qBT
theorem ok_Lsome_needs (F:Fun K "_law_some_needs" "_law_some_needs" qD3 f fd) (qBB:Clb P w K mg base 1 qF2 qFK "_law_take" ["_law_state","_law_many"] qIL)
  (qAZ:mg "range" = none) (qMM:mg "min" = none) (a8:mg "tuple" = none) (ad:mg "sorted" = none) (aj:mg "set" = none):FnOk P w K mg base CX0 2 f fd ["_law_state","_law_k"] qOJ:=by
 refine F.okA sc_Lsome_needs λan A ab s H vs Q E hr h=>?_;obtain⟨d,c,t,ns,k,rfl,S,ht,ap,ao,q⟩:=h;have as:t<=1000000000-20:=ht;have au:Room 1 _:=hr;refine⟨_,(qA4 (qAG (i:=2) sc_Lsome_needs.nd rfl (E2 rfl) (qBU qA3)) (qA4 (qBZ D5 rfl (qB8 rfl qAZ (qA0 (qAT qBB hr rfl (qA0 (pv 0) (qA0 qA7 qA3))) qA3)) (qAS (i:=3) sc_Lsome_needs.nd rfl (E2 rfl)) (qA4 (qAG (i:=4) sc_Lsome_needs.nd rfl (E2 rfl) (qB7 qCD (qBU (qA0 (qA9 (qJR rfl) rfl qMM qRO (qA0 (pv 1) (qA0 qA7 qA3))) (qA0 (pv 1) qA3))) (qAR qOZ (qAT qBB hr rfl (qA0 (pv 0) (qA0 qA7 qA3))) qA7) (λ_ _=>rfl))) (qA5 (qBD (qAN qXL (pv 1) qA7 (qAY _)) (qA5 (qCW (qLS F2 G8 G9 qC3 (pv 2) (qA0 (qAR qD0 (qAR qD0 (pv 1) qA7) (qAT qBB hr rfl (qA0 (pv 0) (qA0 (pv 4) qA3)))) qA3)))) qAM)))) (qA5 (qAE (qAD qAF rfl a8 qAO (qA0 (qA9 (qCU rfl) rfl ad qCE (qA0 (qAD (qGW rfl) rfl aj qO2 (qA0 (pv 2) qA3)) qA3)) qA3)))))),?_⟩
 try dsimp only[Cx.nox,Cx.wish,cxOf]
 refine cut λN0 aa=>?_;refine⟨(by show 0<=B77;decide),λl g=>?_⟩
 have S1:=S.new g (.lst []);have nd:l≠d:=(qA6 S.dict g).symm;have nc:l≠c:=(qA6 S.list g).symm;refine aa _ _ (cut λN1 ai=>?_);refine⟨_,rfl,d,c,t,ns,5,rfl,S1,(by show t<=1000000000;lia),by decide,by decide,λj ah H1 j0 j5 S2 K2=>?_⟩
 refine ⟨j,rfl,by lia,by lia,qE0 (lo:=0) (n:=j.toNat) (fun i σ Hc=>∃ (t':Int) (ms fs:List Int) (v1 v2:Option V),σ=[some (.ref d),some (.int k),some (.ref l),v1,v2]/\StAt Hc d c t' ms/\t<=t'/\t'<=t+1+2 * i/\Keep d c H Hc/\
  Hc l=some (.lst (fs.map V.int))/\fs.length<=i/\∀x∈fs,0<=x/\x<k)
  ⟨t+1,ah,[],none,none,rfl,S2,by lia,by lia,(qDN g _).trans K2,K2 _ _ qA1 nd nc,A6 _,λ_ z=>nomatch z⟩ ?_ ?_⟩
 ·refineλi σ Hc hi v=>opq λaq a3=>?_;obtain⟨t',ms,fs,v1,v2,rfl,S3,a1,a2,K3,h3,l3,m3⟩:=v;refine a3 ?_;have am:(i:Int)<5:=by lia
  -- far
  refine nmD λD1 d1 dr=>cut λM0 ac=>?_;refine⟨_,rfl,k,4,rfl,_,rfl,(by show 2<=B77;decide),λp m=>?_⟩
  have S4:=S3.new m (.lst [.int (if(4:Int)<k then 4 else k),.int k])
  have a9:p≠d:=(qA6 S3.dict m).symm;have ak:p≠c:=(qA6 S3.list m).symm;refine⟨_,rfl,d,c,t',ms,4,rfl,S4,(by show t'<=1000000000;lia),by decide,by decide,λk2 a7 H2 g0 g4 S5 K5=>?_⟩
  obtain⟨far,a6,ef⟩:=qe0 (a:=if(4:Int)<k then 4 else k) (b:=k) g0 g4
  have al:far<=k:=by rcases ef with e|e<;>(subst e;first|lia|(split<;>lia))
  have y:0<k->1<=far:=λhk=>by rcases ef with e|e<;>(subst e;first|lia|(split<;>lia))
  refine⟨_,_,rfl,rfl,⟨by decide,by decide⟩,p,_,_,_,rfl,rfl,Ab2 (K5 _ _ qA1 a9 ak),a6,?_⟩
  have K6:=K3.trans ((qDN (d:=d) (c:=c) m (.lst [.int (if(4:Int)<k then 4 else k),.int k])).trans K5)
  have h6:H2 l=some (.lst (fs.map V.int)):=K5 _ _ (by rw[qA8 (qA6 h3 m)];exact h3) nd nc
  refine ac _ _ ?_;refine⟨_,rfl,_,_,rfl,rfl,_,rfl,?_⟩;refine ite2 (λck=>?_) (λck=>?_)
  ·have hk:0<k:=of_decide_eq_true ck;refine⟨_,rfl,.inl ⟨rfl,_,Ab2 h6⟩,_,rfl,_,_,rfl,rfl,_,rfl,_,rfl,d,c,t'+1,a7,far,rfl,S5,(by show t'+1<=1000000000;lia),y hk,by lia,λk3 a4 H3 c0 c1 S6 K7=>?_⟩
   have h7:=K7 _ _ h6 nd nc;refine⟨_,_,rfl,rfl,l,_,_,rfl,rfl,h7,qAH (by rw[A0];lia),?_⟩
   have S8:StAt (Ag H3 l (.lst (fs.map V.int++[.int (k-1-k3)]))) d c (t'+1+1) a4:=⟨by rw[qA8 (F5 nd)];exact S6.dict,by rw[qA8 (F5 nc)];exact S6.list,S6.ne,S6.len,S6.pos⟩
   have hH:H l=none:=g;refine d1 _ _ ⟨t'+1+1,a4,fs++[k-1-k3],_,_,rfl,S8,by lia,by lia,λb o e n1 n2=>?_,?_,?_,λx hx=>?_⟩
   ·rw[qA8 (qA6 e hH)];exact(K6.trans K7) b o e n1 n2
   ·rw[qA1,B3];rfl
   ·rw[A8,C1];lia
   ·rcases B0.mp hx with hx|hx
    ·exact m3 x hx
    ·rw[A7.mp hx];lia
  ·exact d1 _ _ ⟨t'+1,a7,fs,_,_,rfl,S5,by lia,by lia,K6,h6,by lia,m3⟩
 ·refineλσ Hc a0=>opq λar u=>?_;obtain⟨t',ms,fs,v1,v2,rfl,S3,a1,a2,K3,h3,l3,m3⟩:=a0;refine u ?_;refine ai _ _ ?_;refine⟨_,rfl,l,fs,rfl,Ab2 h3,by lia,λa ha=>?_⟩
  have ag:=qA2 ha (SetM w a (dedI fs));refine⟨a,dedI fs,rfl,qA1,λb zs hb m hs=>?_⟩;have af:=ag.trans (qA2 hb (.lst (zs.map V.int)));refine⟨b,_,rfl,.inl ⟨Ab2 qA1,λr ae=>?_⟩⟩;have a5:=af.trans (qA2 ae (.tup (zs.map V.int)));exact q r zs t' ms _ (S3.same a5) (by lia) (by lia) (K3.trans (.of_same a5)) qA1 (qGD m hs m3)
theorem sc_Ltree_net:FnScope ["_law_state","_law_many","_law_open_ones","_law_found","_law_k","_law_so_many"] ["_law_state","_law_many"] (qAB qE4):=qBT
theorem ok_Ltree_net (F:Fun K "_law_tree_net" "_law_tree_net" qE4 f fd) (qBB:Clb P w K mg base 1 qF2 qFK "_law_take" ["_law_state","_law_many"] qIL)
  (qAZ:mg "range" = none) (qMM:mg "min" = none) (a6:mg "tuple" = none) (qBI:mg "len" = none):FnOk P w K mg base CX0 2 f fd ["_law_state","_law_many"] qYS:=by
 refine F.okA sc_Ltree_net λb0 A aj s H vs Q E hr h=>?_;obtain⟨d,c,t,ns,m,rfl,S,ht,b1,az,q⟩:=h;have b3:t<=1000000000-1000:=ht;have b4:Room 1 _:=hr;refine⟨_,(qA4 (qAG (i:=2) sc_Ltree_net.nd rfl (E2 rfl) (qBU qA3)) (qA4 (qAG (i:=3) sc_Ltree_net.nd rfl (E2 rfl) (qBU qA3)) (qA4 (qBZ D5 rfl (qB8 rfl qAZ (qA0 (qAR qD0 (pv 1) qA7) qA3)) (qAS (i:=4) sc_Ltree_net.nd rfl (E2 rfl)) (qA4 (qAG (i:=5) sc_Ltree_net.nd rfl (E2 rfl) (qA9 (qJR rfl) rfl qMM qRO (qA0 (qA9 qAC rfl qBI qBH (qA0 (pv 2) qA3)) (qA0 (qB7 qCD (qBU (qA0 qA7 (qA0 qA7 (qA0 qA7 (qA0 qA7 (qA0 qA7 (qA0 qA7 qA3))))))) (qAT qBB hr rfl (qA0 (pv 0) (qA0 qA7 qA3))) (λ_ _=>rfl)) qA3)))) (qA4 (qCW (qLS F2 G8 G9 qC3 (pv 3) (qA0 (qAD qAF rfl a6 qAO (qA0 (qE6 qOL (pv 2) (qFV (qAR qD0 (qA9 qAC rfl qBI qBH (qA0 (pv 2) qA3)) (pv 5))) qFW) qA3)) qA3))) (qA5 (qAG (i:=2) sc_Ltree_net.nd rfl (E2 rfl) (qAR qQY (qE6 qOL (pv 2) qFW (qFV (qAR qD0 (qA9 qAC rfl qBI qBH (qA0 (pv 2) qA3)) (pv 5)))) (qBU (qA0 (pv 4) qA3)))))))) (qA5 (qAE (qAD qAF rfl a6 qAO (qA0 (qAR qQY (pv 3) (qBU (qA0 (qAD qAF rfl a6 qAO (qA0 (pv 2) qA3)) qA3))) qA3))))))),?_⟩
 try dsimp only[Cx.nox,Cx.wish,cxOf]
 refine cut λN0 ai=>?_;refine⟨(by show 0<=B77;decide),λo0 a4=>?_⟩
 refine ai _ _ (cut λN1 as=>?_);have S1:=S.new a4 (.lst []);refine⟨(by show 0<=B77;decide),λj a0=>?_⟩
 have S2:=S1.new a0 (.lst []);have nd:j ≠ d:=(qA6 S1.dict a0).symm;have nc:j ≠ c:=(qA6 S1.list a0).symm;have ad:o0 ≠ j:=qA6 qA1 a0;have hF:H j=none:=(qA2 a4 _).free a0;refine as _ _ (cut fun N2 an=>?_);refine ⟨_,rfl,_,_,rfl,rfl,m - 1,rfl,by lia,by lia,qE0 (lo:=0) (n:=(m - 1).toNat) (fun i σ Hc=>∃ (t':Int) (ms os:List Int) (o:Addr) (rs:List Addr) (Ae:Aa0) (v1 v2:Option V),σ=[some (.ref d),some (.int m),some (.ref o),some (.ref j),v1,v2]/\StAt Hc d c t' ms/\t<=t'/\t'<=t+i/\Keep d c H Hc/\
  Hc o=some (.lst (os.map V.int))/\(o≠j/\o≠c)/\Hc j=some (.lst (rs.map V.ref))/\NetL Hc rs Ae/\Ae.length=i/\WFn Ae/\Rise (i:Int) os)
  ⟨t,ns,[],o0,[],[],none,none,rfl,S2,by lia,by lia,(qDN a4 _).trans (qDN a0 _),by rw[qA8 ad];exact qA1,⟨ad,(qA6 S.list a4).symm⟩,qA1,.nil,rfl,WFn.nil,Rise.nil⟩ ?_ ?_⟩
 ·refineλi σ Hc hi ab=>opq λay af=>?_;obtain⟨t',ms,os,o,rs,Ae,v1,v2,rfl,S3,a1,a2,K3,h3,⟨n3,aa⟩,f3,N3,l3,w3,r3⟩:=ab;refine af ?_;have ax:os.length<=i:=r3.len;refine nmD λD1 d1 dr=>cut λM0 ak=>?_;refine⟨_,rfl,o,_,rfl,.inl (Ab2 h3),(by show 6<=B77;decide),λp hp=>?_⟩
  have S4:=S3.new hp (.lst [.int 0,.int 0,.int 1,.int 2,.int 2,.int 3]);have ag:p≠d:=(qA6 S3.dict hp).symm;have au:p≠c:=(qA6 S3.list hp).symm;refine⟨_,rfl,d,c,t',ms,6,rfl,S4,(by show t'<=1000000000;lia),by decide,by decide,λk2 ae H2 g0 g6 S5 K5=>?_⟩
  obtain⟨v,hv,v0,v3⟩:=qdZ g0 g6;refine⟨p,_,_,_,rfl,rfl,Ab2 (K5 _ _ qA1 ag au),hv,?_⟩;have sm:Same Hc (Ag Hc p (.lst [.int 0,.int 0,.int 1,.int 2,.int 2,.int 3])):=qA2 hp _;have K6:=(Keep.of_same (d:=d) (c:=c) sm).trans K5;have aq:o≠d:=qCA h3 S3.dict (by intro z;cases z)
  have h6:H2 o=some (.lst (os.map V.int)):=K6 _ _ h3 aq aa;have f6:H2 j=some (.lst (rs.map V.ref)):=K6 _ _ f3 nd nc;have N6:NetL H2 rs Ae:=N3.keep (λr zs e=>S3.tup e) K6;refine⟨_,_,rfl,?_⟩;dsimp only;have am:0<=(if v<(((os.map V.int).length:Nat):Int) then v else(((os.map V.int).length:Nat):Int)):=by split<;>lia
  have ar:(if v<(((os.map V.int).length:Nat):Int) then v else(((os.map V.int).length:Nat):Int))<=(os.length:Int):=by rw[A0];split<;>lia
  generalize (if v<(((os.map V.int).length:Nat):Int) then v else(((os.map V.int).length:Nat):Int))=so at am ar
  obtain⟨g,ek⟩:∃g:Nat,(os.length:Int)-so=(g:Int):=⟨((os.length:Int)-so).toNat,by lia⟩
  have a9:(((os.map V.int).length:Nat):Int)-so=(g:Int):=by rw[A0];exact ek
  have ah:g<=os.length:=by lia
  -- found.append(tuple(open_ones[len(open_ones)-so_many:]))
  refine ak _ _ (cut λM1 al=>?_);refine⟨_,rfl,.inl ⟨rfl,_,Ab2 f6⟩,_,rfl,_,rfl,o,_,rfl,.inl (Ab2 h6),_,rfl,_,_,rfl,rfl,_,rfl,o,_,rfl,Ab2 h6,λp1 ap=>?_⟩;refine⟨p1,_,rfl,.inl ⟨Ab2 qA1,λr a5=>?_⟩⟩;rw[a9,qIA,qNY _ _ ah] at a5 ⊢;have x:=(qA2 ap (.lst ((os.drop g).map V.int))).trans (qA2 a5 (.tup ((os.drop g).map V.int)));have f7:=x _ _ f6;have h7:=x _ _ h6;have N7:NetL _ (rs++[r]) (Ae++[os.drop g]):=qCC (N6.same λr zs e=>x _ _ e) (show(Ag (Ag H2 p1 (.lst ((os.drop g).map V.int))) r (.tup ((os.drop g).map V.int))) r=some (.tup ((os.drop g).map V.int)) from qA1);have S7:=S5.same x;have K7:=K6.trans (.of_same x);generalize (Ag (Ag H2 p1 (.lst ((os.drop g).map V.int))) r (.tup ((os.drop g).map V.int)))=H7 at f7 h7 N7 S7 K7 ⊢;refine⟨j,_,_,rfl,rfl,f7,qAH (by rw[A0,NetAt.len N3];lia),?_⟩
  have e8:rs.map V.ref++[V.ref r]=(rs++[r]).map V.ref:=by rw[B3];rfl
  rw[e8];have S8:StAt (Ag H7 j (.lst ((rs++[r]).map V.ref))) d c (t'+1) ae:=⟨by rw[qA8 (F5 nd)];exact S7.dict,by rw[qA8 (F5 nc)];exact S7.list,S7.ne,S7.len,S7.pos⟩
  have h8:(Ag H7 j (.lst ((rs++[r]).map V.ref))) o=some (.lst (os.map V.int)):=by rw[qA8 n3];exact h7
  have N8:NetL (Ag H7 j (.lst ((rs++[r]).map V.ref))) (rs++[r]) (Ae++[os.drop g]):=N7.same λr' zs e=>by rw[qA8 (qCA e f7 (by intro z;cases z))];exact e
  have K8:Keep d c H (Ag H7 j (.lst ((rs++[r]).map V.ref))):=λb u e n1 n2=>by rw[qA8 (qA6 e hF)];exact(K3.trans K7) b u e n1 n2
  have f8:(Ag H7 j (.lst ((rs++[r]).map V.ref))) j=some (.lst ((rs++[r]).map V.ref)):=qA1;generalize Ag H7 j (.lst ((rs++[r]).map V.ref))=H8 at S8 h8 N8 K8 f8 ⊢
  -- open_ones=open_ones[:len(open_ones)-so_many]+[k]
  refine al _ _ ?_;refine⟨_,rfl,_,rfl,o,_,rfl,.inl (Ab2 h8),_,rfl,_,_,rfl,rfl,_,rfl,o,_,rfl,Ab2 h8,λp2 y=>?_⟩;rw[a9,qIA,qb2];refine⟨_,rfl,(by show 1<=B77;decide),λp3 a3=>?_⟩
  have aw:p2≠p3:=qA6 qA1 a3;refine⟨p2,p3,_,_,rfl,rfl,by rw[qA8 aw];exact qA1,qA1,T5 (qAH (by rw[A0,C5,C1];lia)),λp4 a7=>?_⟩
  have l:=((qA2 y (.lst ((os.take g).map V.int))).trans (qA2 a3 (.lst [.int (0+(i:Int))]))).trans (qA2 a7 (.lst ((os.take g).map V.int++[.int (0+(i:Int))])));have e9:(os.take g).map V.int++[V.int (0+(i:Int))]=(os.take g++[(i:Int)]).map V.int:=by rw[B3,B19];rfl
  have ao:p4≠j:=(qA6 ((qA2 a3 _) _ _ ((qA2 y _) _ _ f8)) a7).symm;have av:p4≠c:=(qA6 ((qA2 a3 _) _ _ ((qA2 y _) _ _ S8.list)) a7).symm;refine d1 _ _ ⟨t'+1,ae,os.take g++[(i:Int)],p4,rs++[r],Ae++[os.drop g],_,_,rfl,S8.same l,by lia,by lia,K8.trans (.of_same l),by rw[<- e9];exact qA1,⟨ao,av⟩,l _ _ f8,N8.same λr' zs e=>l _ _ e,by rw[A8,C1,l3],w3.snoc ?_,?_⟩
  ·rw[l3];exact r3.sub (V4 _ _)
  ·have:=(r3.sub (Y1 g os)).snoc (by lia)
   rw[show((i+1:Nat):Int)=(i:Int)+1 by lia]
   exact this
 ·refineλσ Hc a8=>opq λb2 ac=>?_;obtain⟨t',ms,os,o,rs,Ae,v1,v2,rfl,S3,a1,a2,K3,h3,⟨n3,aa⟩,f3,N3,l3,w3,r3⟩:=a8;refine ac ?_;refine an _ _ ?_;refine⟨_,rfl,_,rfl,o,_,rfl,.inl ⟨Ab2 h3,λr a5=>?_⟩⟩;refine⟨(by show 1<=B77;decide),λp hp=>?_⟩
  have x:=(qA2 a5 (.tup (os.map V.int))).trans (qA2 hp (.lst [.ref r]));refine⟨j,p,_,_,rfl,rfl,x _ _ f3,qA1,T5 (qAH (by rw[A0,NetAt.len N3,C1];lia)),λp2 y=>?_⟩
  refine⟨p2,_,rfl,.inl ⟨Ab2 qA1,λa ha=>?_⟩⟩;have l:=(x.trans (qA2 y (.lst (rs.map V.ref++[.ref r])))).trans (qA2 ha (.tup (rs.map V.ref++[.ref r])));have gr:=(qA2 ha (.tup (rs.map V.ref++[.ref r]))) _ _ ((qA2 y (.lst (rs.map V.ref++[.ref r]))) _ _ ((qA2 hp (.lst [.ref r])) r _ (qA1 (H:=Hc) (o:=.tup (os.map V.int)))));have e8:rs.map V.ref++[V.ref r]=(rs++[r]).map V.ref:=by rw[B3];rfl
  refine q a (Ae++[os]) t' ms _ (S3.same l) (by lia) (by lia) (K3.trans (.of_same l)) ⟨rs++[r],by rw[<- e8];exact qA1,qCC (N3.same λr' zs e=>l _ _ e) gr⟩ (w3.snoc (by rw[l3];exact r3)) ?_
  rw[A8,C1,l3]
  lia
theorem sc_Lnet:FnScope ["_law_state","_law_many","_law_way","_law_wide","_law_some","_law_half"] ["_law_state","_law_many"] (qAB qQE):=qBT
theorem ok_Lnet (F:Fun K "_law_net" "_law_net" qQE f fd) (qBB:Clb P w K mg base 1 qF2 qFK "_law_take" ["_law_state","_law_many"] qIL)
  (bb:Clb P w K mg base 2 qEB qK8 "_law_some_needs" ["_law_state","_law_k"] qOJ)
  (cm:Clb P w K mg base 2 qG1 qNR "_law_tree_net" ["_law_state","_law_many"] qYS)
  (qAZ:mg "range" = none) (c3:mg "max" = none) (be:mg "int" = none) (ce:mg "enumerate" = none) (aa:mg "tuple" = none) (c9:mg "sorted" = none) (cj:mg "set" = none):FnOk P w K mg base CX0 3 f fd ["_law_state","_law_many"] qbP:=by
 refine F.okA sc_Lnet λcz A c4 s H vs Q E hr h=>?_;obtain⟨d,c,t,ns,m,rfl,S,ht,c7,c0,q⟩:=h;have d6:t<=1000000000-10000:=ht;have d0:Room 2 _:=hr;have cw:Room 2 _:=hr;refine⟨_,(qA4 (qAG (i:=2) sc_Lnet.nd rfl (E2 rfl) (qAT qBB hr rfl (qA0 (pv 0) (qA0 qA7 qA3)))) (qA4 (qAG (i:=3) sc_Lnet.nd rfl (q9 rfl) (qAR qEH qA7 (qAT qBB hr rfl (qA0 (pv 0) (qA0 qA7 qA3))))) (qA4 (qBD (qAN qET (pv 2) qA7 (qAY _)) (qA5 (qAE (qAD qAF rfl aa qAO (qA0 (qC9 rfl (lcs (own:=["_law_k"]) (fv:=[3]) (by kernel_rfl)) (qB8 rfl qAZ (qA0 (pv 1) qA3)) (λz1=>qBJ 0) (λz1=>qB0) (λz1=>(qAD (qKB rfl) rfl aa qAO (qA0 (qAD qW8 rfl qAZ qYL (qA0 (qA9 (qW9 rfl) rfl c3 qd0 (qA0 qA7 (qA0 (qAR qD0 (pv 0) (pv 1)) qA3))) (qA0 (pv 0) qA3))) qA3)))) qA3)))) qAM) (qA4 (qBD (qAN qET (pv 2) qA7 (qAY _)) (qA4 (qOT (i:=4) sc_Lnet.nd rfl rfl rfl (lcs (own:=["_law_k"]) (fv:=[3]) (by kernel_rfl)) (qB8 rfl qAZ (qA0 (pv 1) qA3)) (λz2=>qBJ 0) (λz2=>qB0) (λz2=>(qAR qQY (qAR qUC (qBU (qA0 (qAR qD0 (pv 0) (pv 1)) qA3)) (qAD qJS rfl be qL2 (qA0 (qDC qXM (pv 0) (pv 1) (qAY _)) qA3))) (qAR qUC (qBU (qA0 (qAR qD0 (pv 0) qA7) qA3)) (qAD qJS rfl be qL2 (qA0 (qDC qXL (qAR qJ1 (pv 0) (pv 1)) qA7 (qAY _)) qA3))))) (by kernel_rfl)) (qA5 (qAE (qAD qAF rfl aa qAO (qA0 (qC9 rfl (lcs (own:=["_law_needs"]) (fv:=[]) (by kernel_rfl)) (qCX (pv 4)) (λz3=>qBJ 0) (λz3=>qB0) (λz3=>(qAD (qEE (K:=K) rfl) rfl aa qAO (qA0 (qA9 (qMF (w:=w) rfl rfl) rfl c9 qCE (qA0 (qAD (qSY (K:=K) (w:=w) rfl rfl rfl) rfl cj qO2 (qA0 (pv 0) qA3)) qA3)) qA3)))) qA3))))) qAM) (qA4 (qBD (qAN qET (pv 2) qA7 (qAY _)) (qA5 (qAE (qAT cm hr rfl (qA0 (pv 0) (qA0 (pv 1) qA3))))) qAM) (qA4 (qBD (qAN qET (pv 2) qA7 (qAY _)) (qA4 (qAG (i:=5) sc_Lnet.nd rfl (q9 rfl) (qAR qOZ (pv 1) qA7)) (qA4 (qOT (i:=4) sc_Lnet.nd rfl rfl rfl (lcs (own:=["_law_k"]) (fv:=[0,5]) (by kernel_rfl)) (qB8 rfl qAZ (qA0 (pv 1) qA3)) (λz4=>qBJ 0) (λz4=>qB0) (λz4=>(qAT bb hr rfl (qA0 (pv 1) (qA0 (qGG (qAN qOY (pv 0) (pv 2) (qAY _)) (pv 0) (qAR qD0 (pv 0) (pv 2))) qA3)))) (by kernel_rfl)) (qA5 (qAE (qAD qAF rfl aa qAO (qA0 (qC9 rfl (lcs (own:=["_law_k","_law_needs"]) (fv:=[5]) (by kernel_rfl)) (qU1 rfl ce qCV (qA0 (pv 4) qA3)) (λz5=>qH2 (K:=K) (n:=2) rfl rfl (qAW (qBJ 0) (qAW (qBJ 1) qDA)) rfl rfl) (λz5=>qB0) (λz5=>(qGG (qAN qOY (pv 0) (pv 2) (qAY _)) (pv 1) (qAD (qEE (K:=K) rfl) rfl aa qAO (qA0 (qC9 (X:=lcCx _ _ _ _ z5) rfl (lcs (own:=["_law_n"]) (fv:=[2]) (by kernel_rfl)) (qLQ (K:=K) rfl (pv 1)) (λz6=>qBJ 0) (λz6=>qB0) (λz6=>(qAR qEH (pv 0) (pv 1)))) qA3))))) qA3)))))) qAM) (qA5 (qAE (qAD qAF rfl aa qAO (qA0 (qC9 rfl (lcs (own:=["_law_k"]) (fv:=[0]) (by kernel_rfl)) (qB8 rfl qAZ (qA0 (pv 1) qA3)) (λz7=>qBJ 0) (λz7=>qB0) (λz7=>(qAT bb hr rfl (qA0 (pv 1) (qA0 (pv 0) qA3))))) qA3)))))))))),?_⟩
 try dsimp only[Cx.nox,Cx.wish,cxOf]
 refine cut λN1 cg=>?_;refine⟨_,rfl,d,c,t,ns,8,rfl,S,(by show t<=1000000000;lia),by decide,by decide,λd9 cd H1 w0 w8 S1 K1=>?_⟩
 refine cg _ _ (cut λN2 ca=>?_);refine⟨_,rfl,d,c,t+1,cd,4,rfl,S1,(by show t+1<=1000000000;lia),by decide,by decide,λwd ae H2 cy d3 S2 K2=>⟨_,_,rfl,rfl,?_⟩⟩
 dsimp only;have ah:=K1.trans K2;generalize hwide:(1:Int)+wd=g;have cu:1<=g:=by lia
 have d1:g<=4:=by lia
 refine ca _ _ (cut λN3 ch=>?_);refine⟨_,rfl,rfl,_,rfl,?_⟩;refine ite2 (λ_=>?_) (λ_=>?_)
 ·refine⟨_,rfl,m,rfl,by lia,by lia,λp hp=>?_⟩
  refine qDM (p:=p) (lo:=0) (n:=m.toNat) (λi σ Hc=>∃(v:Option V) (rs:List Addr) (Ae:Aa0),σ=[v,some (.int g)]/\Same H2 Hc/\Hc p=some (.lst (rs.map V.ref))/\NetL Hc rs Ae/\Ae.length=i/\WFn Ae) ?_ ?_ ?_
  ·exact⟨none,[],[],rfl,qA2 hp _,qA1,.nil,rfl,WFn.nil⟩
  ·refineλi σ Hc hi b8=>opq λd4 bh=>?_;obtain⟨v,rs,Ae,rfl,sm,l,N,hl,wf⟩:=b8;refine bh ?_;refine⟨_,rfl,_,rfl,_,_,rfl,rfl,0,_,rfl,_,rfl,_,_,rfl,λp1 bn=>?_⟩;refine⟨p1,_,_,rfl,qA1,by split<;>lia,by split<;>lia,by lia,by lia,λr a9=>?_⟩
   have cf:0<=(if(0+(i:Int))-g>0 then(0+(i:Int))-g else 0):=by split<;>lia
   have b9:=qOQ (hi:=0+(i:Int)) cf;dsimp only;rw[qOP];generalize qBM (if(0+(i:Int))-g>0 then(0+(i:Int))-g else 0) (0+(i:Int))=o at b9 ⊢
   generalize HO.rng (if(0+(i:Int))-g>0 then(0+(i:Int))-g else 0) (0+(i:Int))=ho at bn a9 ⊢
   have u:=(qA2 bn ho).trans (qA2 a9 (.tup (o.map V.int)));have g1:=u _ _ l;refine⟨_,g1,qAH (by rw[A0,NetAt.len N];lia),?_⟩
   rw[qB2];refine⟨_,rs++[r],Ae++[o],rfl,qAA (sm.trans u) hp,qA1,qD4 (qCC (N.same λr' ys e=>u _ _ e) qA1) g1,by rw[A8,C1,hl],wf.snoc ?_⟩
   rw[hl];exact b9.mono (by lia)
  ·refineλσ Hc bc=>opq λd5 b6=>?_;obtain⟨v,rs,Ae,rfl,sm,l,N,hl,wf⟩:=bc;refine b6 ?_;refine⟨p,_,rfl,.inl ⟨Ab2 l,λa ha=>?_⟩⟩;have u:=qA2 ha (.tup (rs.map V.ref));exact q a Ae (t+1+1) ae _ (S2.same (sm.trans u)) (by lia) (by lia) (ah.trans (.of_same (sm.trans u))) ⟨rs,qA1,N.same λr ys e=>u _ _ e⟩ wf (by rw[hl];lia)
 refine ch _ _ (cut λN4 cn=>?_);refine⟨_,rfl,rfl,_,rfl,?_⟩;refine ite2 (λ_=>?_) (λ_=>?_)
 ·refine⟨_,rfl,m,rfl,by lia,by lia,λp hp=>?_⟩
  refine qDM (p:=p) (lo:=0) (n:=m.toNat) (fun i σ Hc=>∃ (v:Option V) (rs:List Addr) (ls:Aa0),σ=[v,some (.int g)]/\Same H2 Hc/\Hc p=some (.lst (rs.map V.ref))/\Paired (fun r o=>r ≠ p/\Hc r=some (.lst (o.map V.int))) rs ls/\ls.length=i/\
   ∀(j:Nat) o,ls[j]?=some o->o.length<=2/\∀x∈o,0<=x/\x<(j:Int)) ?_ ?_ ?_
  ·exact⟨none,[],[],rfl,qA2 hp _,qA1,.nil,rfl,λj o e=>by simp at e⟩
  ·refineλi σ Hc hi bj=>opq λcx bt=>?_;obtain⟨v,rs,ls,rfl,sm,l,N,hl,wf⟩:=bj;refine bt ?_;refine⟨_,rfl,_,rfl,_,_,rfl,rfl,(by show 1<=B77;decide),λa1 bx=>?_⟩
   refine⟨_,rfl,_,rfl,_,_,rfl,rfl,.inr ⟨_,rfl,?_⟩⟩;refine⟨a1,_,_,rfl,rfl,qA1,by split<;>decide,by split<;>decide,?_,λa2 cl=>?_⟩
   ·have:∀b:Bool,[V.int (0+(i:Int)-g)].length*(if b=true then(1:Int) else 0).toNat<=B77:=by intro b;cases b<;>simp[B88]
    exact this _
   dsimp only;rw[qbW];refine⟨_,rfl,_,_,rfl,rfl,(by show 1<=B77;decide),λa3 bq=>?_⟩
   refine⟨_,rfl,_,rfl,_,_,rfl,rfl,(by show 0<g;lia),_,_,rfl,rfl,.inr ⟨_,rfl,?_⟩⟩
   refine⟨a3,_,_,rfl,rfl,qA1,by split<;>decide,by split<;>decide,?_,λa4 bu=>?_⟩
   ·have:∀b:Bool,[V.int (0+(i:Int)-1)].length*(if b=true then(1:Int) else 0).toNat<=B77:=by intro b;cases b<;>simp[B88]
    exact this _
   dsimp only;rw[qbW];have b1:∀x∈(if decide (g<=0+(i:Int))=true then[0+(i:Int)-g] else[]),0<=x/\x<(i:Int):=by
    intro x hx
    split at hx
    ·rename_i hd
     have:=of_decide_eq_true hd;rw[A7.mp hx];lia
    ·cases hx
   have b2:∀x∈(if decide (0<(0+(i:Int))%g)=true then[0+(i:Int)-1] else[]),0<=x/\x<(i:Int):=by
    intro x hx
    split at hx
    ·rename_i hd
     have bs:=of_decide_eq_true hd;have:(i:Int)≠0:=by
      intro e;rw[e] at bs;simp at bs
     rw[A7.mp hx];lia
    ·cases hx
   have c1:(if decide (g<=0+(i:Int))=true then[0+(i:Int)-g] else[]).length<=1:=by split<;>simp
   have c2:(if decide (0<(0+(i:Int))%g)=true then[0+(i:Int)-1] else[]).length<=1:=by split<;>simp
   generalize (if decide (g<=0+(i:Int))=true then[0+(i:Int)-g] else[])=z1 at b1 c1 bq bu ⊢
   generalize (if decide (0<(0+(i:Int))%g)=true then[0+(i:Int)-1] else[])=z2 at b2 c2 ⊢
   have s2:=(qA2 bq (.lst [.int (0+(i:Int)-1)])).trans (qA2 bu (.lst (z2.map V.int)));refine⟨a2,a4,_,_,rfl,rfl,s2 _ _ qA1,qA1,T5 (qAH (by rw[A0,A0];lia)),λa5 bo=>?_⟩
   have u:=(qA2 bx (.lst [.int (0+(i:Int)-g)])).trans (qA2 cl (.lst (z1.map V.int)));have s3:=(u.trans s2).trans (qA2 bo (.lst (z1.map V.int++z2.map V.int)));have e5:z1.map V.int++z2.map V.int=(z1++z2).map V.int:=by rw[B3]
   rw[e5] at s3 ⊢;have g1:=s3 _ _ l;have n5:a5≠p:=(qA6 ((u.trans s2) _ _ l) bo).symm;refine⟨_,g1,qAH (by rw[A0,C2 N];lia),?_⟩
   rw[qB2];refine⟨_,rs++[a5],ls++[z1++z2],rfl,qAA (sm.trans s3) hp,qA1,R9 (qKL N λr o e=>⟨e.1,by rw[qA8 e.1];exact s3 _ _ e.2⟩) ⟨n5,by rw[qA8 n5];exact qA1⟩,by rw[A8,C1,hl],λj o e=>?_⟩
   rcases qQC e with e|⟨rfl,rfl⟩
   ·exact wf j o e
   ·rw[hl];refine⟨by rw[A8];lia,λx hx=>?_⟩
    rcases B0.mp hx with hx|hx
    ·exact b1 x hx
    ·exact b2 x hx
  ·refineλσ Hc b5=>opq λd2 bk=>?_;obtain⟨v,rs,ls,rfl,sm,l,N,hl,wf⟩:=b5;refine bk ?_;refine⟨_,rfl,p,rfl,⟨_,Ab2 l⟩,λp' ac=>?_⟩;refine qEW (p:=p') (a:=p) (xs:=rs.map V.ref) (λi σ Hd=>∃(v:Option V) (rs':List Addr) (Ae:Aa0),σ=[v]/\Same Hc Hd/\Hd p'=some (.lst (rs'.map V.ref))/\NetL Hd rs' Ae/\Ae.length=i/\WFn Ae) ?_ ?_ ?_ ?_
   ·exact⟨none,[],[],rfl,qA2 ac _,qA1,.nil,rfl,WFn.nil⟩
   ·rintro i σ Hd hi ⟨v,rs',Ae,rfl,sm2,_⟩;exact Ab2 (sm2 _ _ l)
   ·refineλi x σ Hd hx bl=>opq λcv b7=>?_;obtain⟨v,rs',Ae,rfl,sm2,ab,N2,a0,a8⟩:=bl;obtain⟨r,a9,rfl⟩:=qCI hx;obtain⟨o,hz,_,b4⟩:=qAU N a9;obtain⟨l2,m2⟩:=wf i o hz;refine b7 ?_;refine⟨_,rfl,r,o,rfl,Ab2 (sm2 _ _ b4),by lia,λa ha=>?_⟩
    refine⟨a,dedI o,rfl,qA1,λb ys hb cc hs=>?_⟩;refine⟨b,_,rfl,.inl ⟨Ab2 qA1,λr2 ax=>?_⟩⟩;have u:=((qA2 ha (SetM w a (dedI o))).trans (qA2 hb (.lst (ys.map V.int)))).trans (qA2 ax (.tup (ys.map V.int)));have g1:=u _ _ ab;have bz:rs.length=m.toNat:=by rw[C2 N,hl]
    have hi:i<rs.length:=(A5.mp a9).1;refine⟨_,g1,qAH (by rw[A0,NetAt.len N2];lia),?_⟩
    rw[qB2];refine⟨_,rs'++[r2],Ae++[ys],rfl,qAA (sm2.trans u) ac,qA1,qD4 (qCC (N2.same λr' ba e=>u _ _ e) qA1) g1,by rw[A8,C1,a0],a8.snoc ?_⟩
    rw[a0];exact qGD cc hs m2
   ·refineλσ Hd bd=>opq λda bp=>?_;obtain⟨v,rs',Ae,rfl,sm2,ab,N2,a0,a8⟩:=bd;refine bp ?_;refine⟨p',_,rfl,.inl ⟨Ab2 ab,λa ha=>?_⟩⟩;have u:=qA2 ha (.tup (rs'.map V.ref));refine q a Ae (t+1+1) ae _ (S2.same ((sm.trans sm2).trans u)) (by lia) (by lia) (ah.trans (.of_same ((sm.trans sm2).trans u))) ⟨rs',qA1,N2.same λr ys e=>u _ _ e⟩ a8 ?_
    rw[a0,A0,C2 N,hl]
    lia
 refine cn _ _ (cut λN5 c6=>?_);refine⟨_,rfl,rfl,_,rfl,?_⟩;refine ite2 (λ_=>?_) (λ_=>?_)
 ·refine⟨_,rfl,_,rfl,d,c,t+1+1,ae,m,rfl,S2,?_,c7,c0,λa Ae t' ms H' a1 a2 a3 a4 a5 a6 a7=>?_⟩
  ·show t+1+1<=1000000000-1000;lia
  ·exact q a Ae t' ms H' a1 (by lia) (by lia) (ah.trans a4) a5 a6 a7
 refine c6 _ _ (cut λN6 bw=>?_);refine⟨_,rfl,rfl,_,rfl,?_⟩;refine ite2 (λ_=>?_) (λ_=>?_)
 ·refine⟨_,rfl,_,_,rfl,rfl,⟨by decide,by decide⟩,?_⟩
  dsimp only;have bm:0<=m/2:=by lia
  have cb:m/2<=m:=by lia
  generalize m/2=k at bm cb;refine⟨_,rfl,m,rfl,by lia,by lia,λp hp=>?_⟩
  refine qDM (p:=p) (lo:=0) (n:=m.toNat) (fun i σ Hc=>∃ (v:Option V) (t':Int) (ms:List Int) (rs:List Addr) (Ae:Aa0),σ=[v,some (.ref d),some (.int k)]/\StAt Hc d c t' ms/\t+2<=t'/\t'<=t+2+9 * i/\Keep d c H2 Hc/\Hc p=some (.lst (rs.map V.ref))/\NetL Hc rs Ae/\Ae.length=i/\
   ∀(j:Nat) o,Ae[j]?=some o->Rise (if(j:Int)<k then(j:Int) else(j:Int)-k) o) ?_ ?_ ?_
  ·exact⟨none,t+1+1,ae,[],[],rfl,S2.new hp _,by lia,by lia,qDN hp _,qA1,.nil,rfl,λj o e=>by simp at e⟩
  ·refine fun i σ Hc hi bi=>opq fun d8 br=>?_;obtain ⟨v,t',ms,rs,Ae,rfl,S3,b1,b2,k3,l,N,hl,wf⟩:=bi;refine br ?_;have ad:p ≠ d:=(qA6 S2.dict hp).symm;have ag:p ≠ c:=(qA6 S2.list hp).symm;have nx:∀ (kk:Int),kk=(if (i:Int)<k then (i:Int) else (i:Int) - k)->qOJ [.ref d,.int kk] Hc (fun y H4=>∃ ys,H4 p=some (.lst ys)/\ys.length<B77/\∃ (v:Option V) (t':Int) (ms:List Int) (rs:List Addr) (Ae:Aa0),[some (V.int (0+(i:Int))),some (.ref d),some (.int k)]=[v,some (.ref d),some (.int k)]/\StAt (Ag H4 p (.lst (ys++[y]))) d c t' ms/\t+2<=t'/\t'<=t+2+9 * (i+1:Nat)/\Keep d c H2 (Ag H4 p (.lst (ys++[y])))/\(Ag H4 p (.lst (ys++[y]))) p=some (.lst (rs.map V.ref))/\NetL (Ag H4 p (.lst (ys++[y]))) rs Ae/\Ae.length=i+1/\
     ∀(j:Nat) o,Ae[j]?=some o->Rise (if(j:Int)<k then(j:Int) else(j:Int)-k) o) E0:=by
    intro kk ek;refine⟨d,c,t',ms,kk,rfl,S3,(by show t'<=1000000000-20;lia),by rw[ek];split<;>lia,by rw[ek];split<;>lia,λr o av ay H3 e1 e2 e3 e4 e5 e6=>?_⟩
    have g1:=e4 _ _ l ad ag;refine⟨_,g1,qAH (by rw[A0,NetAt.len N];lia),?_⟩
    rw[qB2];refine⟨_,av,ay,rs++[r],Ae++[o],rfl,⟨by rw[qA8 (F5 ad)];exact e1.dict,by rw[qA8 (F5 ag)];exact e1.list,e1.ne,e1.len,e1.pos⟩,by lia,by lia,qR9 (k3.trans e4) hp,qA1,qD4 (qCC (N.keep (λr ys e=>S3.tup e) e4) e5) g1,by rw[A8,C1,hl],λj ys e=>?_⟩
    rcases qQC e with e|⟨rfl,rfl⟩
    ·exact wf j ys e
    ·rw[hl,<- ek];exact e6
   refine⟨_,rfl,_,rfl,_,rfl,_,_,rfl,rfl,_,rfl,?_⟩;refine ite2 (λck=>?_) (λck=>?_)
   ·have af:0+(i:Int)<k:=of_decide_eq_true ck;exact⟨_,rfl,nx _ (by rw[if_pos (by lia)];lia)⟩
   ·have af:¬0+(i:Int)<k:=of_decide_eq_false (F7.mpr ck);exact⟨_,rfl,_,rfl,_,_,rfl,rfl,nx _ (by rw[if_neg (by lia)];lia)⟩
  ·refineλσ Hc bv=>opq λd7 bg=>?_;obtain⟨v,t',ms,rs,Ae,rfl,S3,b1,b2,k3,l,N,hl,wf⟩:=bv;refine bg ?_;have bz:rs.length=m.toNat:=by rw[C2 N,hl]
   refine⟨_,rfl,p,rfl,⟨_,Ab2 l⟩,λp' ac=>?_⟩;refine qPB (p:=p') (a:=p) (xs:=rs.map V.ref) (λi σ Hd=>∃(v1 v2:Option V) (rs':List Addr) (net':Aa0),σ=[v1,v2,some (.int k)]/\Same Hc Hd/\Hd p'=some (.lst (rs'.map V.ref))/\NetL Hd rs' net'/\net'.length=i/\WFn net') ?_ ?_ ?_ ?_
   ·exact⟨none,none,[],[],rfl,qA2 ac _,qA1,.nil,rfl,WFn.nil⟩
   ·rintro i σ Hd hi ⟨v1,v2,rs',net',rfl,sm2,_⟩;exact Ab2 (sm2 _ _ l)
   ·refineλi x σ Hd T hx ar hT=>opq λco al=>?_;obtain⟨v1,v2,rs',net',rfl,sm2,ab,N2,a0,a8⟩:=ar;obtain⟨r,a9,rfl⟩:=qCI hx;obtain⟨o,hz,b4⟩:=qAU N a9;refine al ?_;have hi:i<rs.length:=(A5.mp a9).1;have rz:=wf i o hz;have sT:=qA2 hT (.tup [.int (i:Int),.ref r]);have ai:=sT _ _ (sm2 _ _ b4);have aj:=sT _ _ ab;have NT:=N2.same λr' ba e=>sT _ _ e;have aw:=sm2.trans sT;have gT:SqT K (Ag Hd T (.tup [.int (i:Int),.ref r])) T [.int (i:Int),.ref r]:=Ac0 qA1;generalize Ag Hd T (.tup [.int (i:Int),.ref r])=ci at ai aj NT aw gT ⊢;refine⟨T,_,rfl,gT,rfl,_,_,rfl,_,_,rfl,rfl,?_⟩;refine⟨_,rfl,_,rfl,_,_,rfl,rfl,_,rfl,?_⟩;refine ite2 (λck=>?_) (λck=>?_)
    ·have af:(i:Int)<k:=of_decide_eq_true ck;rw[if_pos af] at rz;refine⟨_,rfl,_,aj,qAH (by rw[A0,NetAt.len N2];lia),?_⟩
     rw[qB2];refine⟨_,_,rs'++[r],net'++[o],rfl,qAA aw ac,qA1,qD4 (qCC NT ai) aj,by rw[A8,C1,a0],a8.snoc ?_⟩
     rw[a0];exact rz
    ·have af:¬(i:Int)<k:=of_decide_eq_false (F7.mpr ck);rw[if_neg af] at rz;have lz:o.length<=i:=by
      have e:((i:Int)-k)=(((i:Int)-k).toNat:Nat):=by lia
      rw[e] at rz;have:=rz.len
      lia
     refine⟨_,rfl,r,rfl,⟨_,Ac0 ai⟩,λp2 bf=>?_⟩;refine qDL (p:=p2) (a:=r) (xs:=o.map V.int) (λj σ He=>∃(v:Option V),σ=[v,some (.int k)]/\Same ci He/\He p2=some (.lst (((o.take j).map (·+k)).map V.int))) ?_ ?_ ?_ ?_
     ·exact⟨none,rfl,qA2 bf _,qA1⟩
     ·rintro j σ He hj ⟨v,rfl,sm3,_⟩;exact Ac0 (sm3 _ _ ai)
     ·refineλj x σ He c5 ap=>opq λcq ao=>?_;obtain⟨v,rfl,sm3,ak⟩:=ap;obtain⟨z,c8,rfl⟩:=qB1 c5;refine ao ?_;refine⟨_,rfl,_,rfl,_,_,rfl,rfl,_,ak,qAH (by rw[A0,A0,C5];lia),_,rfl,qAA sm3 bf,?_⟩
      rw[qA1,C9,c8,D2,B3,B3]
      rfl
     ·refineλσ He b0=>opq λcs as=>?_;obtain⟨v,rfl,sm3,ak⟩:=b0;refine as ?_;rw[A0,C6 (A6 _)] at ak;refine⟨p2,_,rfl,.inl ⟨Ab2 ak,λr2 ax=>?_⟩⟩;have u:=qA2 ax (.tup ((o.map (·+k)).map V.int));have s2:=sm3.trans u;have g1:=s2 _ _ aj;refine⟨_,g1,qAH (by rw[A0,NetAt.len N2];lia),?_⟩
      rw[qB2];refine⟨_,_,rs'++[r2],net'++[o.map (·+k)],rfl,qAA (aw.trans s2) ac,qA1,qD4 (qCC (NT.same λr' ba e=>s2 _ _ e) qA1) g1,by rw[A8,C1,a0],a8.snoc ?_⟩
      rw[a0];have:=rz.shift bm;rw[show(i:Int)-k+k=(i:Int) by lia] at this
      exact this
   ·refineλσ Hd an=>opq λcp b3=>?_;obtain⟨v1,v2,rs',net',rfl,sm2,ab,N2,a0,a8⟩:=an;refine b3 ?_;refine⟨p',_,rfl,.inl ⟨Ab2 ab,λa ha=>?_⟩⟩;have u:=qA2 ha (.tup (rs'.map V.ref));refine q a net' t' ms _ (S3.same (sm2.trans u)) (by lia) (by lia) (ah.trans (k3.trans (.of_same (sm2.trans u)))) ⟨rs',qA1,N2.same λr ys e=>u _ _ e⟩ a8 ?_
    rw[a0,A0,C2 N,hl]
    lia
 refine bw _ _ ?_;refine⟨_,rfl,m,rfl,by lia,by lia,λp hp=>?_⟩
 refine qDM (p:=p) (lo:=0) (n:=m.toNat) (λi σ Hc=>∃(v:Option V) (t':Int) (ms:List Int) (rs:List Addr) (Ae:Aa0),σ=[v,some (.ref d)]/\StAt Hc d c t' ms/\t+2<=t'/\t'<=t+2+9*i/\Keep d c H2 Hc/\Hc p=some (.lst (rs.map V.ref))/\NetL Hc rs Ae/\Ae.length=i/\WFn Ae) ?_ ?_ ?_
 ·exact⟨none,t+1+1,ae,[],[],rfl,S2.new hp _,by lia,by lia,qDN hp _,qA1,.nil,rfl,WFn.nil⟩
 ·refineλi σ Hc hi aq=>opq λcr au=>?_;obtain⟨v,t',ms,rs,Ae,rfl,S3,b1,b2,k3,l,N,hl,wf⟩:=aq;refine au ?_;have ad:p≠d:=(qA6 S2.dict hp).symm;have ag:p≠c:=(qA6 S2.list hp).symm;refine⟨_,rfl,_,rfl,d,c,t',ms,0+(i:Int),rfl,S3,(by show t'<=1000000000-20;lia),by lia,by lia,λr o av ay H3 e1 e2 e3 e4 e5 e6=>?_⟩
  have g1:=e4 _ _ l ad ag;refine⟨_,g1,qAH (by rw[A0,NetAt.len N];lia),?_⟩
  rw[qB2];refine⟨_,av,ay,rs++[r],Ae++[o],rfl,⟨by rw[qA8 (F5 ad)];exact e1.dict,by rw[qA8 (F5 ag)];exact e1.list,e1.ne,e1.len,e1.pos⟩,by lia,by lia,qR9 (k3.trans e4) hp,qA1,qD4 (qCC (N.keep (λr ys e=>S3.tup e) e4) e5) g1,by rw[A8,C1,hl],wf.snoc ?_⟩
  rw[hl];exact e6.mono (by lia)
 ·refineλσ Hc am=>opq λct az=>?_;obtain⟨v,t',ms,rs,Ae,rfl,S3,b1,b2,k3,l,N,hl,wf⟩:=am;refine az ?_;refine⟨p,_,rfl,.inl ⟨Ab2 l,λa ha=>?_⟩⟩;have u:=qA2 ha (.tup (rs.map V.ref));exact q a Ae t' ms _ (S3.same u) (by lia) (by lia) (ah.trans (k3.trans (.of_same u))) ⟨rs,qA1,N.same λr ys e=>u _ _ e⟩ wf (by rw[hl];lia)
theorem qX3:FnScope ["_law_found","_law_due"] ["_law_found","_law_due"] (qAB qLJ):=qBT
theorem ok_Lsame (F:Fun K "_law_same" "_law_same" qLJ f fd) (a:mg "isinstance" = none) (g:mg "list" = none) (c:mg "tuple" = none) (b:mg "str" = none) (d:mg "int" = none) (j:mg "bool" = none):FnOk P w K mg base CX0 1 f fd ["_law_found","_law_due"] qTG:=by
 refine F.okA qX3 λm A k s H o Q E n h=>?_;obtain⟨i,rfl,q⟩:=h;refine⟨_,(qA4 (qBD (qCZ (qHM (pv 1))) (qA5 (qAE (qQQ (qHM (pv 0))))) qAM) (qA4 (qBD (PW.pt (qHW (qBX (qA9 qAX rfl a qAP (qA0 (pv 1) (qA0 (qC7 (v:=.ty "list") rfl g qJT rfl) qA3)))) (qGE (qBX (qA9 qAX rfl a qAP (qA0 (pv 1) (qA0 (qC7 (v:=.ty "tuple") rfl c qAO rfl) qA3))))))) qTU qAM) (qA4 (qBD (qBX (qA9 qAX rfl a qAP (qA0 (pv 1) (qA0 (qC7 (v:=.ty "str") rfl b qZL rfl) qA3)))) (qA5 (qAE (qKK (qA9 qAX rfl a qAP (qA0 (pv 0) (qA0 (qC7 (v:=.ty "str") rfl b qZL rfl) qA3))) (qQP (qDC qET (pv 0) (pv 1) (qAY _)))))) qAM) (qA5 (qAE (qKK (qA9 qAX rfl a qAP (qA0 (pv 0) (qA0 (qC7 (v:=.ty "int") rfl d qL2 rfl) qA3))) (qKK (qZ3 (qA9 qAX rfl a qAP (qA0 (pv 0) (qA0 (qC7 (v:=.ty "bool") rfl j qPW rfl) qA3)))) (qQP (qDC qET (pv 0) (pv 1) (qAY _)))))))))),?_⟩
 try dsimp only[Cx.nox,Cx.wish,cxOf]
 refine⟨_,rfl,_,rfl,?_⟩;refine⟨_,rfl,_,"list",_,false,rfl,TyOf.int i,qcH,_,rfl,?_⟩;refine⟨_,rfl,_,"tuple",_,false,rfl,TyOf.int i,qcF,_,rfl,?_⟩;refine⟨_,rfl,_,"str",_,false,rfl,TyOf.int i,qcG,_,rfl,?_⟩;refine⟨_,rfl,_,"int",_,true,rfl,TyOf.int i,qUV,_,rfl,?_⟩;refine⟨_,rfl,_,"bool",_,false,rfl,TyOf.int i,qUW,_,rfl,_,rfl,?_⟩;refine⟨_,rfl,_,rfl,rfl,?_⟩;have e:decide (V.int i=V.int i)=true:=decide_eq_true rfl;have l:Q (.bl (decide (V.int i=V.int i))) H:=by rw[e];exact q H (Same.refl H)
 exact l
theorem qXG {k:Int} (a:0<=k)(b:k<4):∃v,atI [V.int 0,V.int 0,V.int 1,V.int 3] k=some (.int v)/\0<=v/\v<=3:=by
 rcases(by lia:k=0\/k=1\/k=2\/k=3) with rfl|rfl|rfl|rfl
 all_goals exact⟨_,rfl,by decide,by decide⟩
theorem sc_Lasked:FnScope ["_law_state","_law_net_here","_law_found","_law_turn"] ["_law_state","_law_net_here"] (qAB qI6):=qBT
theorem ok_Lasked (F:Fun K "_law_asked" "_law_asked" qI6 f fd)
  (qBB:Clb P w K mg base 1 qF2 qFK "_law_take" ["_law_state","_law_many"] qIL)
  (qBI:mg "len" = none) (qMM:mg "min" = none) (qAZ:mg "range" = none) (aj:mg "set" = none) (ae:mg "sorted" = none) (ac:mg "tuple" = none):FnOk P w K mg base CX0 2 f fd ["_law_state","_law_net_here"] qTL:=by
 refine F.okA sc_Lasked λan A ad s H vs Q E hr h=>?_;obtain⟨d,c,t,ns,a,Ae,rfl,S,ht,hN,wf,n1,am,q⟩:=h;have aq:t<=1000000000-100:=ht;have ar:Room 1 _:=hr;refine⟨_,(qA4 (qAG (i:=2) sc_Lasked.nd rfl (E2 rfl) (qBU (qA0 (qAR qD0 (qAR qD0 (qA9 qAC rfl qBI qBH (qA0 (pv 1) qA3)) qA7) (qAT qBB hr rfl (qA0 (pv 0) (qA0 (qA9 (qJR rfl) rfl qMM qRO (qA0 (qA9 qAC rfl qBI qBH (qA0 (pv 1) qA3)) (qA0 qA7 qA3))) qA3)))) qA3))) (qA4 (qBZ D5 rfl (qB8 rfl qAZ (qA0 (qB7 qCD (qBU (qA0 qA7 (qA0 qA7 (qA0 qA7 (qA0 qA7 qA3))))) (qAT qBB hr rfl (qA0 (pv 0) (qA0 qA7 qA3))) (λ_ _=>rfl)) qA3)) (qAS (i:=3) sc_Lasked.nd rfl (E2 rfl)) (qA5 (qCW (qLS F2 G8 G9 qC3 (pv 2) (qA0 (qAT qBB hr rfl (qA0 (pv 0) (qA0 (qA9 qAC rfl qBI qBH (qA0 (pv 1) qA3)) qA3))) qA3))))) (qA5 (qAE (qAD qAF rfl ac qAO (qA0 (qA9 (qCU rfl) rfl ae qCE (qA0 (qAD (qGW rfl) rfl aj qO2 (qA0 (pv 2) qA3)) qA3)) qA3)))))),?_⟩
 try dsimp only[Cx.nox,Cx.wish,cxOf]
 obtain⟨rs,hA,NL⟩:=id hN;have l:(((rs.map V.ref).length:Nat):Int)=(Ae.length:Int):=by rw[A0,C2 NL]
 refine⟨_,rfl,a,_,rfl,.inr (Ac0 hA),_,_,rfl,rfl,?_⟩;refine⟨_,rfl,_,rfl,a,_,rfl,.inr (Ac0 hA),_,_,rfl,?_⟩;refine⟨d,c,t,ns,_,rfl,S,(by show t<=1000000000;lia),by split<;>lia,by split<;>lia,λk ai H1 k0 k1 S1 K1=>?_⟩
 have kb:0<=(Ae.length:Int)-1-k/\(Ae.length:Int)-1-k<(Ae.length:Int):=by
  rw[l] at k1
  split at k1<;>lia
 refine⟨_,_,rfl,rfl,(by show 1<=B77;decide),λg v=>?_⟩
 dsimp only;rw[l];generalize (Ae.length:Int)-1-k=x0 at kb;have a0:g≠d:=(qA6 S1.dict v).symm;have a1:g≠c:=(qA6 S1.list v).symm;have S2:=S1.new v (.lst [.int x0]);have k2:=K1.trans (qDN (d:=d) (c:=c) v (.lst [.int x0]));have af:∀o,H g=some o->False:=λo z=>by
  by_cases e1:g=d
  ·exact a0 e1
  ·by_cases e2:g=c
   ·exact a1 e2
   ·have:=K1 g o z e1 e2;rw[v] at this;cases this
 have a8:(Ag H1 g (.lst [.int x0])) g=some (.lst ([x0].map V.int)):=qA1;generalize Ag H1 g (.lst [.int x0])=H2 at S2 k2 a8;refine⟨(by show 4<=B77;decide),λp hp=>?_⟩
 have a9:p≠d:=(qA6 S2.dict hp).symm;have aa:p≠c:=(qA6 S2.list hp).symm;have sp:=qA2 hp (.lst [.int 0,.int 0,.int 1,.int 3]);refine⟨_,rfl,d,c,t+1,ai,4,rfl,S2.same sp,(by show t+1<=1000000000;lia),by decide,by decide,λj ab H3 j0 j1 S3 K3=>?_⟩
 have gp:=K3 _ _ qA1 a9 aa;have a3:=K3 _ _ (sp _ _ a8) a0 a1;have k3:=(k2.trans (.of_same sp)).trans K3;obtain⟨m,hm,m0,m3⟩:=qXG j0 j1;refine⟨p,_,_,_,rfl,rfl,Ab2 gp,hm,m,rfl,by lia,by lia,qE0 (lo:=0) (n:=m.toNat) (λi σ Hc=>∃(t':Int) (ms fs:List Int) (v3:Option V),σ=[some (.ref d),some (.ref a),some (.ref g),v3]/\StAt Hc d c t' ms/\t+2<=t'/\t'<=t+2+i/\Keep d c H Hc/\Hc g=some (.lst (fs.map V.int))/\fs.length=i+1/\∀x∈fs,0<=x/\x<(Ae.length:Int))
  ⟨t+1+1,ab,[x0],none,rfl,S3,by lia,by lia,k3,a3,rfl,λx hx=>by rw[A7.mp hx];exact kb⟩ ?_ ?_⟩
 ·refineλi σ Hc hi a4=>opq λao a6=>?_;obtain⟨t',ms,fs,v3,rfl,S4,b1,b2,k4,gf,lf,fb⟩:=a4;refine a6 ?_;have ak:=hN.keep S k4;obtain⟨rs,hA,NL⟩:=id ak;have l:(((rs.map V.ref).length:Nat):Int)=(Ae.length:Int):=by rw[A0,C2 NL]
  refine⟨_,rfl,.inl ⟨rfl,_,Ab2 gf⟩,_,rfl,_,rfl,a,_,rfl,.inr (Ac0 hA),d,c,t',ms,_,rfl,S4,(by show t'<=1000000000;lia),by rw[l];lia,by rw[l];lia,λx ag H5 x0 x1 S5 K5=>?_⟩
  rw[l] at x1;have al:=K5 _ _ gf a0 a1;refine⟨g,_,_,rfl,rfl,al,qAH (by rw[A0];lia),?_⟩
  refine⟨t'+1,ag,fs++[x],_,rfl,⟨by rw[qA8 (F5 a0)];exact S5.dict,by rw[qA8 (F5 a1)];exact S5.list,S5.ne,S5.len,S5.pos⟩,by lia,by lia,λb u e n1 n2=>?_,by rw[qA1,B3];rfl,by rw[A8,C1,lf],λy hy=>?_⟩
  ·by_cases e3:b=g
   ·subst e3;exact(af _ e).elim
   ·rw[qA8 e3];exact(k4.trans K5) b u e n1 n2
  ·rcases B0.mp hy with hy|hy
   ·exact fb y hy
   ·rw[A7.mp hy];exact⟨x0,x1⟩
 ·refineλσ Hc a5=>opq λap a2=>?_;obtain⟨t',ms,fs,v3,rfl,S4,b1,b2,k4,gf,lf,fb⟩:=a5;refine a2 ?_;refine⟨_,rfl,g,fs,rfl,Ab2 gf,by lia,λe he=>?_⟩
  have ld:=qYI fs;refine⟨e,dedI fs,rfl,qA1,λb ys hb a7 hs=>?_⟩;refine⟨b,_,rfl,.inl ⟨Ab2 qA1,λr ah=>?_⟩⟩;have s1:=((qA2 he (SetM w e (dedI fs))).trans (qA2 hb (.lst (ys.map V.int)))).trans (qA2 ah (.tup (ys.map V.int)));have ne:fs≠[]:=λz=>by rw[z] at lf;simp at lf
  obtain⟨y,hy⟩:=List.exists_mem_of_ne_nil fs ne;refine q r ys t' ms _ (S4.same s1) (by lia) (by lia) (k4.trans (.of_same s1)) qA1 (qGD a7 hs fb) (X1 (a7.mem_iff.mpr (mem_dedI.mpr hy)))
theorem sc_all_needed:FnScope ["net","asked","wanted","work","need"] ["net","asked"] (qAB qDK):=qBT
theorem ok_all_needed (F:Fun K "all_needed" "all_needed" qDK f fd) (qAZ:mg "range" = none) (qBI:mg "len" = none) (ai:mg "sorted" = none):FnOk P w K mg base CX0 1 f fd ["net","asked"] qTM:=by
 refine F.okA sc_all_needed λam A ah s H vs Q E hr h=>?_;obtain⟨a,t,c,Ad,rfl,hN,wf,ag,hT,af,q⟩:=h;have hu:=qH9 hr;refine⟨_,(qA4 (qAG (i:=2) sc_all_needed.nd rfl (E2 rfl) qLR) (qA4 (qBZ D5 rfl (qCT (pv 1)) (qAS (i:=3) sc_all_needed.nd rfl (E2 rfl)) (qA5 (qEQ hu (pv 2) (pv 3) qDD rfl))) (qA4 (qBZ D5 rfl (qU2 rfl qAZ (qA0 (qAR qD0 (qA9 qAC rfl qBI qBH (qA0 (pv 0) qA3)) qA7) (qA0 (qOW qII qA7) (qA0 (qOW qII qA7) qA3)))) (qAS (i:=3) sc_all_needed.nd rfl (E2 rfl)) (qA5 (qBD (qCZ (qQR hu (pv 3) (pv 2))) (qA5 (qBZ D5 rfl (qCT (qB7 qB9 (pv 0) (pv 3) (λ_ _=>rfl))) (qAS (i:=4) sc_all_needed.nd rfl (E2 rfl)) (qA5 (qEQ hu (pv 2) (pv 4) qDD rfl)))) qAM))) (qA5 (qAE (qA9 (qF5 rfl) rfl ai qCE (qA0 (pv 2) qA3))))))),?_⟩
 try dsimp only[Cx.nox,Cx.wish,cxOf]
 obtain⟨rs,hA,NL⟩:=id hN;have v:(((rs.map V.ref).length:Nat):Int)=(c.length:Int):=by rw[A0,C2 NL]
 refineλu a1=>?_;have sn:=qA2 a1 (.dK []);refine⟨_,rfl,t,rfl,⟨_,Ac0 (sn _ _ hT)⟩,qG0 (a:=t) (xs:=Ad.map V.int) (λj σ Hf=>∃(Af:List (Key×V)) (ks:List Int) (v3 v4:Option V),σ=[some (.ref a),some (.ref t),some (.ref u),v3,v4]/\Same H Hf/\Hf u=some (.dK Af)/\KeysI Af ks/\∀x,x∈ks↔x∈Ad.take j)
  ⟨[],[],none,none,rfl,sn,qA1,KeysI.nil,λx=>by simp⟩ (λj σ Hf _ hP=>by obtain⟨_,_,_,_,_,d,_⟩:=hP;exact Ac0 (d _ _ hT)) ?_ ?_⟩
 ·refineλj x σ Hf hx a6=>opq λao a8=>?_;obtain⟨Af,ks,v3,v4,rfl,d,hd,g,mk⟩:=a6;obtain⟨y,ey,rfl⟩:=qB1 hx;refine a8 ?_;have lk:ks.length<=c.length:=qUK g.nd λx hx=>af x (Q7 ((mk x).mp hx));refine⟨_,rfl,_,rfl,u,_,rfl,DPut.k (k:=E8 y) hd (qB6 (by rw[g.len];lia)),?_⟩
  refine⟨_,_,_,_,rfl,qAA d a1,qA1,g.put y _,λx=>?_⟩;rw[mem_addI,mk,C9,ey,D2,B0,A7]
 refineλσ Hf a7=>opq λap a4=>?_;obtain⟨Af,ks,v3,v4,rfl,d,hd,g,mk⟩:=a7;refine a4 ?_;rw[A0,qBC rfl] at mk;refine⟨_,rfl,a,_,rfl,.inr (Ac0 (d _ _ hA)),_,_,rfl,rfl,_,rfl,_,rfl,_,_,rfl,⟨by rw[v];lia,by rw[v];lia,by decide,by decide⟩,qRG (lo:=(((rs.map V.ref).length:Nat):Int)-1) (n:=((((rs.map V.ref).length:Nat):Int)-1 - -1).toNat) (λi σ Hc=>∃(Af:List (Key×V)) (ks:List Int) (v3 v4:Option V),σ=[some (.ref a),some (.ref t),some (.ref u),v3,v4]/\Same H Hc/\Hc u=some (.dK Af)/\KeysI Af ks/\Fnd c Ad ks ((c.length:Int)-i))
  ⟨Af,ks,v3,v4,rfl,d,hd,g,⟨λx hx=>⟨af x ((mk x).mp hx),.ask ((mk x).mp hx)⟩,λx hx=>(mk x).mpr hx,λw zs h1 h2 h3=>?_⟩⟩ ?_ ?_⟩
 ·have:=(A5.mp h3).1
  lia
 ·refineλi σ Hc hi a9=>opq λal ae=>?_;obtain⟨Af,ks,v3,v4,rfl,d,hd,g,fn⟩:=a9;refine ae ?_;rw[v] at hi ⊢;have aq:i<c.length:=by lia
  obtain⟨m,ew⟩:∃m:Nat,(c.length:Int)-1-i=(m:Int):=⟨c.length-1-i,by lia⟩
  have hw:m<c.length:=by lia
  rw[ew];obtain⟨r,h3,h4⟩:=NL.get (A4 hw);have hz:=A4 hw;have rz:=wf m _ hz;generalize c[m]=zs at h4 hz rz;refine⟨_,rfl,_,rfl,u,_,rfl,DGet.k (k:=E8 (m:Int)) hd,_,rfl,?_⟩;rw[g.has];by_cases mw:(m:Int)∈ks
  ·rw[decide_eq_true mw];refine⟨_,rfl,_,rfl,a,_,_,_,rfl,rfl,Ac0 (d _ _ hA),qDZ (by lia) (by rw[D9,B6,h3];rfl),r,rfl,⟨_,Ac0 (d _ _ h4)⟩,qG0 (a:=r) (xs:=zs.map V.int) (λk σ Hd=>∃(Af:List (Key×V)) (ks:List Int) (v4:Option V),σ=[some (.ref a),some (.ref t),some (.ref u),some (.int (m:Int)),v4]/\Same H Hd/\Hd u=some (.dK Af)/\KeysI Af ks/\Fnd c Ad ks ((m:Int)+1)/\(m:Int)∈ks/\∀y∈zs.take k,y∈ks)
    ⟨Af,ks,v4,rfl,d,hd,g,by rw[show(m:Int)+1=(c.length:Int)-i by lia];exact fn,mw,λy hy=>by simp at hy⟩ (λk σ Hd _ hP=>by obtain⟨_,_,_,_,p,_⟩:=hP;exact Ac0 (p _ _ h4)) ?_ ?_⟩
   ·refineλk x σ Hd hx a3=>opq λan aa=>?_;obtain⟨Af,ks,v4,rfl,p,a2,o,b,a0,ty⟩:=a3;obtain⟨y,ey,rfl⟩:=qB1 hx;refine aa ?_;have my:=B5 ey;have yb:=rz.in_ y my;have lk:ks.length<=c.length:=qUK o.nd λx hx=>(b.in_ x hx).1;refine⟨_,rfl,_,rfl,u,_,rfl,DPut.k (k:=E8 y) a2 (qB6 (by rw[o.len];lia)),?_⟩
    refine⟨_,_,_,rfl,qAA p a1,qA1,o.put y _,⟨λx hx=>?_,λx hx=>mem_addI.mpr (.inl (b.ask x hx)),λw1 ys h1 h2 h3 z hz'=>?_⟩,mem_addI.mpr (.inl a0),λz hz'=>?_⟩
    ·rcases mem_addI.mp hx with hx|hx
     ·exact b.in_ x hx
     ·rw[hx];exact⟨⟨yb.1,by lia⟩,.need (b.in_ _ a0).2 (by rw[D9];exact hz) my⟩
    ·rcases mem_addI.mp h2 with h2|h2
     ·exact mem_addI.mpr (.inl (b.clo w1 ys h1 h2 h3 z hz'))
     ·lia
    ·rw[C9,ey,D2,B0,A7] at hz';rcases hz' with hz'|hz'
     ·exact mem_addI.mpr (.inl (ty z hz'))
     ·exact mem_addI.mpr (.inr hz')
   ·refineλσ Hd ac=>opq λak ad=>?_;obtain⟨Af,ks,v4,rfl,p,a2,o,b,a0,ty⟩:=ac;refine ad ?_;rw[A0,qBC rfl] at ty;refine⟨Af,ks,_,_,rfl,p,a2,o,b.in_,b.ask,λw1 ys h1 h2 h9=>?_⟩;by_cases e:w1=m
    ·subst e;rw[hz] at h9;cases h9;exact ty
    ·exact b.clo w1 ys (by lia) h2 h9
  ·rw[decide_eq_false mw];refine⟨Af,ks,_,_,rfl,d,hd,g,fn.in_,fn.ask,λw1 ys h1 h2 h3=>?_⟩;by_cases e:w1=m
   ·subst e;exact absurd h2 mw
   ·exact fn.clo w1 ys (by lia) h2 h3
 ·refineλσ Hc ab=>opq λaj a5=>?_;obtain⟨Af,ks,v3,v4,rfl,d,hd,g,fn⟩:=ab;refine a5 ?_;rw[v,show((c.length:Int)-(((c.length:Int)-1 - -1).toNat:Nat))=0 by lia] at fn
  have ar:ks.length<=c.length:=qUK g.nd λx hx=>(fn.in_ x hx).1;refine⟨_,rfl,u,ks,rfl,.inr (.inr ⟨Af,hd,g.keys⟩),λl zs hl hp hs=>?_⟩;have s1:=qA2 hl (.lst (zs.map V.int));refine q l zs _ (d.trans s1) (d.free hl) qA1 ⟨⟨qEV hs (hp.nodup_iff.mpr g.nd),λx hx=>(fn.in_ x (hp.mem_iff.mp hx)).1⟩,λx=>?_⟩;rw[hp.mem_iff];exact fn.all wf x
theorem qLG:FnScope ["needs","numbers"] ["needs","numbers"] (qAB qDJ):=qBT
theorem ok_renumbered (F:Fun K "renumbered" "renumbered" qDJ f fd) (u:mg "tuple" = none):FnOk P w K mg base CX0 1 f fd ["needs","numbers"] qbO:=by
 refine F.okA qLG λa3 A z s H vs Q E hr h=>?_;obtain⟨r,d,zs,Af,c,rfl,hR,v,hd,hv,q⟩:=h;have hu:=qH9 hr;refine⟨_,(qA5 (qAE (qAD qAF rfl u qAO (qA0 (qC9 rfl (lcs (own:=["need"]) (fv:=[1]) (by kernel_rfl)) (qCT (pv 0)) (λz1=>qBJ 0) (λz1=>(qDS (qCZ (qQR hu (pv 0) (pv 1))))) (λz1=>(qDB hu (pv 1) (pv 0) (λ_ _=>rfl)))) qA3)))),?_⟩
 try dsimp only[Cx.nox,Cx.wish,cxOf]
 refine⟨_,rfl,r,rfl,⟨_,Ac0 hR⟩,λp hp=>?_⟩;refine qDL (p:=p) (a:=r) (xs:=zs.map V.int) (λi σ o=>∃(v0:Option V),σ=[v0,some (.ref d)]/\Same H o/\o p=some (.lst (((zs.take i).filterMap c).map V.int))) ?_ ?_ ?_ ?_
 ·exact⟨none,rfl,qA2 hp _,qA1⟩
 ·rintro i σ o hi ⟨v0,rfl,sm,_⟩;exact Ac0 (sm _ _ hR)
 ·refineλi x σ o hx t=>opq λa1 g=>?_;obtain⟨v0,rfl,sm,b⟩:=t;obtain⟨y,ey,rfl⟩:=qB1 hx;refine g ?_;have lt:=(A5.mp ey).1;have m:=DGet.k (k:=E8 y) (sm _ _ hd);have lk:((zs.take i).filterMap c).length<=i:=F4 (b8 _ _) (by rw[C5];lia)
  refine⟨_,rfl,_,rfl,d,_,rfl,m,_,rfl,?_⟩;rw[C9,ey,D2,Y0,O5,List.filterMap_nil];rw[hv] at m ⊢;cases e:c y with
  |none=>
   rw[e] at m;refine⟨_,rfl,sm,?_⟩;simpa using b
  |some n=>
   rw[e] at m;refine⟨_,rfl,_,rfl,d,_,rfl,m,_,b,qAH (by rw[A0];lia),_,rfl,qAA sm hp,?_⟩
   rw[qA1,B3]
   rfl
 ·refineλσ o l=>opq λa2 j=>?_;obtain⟨v0,rfl,sm,b⟩:=l;refine j ?_;rw[A0,qBC rfl] at b;refine⟨p,_,rfl,.inl ⟨Ab2 b,λr' a0=>?_⟩⟩;exact q r' _ (sm.trans (qA2 a0 _)) qA1
theorem sc_part_net:FnScope ["net","works","numbers","number","work"] ["net","works"] (qAB qF8):=qBT
theorem ok_part_net (F:Fun K "part_net" "part_net" qF8 f fd) (aa:Clb P w K mg base 1 qF1 qM1 "renumbered" ["needs","numbers"] qbO)
  (ag:mg "enumerate" = none) (ab:mg "tuple" = none):FnOk P w K mg base CX0 2 f fd ["net","works"] qOI:=by
 refine F.okA sc_part_net λan A ae s H vs Q E hr h=>?_;obtain⟨a,t,Ae,l,rfl,hN,wf,a9,hT,g,q⟩:=h;have hu:=qH9 hr;have al:Room 1 _:=hr;have lw:=g.len;refine⟨_,(qA4 (qAG (i:=2) sc_part_net.nd rfl (q9 rfl) qLR) (qA4 (qBZ D5 rfl (qQN rfl ag qCV (qA0 (pv 1) qA3)) (qKJ rfl (qAW (qAS (i:=3) sc_part_net.nd rfl (E2 rfl)) (qAW (qAS (i:=4) sc_part_net.nd rfl (E2 rfl)) qDA))) (qA5 (qEQ hu (pv 2) (pv 4) (pv 3) rfl))) (qA5 (qAE (qAD qAF rfl ab qAO (qA0 (qC9 rfl (lcs (own:=["work"]) (fv:=[0,2]) (by kernel_rfl)) (qCT (pv 1)) (λz2=>qBJ 0) (λz2=>qB0) (λz2=>(qAT aa hr rfl (qA0 (qB7 (qH8 (K:=K) rfl) (pv 1) (pv 0) (λ_ _=>rfl)) (qA0 (pv 2) qA3))))) qA3)))))),?_⟩
 try dsimp only[Cx.nox,Cx.wish,cxOf]
 obtain⟨rs,hA,NL⟩:=id hN;refineλdn a4=>?_;have sn:=qA2 a4 (.dK []);refine⟨_,rfl,t,rfl,⟨_,.inl (Rd.same hT sn)⟩,qVG (a:=t) (xs:=l.map V.int) (λi σ m=>∃(Af:List (Key×V)) (v3 v4:Option V),σ=[some (.ref a),some (.ref t),some (.ref dn),v3,v4]/\Same H m/\m dn=some (.dK Af)/\Af.length<=i/\∀x,valV Af (E8 x)=(qCR (l.take i) x).map V.int)
  ⟨[],none,none,rfl,sn,qA1,A6 _,λx=>by simp[qCR,valV]⟩ (λi σ m _ ⟨_,_,_,_,sm,_⟩=>.inl (Rd.same hT sm)) ?_ ?_⟩
 ·refineλi x σ m T hx v ad=>opq λaj a5=>?_;obtain⟨Af,v3,v4,rfl,sm,hd,lk,hv⟩:=v;obtain⟨y,n,rfl⟩:=qB1 hx;refine a5 ?_;have lt:=(A5.mp n).1;have sT:=qA2 ad (.tup [.int (i:Int),.int y]);refine⟨T,_,rfl,Ac0 qA1,rfl,_,_,rfl,_,_,rfl,rfl,?_⟩;refine⟨_,rfl,_,rfl,_,rfl,dn,_,rfl,DPut.k (k:=E8 y) (sT _ _ hd) (qB6 (by lia)),?_⟩
  refine⟨_,_,_,rfl,qAA (sm.trans sT) a4,qA1,F4 (qC8 _ _ _) (by lia),λx=>?_⟩
  rw[qHZ,qKI g.nodup n x];by_cases e:x=y
  ·rw[e,if_pos rfl,if_pos rfl]
   rfl
  ·rw[if_neg e,if_neg λz=>e (f9 z)];exact hv x
 refineλσ m a0=>opq λai a8=>?_;obtain⟨Af,v3,v4,rfl,sm,hd,lk,hv⟩:=a0;refine a8 ?_;rw[A0,qBC rfl] at hv;refine⟨_,rfl,t,rfl,⟨_,.inl (Rd.same hT sm)⟩,λp hp=>?_⟩;refine qDL (p:=p) (a:=t) (xs:=l.map V.int) (λi σ o=>∃(v0:Option V) (ss:List Addr),σ=[v0,some (.ref a),some (.ref dn)]/\Same m o/\o p=some (.lst (ss.map V.ref))/\NetL o ss ((qBW Ae l).take i)) ?_ ?_ ?_ ?_
 ·exact⟨none,[],rfl,qA2 hp _,qA1,by rw[List.take_zero];exact .nil⟩
 ·refineλi σ o hi a6=>opq λah a1=>?_;obtain⟨v0,ss,rfl,c,_⟩:=a6;refine a1 ?_;exact .inl (Rd.same (Rd.same hT sm) c)
 ·refineλi x σ o hx a7=>opq λak a3=>?_;obtain⟨v0,ss,rfl,c,d,N2⟩:=a7;obtain⟨y,n,rfl⟩:=qB1 hx;refine a3 ?_;have lt:=(A5.mp n).1;have yb:=g.in_ y (B5 n);have s3:=sm.trans c;have hy:y.toNat<Ae.length:=by lia
  obtain⟨r,h3,h4⟩:=NL.get (A4 hy);have lz:=(wf y.toNat _ (A4 hy)).len;refine⟨_,rfl,_,rfl,a,_,_,_,rfl,rfl,Ac0 (s3 _ _ hA),qDZ yb.1 (by rw[B6,h3];rfl),_,rfl,r,dn,_,Af,qCR l,rfl,s3 _ _ h4,by lia,c _ _ hd,hv,λr' H' j af=>?_⟩
  have g1:=j _ _ d;have ac:ss.length=((qBW Ae l).take i).length:=C2 N2;refine⟨_,g1,qAH (by rw[A0,ac,C5,qBV];lia),?_⟩
  rw[qB2];refine⟨_,ss++[r'],rfl,qAA (c.trans j) hp,qA1,?_⟩;rw[C9,qIW n,A4 hy];exact qD4 (qCC (N2.same λr' ys e=>j _ _ e) af) g1
 ·refineλσ o a2=>opq λam u=>?_;obtain⟨v0,ss,rfl,c,d,N2⟩:=a2;refine u ?_;rw[A0,qBC (qBV Ae l)] at N2;refine⟨p,_,rfl,.inl ⟨Ab2 d,λb hb=>?_⟩⟩;have s1:=qA2 hb (.tup (ss.map V.ref));exact q b _ ((sm.trans c).trans s1) ⟨ss,qA1,N2.same λr ys e=>s1 _ _ e⟩
theorem sc_fault_of_do:FnScope ["net","rooms","stand","work","there","result","need"] ["net","rooms","stand","work"] (qAB qD2):=qBT
theorem ok_fault_of_do (F:Fun K "fault_of_do" "fault_of_do" qD2 f fd) (qBI:mg "len" = none):FnOk P w K mg base CX0 1 f fd ["net","rooms","stand","work"] qMY:=by
 refine F.okA sc_fault_of_do λai A aa s H vs Q E hr h=>?_;obtain⟨a,so,Ae,c,ns,m,j,rfl,hN,t,ad,ab,a9,q⟩:=h;have hu:=qH9 hr;refine⟨_,(qA4 (qAG (i:=4) sc_fault_of_do.nd rfl (E2 rfl) qLR) (qA4 (qBZ D5 rfl (qCT (pv 2)) (qAS (i:=5) sc_fault_of_do.nd rfl (E2 rfl)) (qA5 (qEQ hu (pv 4) (pv 5) qDD rfl))) (qA4 (qBD (qCZ (qQR hu (pv 3) (pv 4))) (qA5 (qAE qBO)) qAM) (qA4 (qBZ D5 rfl (qCT (qB7 qB9 (pv 0) (pv 3) (λ_ _=>rfl))) (qAS (i:=6) sc_fault_of_do.nd rfl (E2 rfl)) (qA5 (qBD (qCZ (qER hu (pv 6) (pv 4))) (qA5 (qAE qBO)) qAM))) (qA4 (qBD (qAN qXM (qA9 qAC rfl qBI qBH (qA0 (pv 2) qA3)) (pv 1) (qAY _)) (qA5 (qAE qBO)) qAM) (qA5 (qAE qFP))))))),?_⟩
 try dsimp only[Cx.nox,Cx.wish,cxOf]
 refineλp hp=>?_;have s0:=qA2 hp (.dK []);refine⟨_,rfl,so,rfl,⟨_,Ac0 (s0 _ _ t)⟩,qG0 (a:=so) (xs:=c.map V.int) (λi σ u=>∃(Af:List (Key×V)) (v:Option V),σ=[some (.ref a),some (.int m),some (.ref so),some (.int j),some (.ref p),v,none]/\Same H u/\u p=some (.dK Af)/\Af.length<=i/\∀x:Int,(valV Af (E8 x)).isSome=true↔x∈c.take i)
  ⟨[],none,rfl,s0,qA1,A6 _,λx=>by simp[valV]⟩ (λi σ u _ hP=>by obtain⟨_,_,_,d,_⟩:=hP;exact Ac0 (d _ _ t)) ?_ ?_⟩
 ·refineλi x σ u l a3=>opq λah a2=>?_;obtain⟨Af,v,rfl,d,hd,lk,mk⟩:=a3;refine a2 ?_;rw[B6] at l;cases ez:c[i]? with
  |none=>rw[ez] at l;cases l
  |some z=>
   rw[ez] at l;cases l;have ae:i<c.length:=(A5.mp ez).1;refine⟨_,rfl,_,rfl,p,_,rfl,DPut.k (k:=E8 z) hd (qAH (by lia)),?_⟩
   refine⟨putK Af (E8 z) (.bl true),_,rfl,λb o e=>?_,qA1,F4 (qC8 _ _ _) (by lia),λy=>?_⟩
   ·rw[qA8 (qA6 e hp)];exact d b o e
   ·rw[qHZ,C9,ez,D2,B0,A7];by_cases n:y=z
    ·subst n;simp
    ·have:¬(E8 y:Key)=E8 z:=λq=>n (f9 q);rw[if_neg this,mk y];simp[n]
 ·refineλσ u a7=>opq λac a1=>?_;obtain⟨Af,v,rfl,d,hd,lk,mk⟩:=a7;refine a1 ?_;rw[A0,C6 (A6 _)] at mk;obtain⟨rs,r,h1,l1,h2,h3⟩:=hN.get a9;refine⟨_,rfl,_,rfl,p,_,rfl,DGet.k (k:=E8 j) hd,_,rfl,?_⟩;refine ite2 (λck=>?_) (λck=>?_)
  ·have hw:=(mk j).mp ck;have e:qCY ns c m j=.str "there":=by unfold qCY;rw[if_pos hw]
   have:=q u d;rw[e] at this;exact this
  ·have hw:¬j∈c:=λz=>ck ((mk j).mpr z);refine⟨_,rfl,_,rfl,a,_,_,_,rfl,rfl,Ac0 (d _ _ h1),qDZ ab h2,r,rfl,⟨_,Ac0 (d _ _ h3)⟩,qG0 (a:=r) (xs:=ns.map V.int) (λi σ Hd=>∃(v6:Option V),σ=[some (.ref a),some (.int m),some (.ref so),some (.int j),some (.ref p),v,v6]/\Hd=u/\∀x∈ns.take i,x∈c)
    ⟨none,rfl,rfl,λx l=>by simp at l⟩ (λi σ Hd _ ⟨_,_,e,_⟩=>by rw[e];exact Ac0 (d _ _ h3)) ?_ ?_⟩
   ·refineλi x σ Hd l a5=>opq λaf a4=>?_;obtain⟨v6,rfl,rfl,mm⟩:=a5;obtain⟨z,ez,rfl⟩:=qB1 l;refine a4 ?_;refine⟨_,rfl,_,rfl,p,_,rfl,DGet.k (k:=E8 z) hd,_,rfl,?_⟩;refine ite2 (λcz=>?_) (λcz=>?_)
    ·have hz:¬z∈c:=λzz=>by rw[(mk z).mpr zz] at cz;cases cz
     have e:qCY ns c m j=.str "needs":=by
      unfold qCY;rw[if_neg hw,if_neg λa8=>hz (a8 z (B5 ez))]
     have:=q Hd d;rw[e] at this;exact this
    ·have hz:z∈c:=by
      apply(mk z).mp;cases hv:(valV Af (E8 z:Key)).isSome with
      |true=>rfl
      |false=>rw[hv] at cz;exact absurd rfl cz
     refine⟨_,rfl,rfl,λy hy=>?_⟩;rw[C9,ez,D2,B0,A7] at hy;rcases hy with hy|rfl
     ·exact mm y hy
     ·exact hz
   ·refineλσ Hd a0=>opq λag a6=>?_;obtain⟨v6,rfl,rfl,mm⟩:=a0;refine a6 ?_;rw[A0,C6 (A6 _)] at mm;refine⟨_,rfl,so,_,rfl,.inr (Ac0 (d _ _ t)),_,rfl,_,_,rfl,rfl,_,rfl,?_⟩;have q':=q Hd d;have e0:qCY ns c m j=if m<=(c.length:Int) then .str "full" else .non:=by
     unfold qCY;rw[if_neg hw,if_pos mm]
    rw[e0] at q';refine ite2 (λcf=>?_) (λcf=>?_)
    ·have g:m<=(((c.map V.int).length:Nat):Int):=of_decide_eq_true cf;rw[A0] at g;rw[if_pos g] at q';exact q'
    ·have g:¬m<=(((c.map V.int).length:Nat):Int):=of_decide_eq_false (F7.mpr cf);rw[A0] at g;rw[if_neg g] at q';exact q'
theorem qON:FnScope ["net","rooms","stand","move"] ["net","rooms","stand","move"] (qAB qFA):=qBT
theorem ok_fault_of (F:Fun K "fault_of" "fault_of" qFA f fd) (k:Clb P w K mg base 1 qEA qK7 "fault_of_do" ["net","rooms","stand","work"] qMY):
  FnOk P w K mg base CX0 2 f fd ["net","rooms","stand","move"] qIM:=by
 refine F.okA qON λa2 A p s H vs Q E x h=>?_;obtain⟨a,u,g,Ae,t,ns,Aa,y,v,rfl,hN,d,j,c,m,r,l,a1,q⟩:=h;have a0:Room 1 _:=x;refine⟨_,(qA4 (qBD (qAN qET (qB7 qB9 (pv 3) qA7 (λ_ _=>rfl)) qBO (qAY _)) (qA5 (qAE (qAT k x rfl (qA0 (pv 0) (qA0 (pv 1) (qA0 (pv 2) (qA0 (qB7 qB9 (pv 3) qA7 (λ_ _=>rfl)) qA3))))))) qAM) (qA4 (qBD (qAN qDX (qB7 qB9 (pv 3) qA7 (λ_ _=>rfl)) (pv 2) (by with_unfolding_all rfl)) (qA5 (qAE qFP)) qAM) (qA5 (qAE qBO)))),?_⟩
 try dsimp only[Cx.nox,Cx.wish,cxOf]
 refine⟨_,rfl,g,_,_,_,rfl,rfl,Ac0 c,rfl,rfl,_,rfl,?_⟩;refine ite2 (λi=>?_) (λi=>?_)
 ·have n:v = "do":=V.str.inj (of_decide_eq_true i)
  refine⟨_,rfl,_,rfl,_,rfl,_,rfl,g,_,_,_,rfl,rfl,Ac0 c,rfl,a,u,Ae,t,ns,Aa,y,rfl,hN,d,j,r,l,λH' z=>?_⟩;have b:=q H' z;unfold qCB at b;rw[if_pos n] at b;exact b
 ·have n:¬v = "do":=λe=>(of_decide_eq_false (F7.mpr i)) (congrArg V.str e)
  have b:=q H (Same.refl H);unfold qCB qCO at b;rw[if_neg n] at b;refine⟨_,rfl,g,_,_,_,rfl,rfl,Ac0 c,rfl,_,rfl,u,_,rfl,.inr (Ac0 d),rfl,qC0 t,_,rfl,?_⟩;rw[qDT];refine ite2 (λo=>?_) (λo=>?_)
  ·rw[if_pos (of_decide_eq_true o)] at b;exact b
  ·rw[if_neg (of_decide_eq_false (F7.mpr o))] at b;exact b
theorem qS2:FnScope ["_law_stand","_law_move"] ["_law_stand","_law_move"] (qAB qGC):=qBT
theorem ok_Lbehind (F:Fun K "_law_behind" "_law_behind" qGC f fd) (a6:mg "sorted" = none) (a1:mg "tuple" = none):FnOk P w K mg base CX0 1 f fd ["_law_stand","_law_move"] qEN:=by
 refine F.okA qS2 λaa A a7 s H vs Q E m h=>?_;obtain⟨so,mv,d,Ac,c,rfl,n,lst,t,o,q⟩:=h;refine⟨_,(qA4 (qBD (qAN qET (qB7 qB9 (pv 1) qA7 (λ_ _=>rfl)) qBO (qAY _)) (qA5 (qAE (qAD qAF rfl a1 qAO (qA0 (qA9 (qF5 rfl) rfl a6 qCE (qA0 (qAR qP0 (pv 0) (qBN (qA0 (qB7 qB9 (pv 1) qA7 (λ_ _=>rfl)) qA3))) qA3)) qA3)))) qAM) (qA5 (qAE (qAD qAF rfl a1 qAO (qA0 (qC9 rfl (lcs (own:=["_law_work"]) (fv:=[1]) (by kernel_rfl)) (qCT (pv 0)) (λz1=>qBJ 0) (λz1=>(qDS (qAN qUE (pv 0) (qB7 (qH8 (K:=K) rfl) (pv 1) qA7 (λ_ _=>rfl)) (qAY _)))) (λz1=>(pv 0))) qA3))))),?_⟩
 try dsimp only[Cx.nox,Cx.wish,cxOf]
 refine⟨_,rfl,mv,_,_,_,rfl,rfl,Ac0 t,rfl,rfl,_,rfl,?_⟩;refine ite2 (λck=>?_) (λck=>?_)
 ·have hd:Ac = "do":=V.str.inj (of_decide_eq_true ck)
  refine⟨_,rfl,_,rfl,mv,_,_,_,rfl,rfl,Ac0 t,rfl,(by show 1<=B77;decide),λT hT=>?_⟩
  have sT:=qA2 hT (.tup [.int c]);have a4:∀(p:Addr) (H1:Hp),Same H H1->H1 p=some (.tup ((d++[c]).map V.int))->∀(b:Addr) (zs:List Int),H1 b=none->zs.Perm (d++[c])->zs.Pairwise (·<=·)->∀r,(Ag H1 b (.lst (zs.map V.int))) r=none->Q (.ref r) (Ag (Ag H1 b (.lst (zs.map V.int))) r (.tup (zs.map V.int))):=by
   intro p H1 s1 hp b zs u j hs r m;refine q r zs _ (s1.trans ((qA2 u _).trans (qA2 m _))) qA1 ⟨λ_=>⟨j,hs⟩,λz=>?_⟩;rw[hd] at z;exact absurd z.symm qAK
  refine⟨so,T,d.map V.int,[.int c],rfl,rfl,Ac0 (sT _ _ n),Ac0 qA1,by simp,T5 (qB6 (by rw[A0,C1];lia)),λz=>?_,λz p hp=>?_⟩
  ·have e:d=[]:=A84.mp z;have g:(Ag H T (.tup [.int c])) T=some (.tup ((d++[c]).map V.int)):=by rw[qA1,e];rfl
   exact⟨T,d++[c],rfl,.inr (.inl (Ac0 g)),λb zs u j hs=>⟨b,_,rfl,.inl ⟨Ab2 qA1,λr m=>a4 T _ sT g b zs u j hs r m⟩⟩⟩
  ·have g:(Ag (Ag H T (.tup [.int c])) p (.tup (d.map V.int++[.int c]))) p=some (.tup ((d++[c]).map V.int)):=by rw[qA1,B3];rfl
   exact⟨p,d++[c],rfl,.inr (.inl (Ac0 g)),λb zs u j hs=>⟨b,_,rfl,.inl ⟨Ab2 qA1,λr m=>a4 p _ (sT.trans (qA2 hp _)) g b zs u j hs r m⟩⟩⟩
 ·have hd:Ac = "clear":=o.resolve_left λe=>(of_decide_eq_false (F7.mpr ck)) (congrArg V.str e);refine⟨_,rfl,so,rfl,⟨_,Ac0 n⟩,λp hp=>?_⟩;refine qDL (p:=p) (a:=so) (xs:=d.map V.int) (λi σ Hc=>∃(v:Option V),σ=[v,some (.ref mv)]/\Same H Hc/\Hc p=some (.lst (((d.take i).filter λx=>decide (x≠c)).map V.int))) ?_ ?_ ?_ ?_
  ·exact⟨none,rfl,qA2 hp _,qA1⟩
  ·rintro i σ Hc hi ⟨v,rfl,sm,_⟩;exact Ac0 (sm _ _ n)
  ·refineλi x σ Hc hx a5=>opq λa8 a0=>?_;obtain⟨v,rfl,sm,k⟩:=a5;obtain⟨y,ey,rfl⟩:=qB1 hx;refine a0 ?_;have hi:=(A5.mp ey).1;have lk:=qC1 (p:=λx=>decide (x≠c)) (l:=d) (i:=i);refine⟨_,rfl,_,rfl,mv,_,_,_,rfl,rfl,Ac0 (sm _ _ t),rfl,rfl,_,rfl,?_⟩;rw[qCJ ey];by_cases e:y=c
   ·rw[decide_eq_true (show V.int y=V.int c by rw[e]),decide_eq_false (show¬y≠c fromλz=>z e)]
    refine⟨_,rfl,sm,?_⟩;simpa using k
   ·rw[decide_eq_false (show¬V.int y=V.int c fromλz=>e (V.int.inj z)),decide_eq_true (show y≠c from e)];refine⟨_,rfl,_,k,qAH (by rw[A0];lia),_,rfl,qAA sm hp,?_⟩
    rw[qA1,if_pos rfl,B3]
    rfl
  ·refineλσ Hc a3=>opq λa9 a2=>?_;obtain⟨v,rfl,sm,k⟩:=a3;refine a2 ?_;rw[A0,qBC rfl] at k;refine⟨p,_,rfl,.inl ⟨Ab2 k,λr m=>?_⟩⟩;refine q r _ _ (sm.trans (qA2 m _)) qA1 ⟨λz=>?_,λ_=>rfl⟩;rw[hd] at z;exact absurd z qAK
theorem qIO:FnScope ["stand","move"] ["stand","move"] (qAB qCK):=qBT
theorem ok_stand_behind (F:Fun K "stand_behind" "stand_behind" qCK f fd) (a6:mg "sorted" = none) (a1:mg "tuple" = none):FnOk P w K mg base CX0 1 f fd ["stand","move"] qEN:=by
 refine F.okA qIO λaa A a7 s H vs Q E m h=>?_;obtain⟨so,mv,d,Ac,c,rfl,n,lst,t,o,q⟩:=h;refine⟨_,(qA4 (qBD (qAN qET (qB7 qB9 (pv 1) qA7 (λ_ _=>rfl)) qBO (qAY _)) (qA5 (qAE (qAD qAF rfl a1 qAO (qA0 (qA9 (qF5 rfl) rfl a6 qCE (qA0 (qAR qP0 (pv 0) (qBN (qA0 (qB7 qB9 (pv 1) qA7 (λ_ _=>rfl)) qA3))) qA3)) qA3)))) qAM) (qA5 (qAE (qAD qAF rfl a1 qAO (qA0 (qC9 rfl (lcs (own:=["result"]) (fv:=[1]) (by kernel_rfl)) (qCT (pv 0)) (λz2=>qBJ 0) (λz2=>(qDS (qAN qUE (pv 0) (qB7 (qH8 (K:=K) rfl) (pv 1) qA7 (λ_ _=>rfl)) (qAY _)))) (λz2=>(pv 0))) qA3))))),?_⟩
 try dsimp only[Cx.nox,Cx.wish,cxOf]
 refine⟨_,rfl,mv,_,_,_,rfl,rfl,Ac0 t,rfl,rfl,_,rfl,?_⟩;refine ite2 (λck=>?_) (λck=>?_)
 ·have hd:Ac = "do":=V.str.inj (of_decide_eq_true ck)
  refine⟨_,rfl,_,rfl,mv,_,_,_,rfl,rfl,Ac0 t,rfl,(by show 1<=B77;decide),λT hT=>?_⟩
  have sT:=qA2 hT (.tup [.int c]);have a3:∀(p:Addr) (H1:Hp),Same H H1->H1 p=some (.tup ((d++[c]).map V.int))->∀(b:Addr) (zs:List Int),H1 b=none->zs.Perm (d++[c])->zs.Pairwise (·<=·)->∀r,(Ag H1 b (.lst (zs.map V.int))) r=none->Q (.ref r) (Ag (Ag H1 b (.lst (zs.map V.int))) r (.tup (zs.map V.int))):=by
   intro p H1 s1 hp b zs u j hs r m;refine q r zs _ (s1.trans ((qA2 u _).trans (qA2 m _))) qA1 ⟨λ_=>⟨j,hs⟩,λz=>?_⟩;rw[hd] at z;exact absurd z.symm qAK
  refine⟨so,T,d.map V.int,[.int c],rfl,rfl,Ac0 (sT _ _ n),Ac0 qA1,by simp,T5 (qB6 (by rw[A0,C1];lia)),λz=>?_,λz p hp=>?_⟩
  ·have e:d=[]:=A84.mp z;have g:(Ag H T (.tup [.int c])) T=some (.tup ((d++[c]).map V.int)):=by rw[qA1,e];rfl
   exact⟨T,d++[c],rfl,.inr (.inl (Ac0 g)),λb zs u j hs=>⟨b,_,rfl,.inl ⟨Ab2 qA1,λr m=>a3 T _ sT g b zs u j hs r m⟩⟩⟩
  ·have g:(Ag (Ag H T (.tup [.int c])) p (.tup (d.map V.int++[.int c]))) p=some (.tup ((d++[c]).map V.int)):=by rw[qA1,B3];rfl
   exact⟨p,d++[c],rfl,.inr (.inl (Ac0 g)),λb zs u j hs=>⟨b,_,rfl,.inl ⟨Ab2 qA1,λr m=>a3 p _ (sT.trans (qA2 hp _)) g b zs u j hs r m⟩⟩⟩
 ·have hd:Ac = "clear":=o.resolve_left λe=>(of_decide_eq_false (F7.mpr ck)) (congrArg V.str e);refine⟨_,rfl,so,rfl,⟨_,Ac0 n⟩,λp hp=>?_⟩;refine qDL (p:=p) (a:=so) (xs:=d.map V.int) (λi σ Hc=>∃(v:Option V),σ=[v,some (.ref mv)]/\Same H Hc/\Hc p=some (.lst (((d.take i).filter λx=>decide (x≠c)).map V.int))) ?_ ?_ ?_ ?_
  ·exact⟨none,rfl,qA2 hp _,qA1⟩
  ·rintro i σ Hc hi ⟨v,rfl,sm,_⟩;exact Ac0 (sm _ _ n)
  ·refineλi x σ Hc hx a0=>opq λa9 a5=>?_;obtain⟨v,rfl,sm,k⟩:=a0;obtain⟨y,ey,rfl⟩:=qB1 hx;refine a5 ?_;have hi:=(A5.mp ey).1;have lk:=qC1 (p:=λx=>decide (x≠c)) (l:=d) (i:=i);refine⟨_,rfl,_,rfl,mv,_,_,_,rfl,rfl,Ac0 (sm _ _ t),rfl,rfl,_,rfl,?_⟩;rw[qCJ ey];by_cases e:y=c
   ·rw[decide_eq_true (show V.int y=V.int c by rw[e]),decide_eq_false (show¬y≠c fromλz=>z e)]
    refine⟨_,rfl,sm,?_⟩;simpa using k
   ·rw[decide_eq_false (show¬V.int y=V.int c fromλz=>e (V.int.inj z)),decide_eq_true (show y≠c from e)];refine⟨_,rfl,_,k,qAH (by rw[A0];lia),_,rfl,qAA sm hp,?_⟩
    rw[qA1,if_pos rfl,B3]
    rfl
  ·refineλσ Hc a4=>opq λa8 a2=>?_;obtain⟨v,rfl,sm,k⟩:=a4;refine a2 ?_;rw[A0,qBC rfl] at k;refine⟨p,_,rfl,.inl ⟨Ab2 k,λr m=>?_⟩⟩;refine q r _ _ (sm.trans (qA2 m _)) qA1 ⟨λz=>?_,λ_=>rfl⟩;rw[hd] at z;exact absurd z qAK
theorem sc_moves_of:FnScope ["net","rooms","stand","dos","clears"] ["net","rooms","stand"] (qAB qF9):=qBT
theorem ok_moves_of (F:Fun K "moves_of" "moves_of" qF9 f fd) (al:Clb P w K mg base 2 qHC qPI "fault_of" ["net","rooms","stand","move"] qIM)
  (qAZ:mg "range" = none) (qBI:mg "len" = none):FnOk P w K mg base CX0 3 f fd ["net","rooms","stand"] qMX:=by
 refine F.okA sc_moves_of λao A ah s H vs Q E hr h=>?_;obtain⟨a,so,b,st,z,rfl,hN,wf,af,ag,lst,q⟩:=h;have as:Room 2 _:=hr;refine⟨_,(qA4 (qOT (i:=3) sc_moves_of.nd rfl rfl rfl (lcs (own:=["work"]) (fv:=[]) (by kernel_rfl)) (qB8 rfl qAZ (qA0 (qA9 qAC rfl qBI qBH (qA0 (pv 0) qA3)) qA3)) (λz1=>qBJ 0) (λz1=>qB0) (λz1=>(qBN (qA0 qBO (qA0 (pv 0) qA3)))) (by kernel_rfl)) (qA4 (qOT (i:=4) sc_moves_of.nd rfl rfl rfl (lcs (own:=["work"]) (fv:=[]) (by kernel_rfl)) (qB8 rfl qAZ (qA0 (qA9 qAC rfl qBI qBH (qA0 (pv 0) qA3)) qA3)) (λz2=>qBJ 0) (λz2=>qB0) (λz2=>(qBN (qA0 qBO (qA0 (pv 0) qA3)))) (by kernel_rfl)) (qA5 (qAE (qC9 rfl (lcs (own:=["move"]) (fv:=[0,1,2]) (by kernel_rfl)) (qCX (qAR qQY (pv 3) (pv 4))) (λz3=>qBJ 0) (λz3=>(qDS (qCZ (qHM (qAT al hr rfl (qA0 (pv 1) (qA0 (pv 2) (qA0 (pv 3) (qA0 (pv 0) qA3))))))))) (λz3=>(pv 0))))))),?_⟩
 try dsimp only[Cx.nox,Cx.wish,cxOf]
 obtain⟨rs,hA,NL⟩:=id hN;have c:(((rs.map V.ref).length:Nat):Int)=(b.length:Int):=by rw[A0,C2 NL]
 refine⟨_,rfl,a,_,rfl,.inr (Ac0 hA),_,rfl,by rw[c];lia,by rw[c];lia,λp hp=>?_⟩
 refine qDM (p:=p) (lo:=0) (n:=((((rs.map V.ref).length:Nat):Int)).toNat) (λi σ Hc=>∃(v:Option V) (rd:List Addr),σ=[v]/\Same H Hc/\Hc p=some (.lst (rd.map V.ref))/\MovL Hc rd (qHX "do" i)) ?_ ?_ ?_
 ·exact⟨none,[],rfl,qA2 hp _,qA1,.nil⟩
 ·refineλi σ Hc hi a5=>opq λaq a9=>?_;obtain⟨v,rd,rfl,sm,t,ML⟩:=a5;refine a9 ?_;rw[c] at hi;refine⟨_,rfl,(by show 2<=B77;decide),λmv e=>?_⟩
  have o:=qA2 e (.tup [.str "do",.int (0+(i:Int))])
  have ll:=C2 ML;rw[qEU] at ll;refine⟨_,o _ _ t,qAH (by rw[A0];lia),_,rd++[mv],rfl,qAA (sm.trans o) hp,?_,?_⟩
  ·rw[qA1,qB2]
  ·rw[qKP];exact((ML.same o).snoc qA1).put (o _ _ t)
 ·refineλσ Hc a6=>opq λar a3=>?_;obtain⟨v,rd,rfl,sm,t,ML⟩:=a6;refine a3 ?_;rw[show((((rs.map V.ref).length:Nat):Int)).toNat=b.length by rw[c];lia] at ML
  refine⟨_,rfl,a,_,rfl,.inr (Ac0 (sm _ _ hA)),_,rfl,by rw[c];lia,by rw[c];lia,λp2 a8=>?_⟩
  refine qDM (p:=p2) (lo:=0) (n:=((((rs.map V.ref).length:Nat):Int)).toNat) (λi σ u=>∃(v:Option V) (re:List Addr),σ=[v]/\Same Hc u/\u p2=some (.lst (re.map V.ref))/\MovL u re (qHX "clear" i)) ?_ ?_ ?_
  ·exact⟨none,[],rfl,qA2 a8 _,qA1,.nil⟩
  ·refineλi σ u hi aa=>opq λan ad=>?_;obtain⟨v,re,rfl,j,r,ME⟩:=aa;refine ad ?_;rw[c] at hi;refine⟨_,rfl,(by show 2<=B77;decide),λmv e=>?_⟩
   have o:=qA2 e (.tup [.str "clear",.int (0+(i:Int))]);have ll:=C2 ME;rw[qEU] at ll;refine⟨_,o _ _ r,qAH (by rw[A0];lia),_,re++[mv],rfl,qAA (j.trans o) a8,?_,?_⟩
   ·rw[qA1,qB2]
   ·rw[qKP];exact((ME.same o).snoc qA1).put (o _ _ r)
  ·refineλσ u a2=>opq λap ab=>?_;obtain⟨v,re,rfl,j,r,ME⟩:=a2;refine ab ?_;rw[show((((rs.map V.ref).length:Nat):Int)).toNat=b.length by rw[c];lia] at ME
   have l1:=C2 ML;have l2:=C2 ME;rw[qEU] at l1 l2;refine⟨_,rfl,_,rfl,p,p2,_,_,rfl,rfl,j _ _ t,r,?_,λl hl=>?_⟩
   ·rw[A0,A0,B88];lia
   have sl:=qA2 hl (.lst (rd.map V.ref++re.map V.ref));have MA:MovL (Ag u l (.lst (rd.map V.ref++re.map V.ref))) (rd++re) (qK9 b.length):=((ML.same j).app ME).same sl;have gl:(Ag u l (.lst (rd.map V.ref++re.map V.ref))) l=some (.lst ((rd++re).map V.ref)):=by rw[qA1,B3]
   have g:=(sm.trans j).trans sl;generalize Ag u l (.lst (rd.map V.ref++re.map V.ref))=He at MA gl g ⊢;have lE:(rd++re).length=b.length+b.length:=by rw[A8,l1,l2]
   refine⟨l,rfl,⟨_,Ab2 gl⟩,λp3 a0=>?_⟩;refine qEW (p:=p3) (a:=l) (xs:=(rd++re).map V.ref) (λi σ y=>∃(v:Option V) (rk:List Addr),σ=[v,some (.ref a),some (.int z),some (.ref so)]/\Same He y/\y p3=some (.lst (rk.map V.ref))/\MovL y rk (((qK9 b.length).take i).filter λm=>decide (wd b st z m=.non))) ?_ ?_ ?_ ?_
   ·exact⟨none,[],rfl,qA2 a0 _,qA1,.nil⟩
   ·rintro i σ y hi ⟨v,rk,rfl,sm3,_⟩;exact Ab2 (sm3 _ _ gl)
   ·refineλi x σ y hx ae=>opq λam a4=>?_;obtain⟨v,rk,rfl,sm3,k,MK⟩:=ae;obtain⟨mv,e,rfl⟩:=qCI hx;refine a4 ?_;have hi:i<b.length+b.length:=by rw[<- lE];exact(A5.mp e).1
    obtain⟨m,hm,em⟩:=qAU MA e;obtain⟨hw,m0,m1⟩:=qRJ (B5 hm);have ai:m.2.toNat<b.length:=by lia
    have a1:=A4 ai;have rz:=wf _ _ a1;have lk:=C2 MK;have aj:=P0 (λm=>decide (wd b st z m=.non)) ((qK9 b.length).take i);rw[C5,qNT] at aj;have ak:wd b st z m=qCB b[m.2.toNat] st z m.1 m.2:=by unfold wd;rw[a1];rfl
    refine⟨_,rfl,_,rfl,_,rfl,_,rfl,a,so,mv,b,st,b[m.2.toNat],z,m.2,m.1,rfl,hN.same (g.trans sm3),(g.trans sm3) _ _ ag,lst,sm3 _ _ em,hw,m0,a1,?_,λHg d=>⟨_,rfl,?_⟩⟩
    ·have:=rz.len;lia
    rw[<- ak,qCJ hm];by_cases hd:wd b st z m=.non
    ·rw[hd];refine⟨_,rfl,_,d _ _ k,(by rw[A0,B88];lia),_,rk++[mv],rfl,qAA (sm3.trans d) a0,?_,?_⟩
     ·rw[qA1,qB2]
     ·exact((MK.same d).snoc (d _ _ (sm3 _ _ em))).put (d _ _ k)
    ·rw[decide_eq_false hd];refine⟨_,rk,rfl,sm3.trans d,d _ _ k,?_⟩;simpa using MK.same d
   ·refineλσ y a7=>opq λau ac=>?_;obtain⟨v,rk,rfl,sm3,k,MK⟩:=a7;refine ac ?_;rw[C6 (by rw[A0,lE,qNT];exact A6 _)] at MK
    exact q p3 rk y (g.trans sm3) (g.free a0) k MK
theorem qS1:FnScope ["results","works"] ["results","works"] (qAB qG8):=qBT
theorem ok_has_all (F:Fun K "has_all" "has_all" qG8 f fd) (a0:mg "all" = none):FnOk P w K mg base CX0 1 f fd ["results","works"] qYU:=by
 refine F.okA qS1 λa6 A a2 s H vs Q E hr h=>?_;obtain⟨b,a,t,j,y,rfl,a1,hT,l1,q⟩:=h;refine⟨_,(qA5 (qAE (qA9 (qFM rfl) rfl a0 qL3 (qA0 (qC9 rfl (lcs (own:=["work"]) (fv:=[0]) (by kernel_rfl)) (qZ2 (pv 1)) (λz1=>qBJ 0) (λz1=>qB0) (λz1=>(qDC (qKM (K:=K) rfl) (pv 0) (pv 1) (by with_unfolding_all rfl)))) qA3)))),?_⟩
 try dsimp only[Cx.nox,Cx.wish,cxOf]
 refine⟨_,rfl,b,t,rfl,⟨_,sqo hT⟩,λp hp=>?_⟩;refine qZ7 (b:=b) (p:=p) (a:=t) (xs:=y.map V.int) (λi σ g=>∃(v:Option V),σ=[v,some (.ref a)]/\Same H g/\g p=some (.lst (((y.take i).map λx=>decide (x∈j)).map V.bl))) ?_ ?_ ?_ ?_
 ·exact⟨none,rfl,qA2 hp _,qA1⟩
 ·refineλi σ g hi n=>opq λa5 m=>?_;obtain⟨v,rfl,d,_⟩:=n;refine m ?_;exact sqo (hT.same d)
 ·refineλi x σ g hx u=>opq λa3 k=>?_;obtain⟨v,rfl,d,c⟩:=u;obtain⟨z,ez,rfl⟩:=qB1 hx;refine k ?_;have hi:=(A5.mp ez).1;refine⟨_,rfl,_,rfl,a,_,rfl,.inr (Ac0 (d _ _ a1)),rfl,qC0 j,_,c,qAH (by rw[A0,A0,C5];lia),_,rfl,qAA d hp,?_⟩
  rw[qA1];refine congrArg (λl=>some (HO.lst l)) ?_;rw[C9,ez,D2,B3,B3];show _++[V.bl (inV (.int z) (j.map V.int))]=_;rw[qDT]
  rfl
 ·refineλσ g r=>opq λa4 o=>?_;obtain⟨v,rfl,d,c⟩:=r;refine o ?_;rw[A0,C6 (A6 _)] at c;refine⟨p,_,rfl,Ab2 c,?_⟩;have e:((y.map λx=>decide (x∈j)).all id)=decide (∀x∈y,x∈j):=by
   rw[O1,decide_eq_true_eq];exact all_in
  rw[e];exact q g d
structure Fnd2 (Ae:Aa0)(Ad ks:List Int)(j:Int):Prop where
 in_:∀x∈ks,(0<=x/\x<(Ae.length:Int))/\Nd Ae Ad x
 ask:∀x∈Ad,j<=x->x∈ks
 clo:∀(w:Nat) zs,j<=(w:Int)->(w:Int)∈ks->Ae[w]?=some zs->∀y∈zs,y∈ks
theorem repF:∀n:Nat,(D8 n [V.bl false]).flatten=(D8 n false).map V.bl
 |0=>rfl
 |n+1=>by rw[P8,P8,Y2,repF n];rfl
structure Bls (n:Nat)(ks:List Int)(bs:List Bool):Prop where
 len:bs.length=n
 at_:∀x:Nat,x<n->bs[x]?=some (decide ((x:Int)∈ks))
theorem Bls.set {n:Nat} {ks:List Int} {a:List Bool} (h:Bls n ks a){x:Int}(d:0<=x)(f:x<n):Bls n (addI ks x) (a.set x.toNat true):=by
 refine⟨by rw[A47];exact h.len,λy b=>?_⟩
 by_cases e:(y:Int)=x
 ·have c:x.toNat=y:=by lia
  rw[c,W7 (by rw[h.len];exact b),decide_eq_true (mem_addI.mpr (.inr e))]
 ·rw[n9 (by lia),h.at_ y b]
  congr 1;exact decide_eq_decide.mpr ⟨λz=>mem_addI.mpr (.inl z),λz=>(mem_addI.mp z).resolve_right e⟩
theorem qZD {a:List Bool} {i:Nat} {b:Bool} (h:a[i]?=some b):(a.map V.bl)[i]?=some (.bl b):=by rw[B6,h];rfl
theorem sc_Lneeded:FnScope ["_law_net_here","_law_asked_here","_law_found","_law_work","_law_need"] ["_law_net_here","_law_asked_here"] (qAB qGB):=qBT
theorem ok_Lneeded (F:Fun K "_law_needed" "_law_needed" qGB f fd) (qBI:mg "len" = none) (qAZ:mg "range" = none):FnOk P w K mg base CX0 1 f fd ["_law_net_here","_law_asked_here"] qQ6:=by
 refine F.okA sc_Lneeded λaq A al s H vs Q E hr h=>?_;obtain⟨a,t,b,Ad,rfl,hN,wf,ak,⟨hT,rA⟩,q⟩:=h;refine⟨_,(qA4 (qAG (i:=2) sc_Lneeded.nd rfl (q9 rfl) (qAR qUC (qBU (qA0 qDD qA3)) (qA9 qAC rfl qBI qBH (qA0 (pv 0) qA3)))) (qA4 (qBZ D5 rfl (qU2 rfl qAZ (qA0 (qAR qD0 (qA9 qAC rfl qBI qBH (qA0 (pv 0) qA3)) qA7) (qA0 (qOW qII qA7) (qA0 (qOW qII qA7) qA3)))) (qAS (i:=3) sc_Lneeded.nd rfl (E2 rfl)) (qA4 (qa6 (qBD (qAN qDX (pv 3) (pv 1) (by with_unfolding_all rfl)) (qA5 (qKH qDD (qU3 (pv 2) (pv 3) qLF))) qAM)) (qA5 (qBD (qBX (qB7 qCD (pv 2) (pv 3) (λ_ _=>rfl))) (qA5 (qBZ D5 rfl (qCT (qB7 qB9 (pv 0) (pv 3) (λ_ _=>rfl))) (qAS (i:=4) sc_Lneeded.nd rfl (E2 rfl)) (qA5 (qKH qDD (qU3 (pv 2) (pv 4) qLF))))) qAM)))) (qA5 (qAE (qC9 rfl (lcs (own:=["_law_work"]) (fv:=[2]) (by kernel_rfl)) (qB8 rfl qAZ (qA0 (qA9 qAC rfl qBI qBH (qA0 (pv 0) qA3)) qA3)) (λz1=>qBJ 0) (λz1=>(qDS (qBX (qB7 (qRA (K:=K) rfl) (pv 1) (pv 0) (λ_ _=>rfl))))) (λz1=>(pv 0))))))),?_⟩
 try dsimp only[Cx.nox,Cx.wish,cxOf]
 obtain⟨rs,hA,NL⟩:=id hN;have d:(((rs.map V.ref).length:Nat):Int)=(b.length:Int):=by rw[A0,C2 NL]
 refine⟨(by show 1<=B77;decide),λp0 am=>?_⟩
 have s0:=qA2 am (.lst [.bl false]);refine⟨_,rfl,a,_,rfl,.inr (Ac0 (s0 _ _ hA)),p0,_,_,rfl,rfl,qA1,by rw[d];lia,by rw[d];lia,?_,λm ag=>?_⟩
 ·rw[d,B88];simp;lia
 have ad:H m=none:=s0.free ag;have s1:=s0.trans (qA2 ag (.lst (D8 ((((rs.map V.ref).length:Nat):Int)).toNat [V.bl false]).flatten));have af:(Ag (Ag H p0 (.lst [.bl false])) m (.lst (D8 ((((rs.map V.ref).length:Nat):Int)).toNat [V.bl false]).flatten)) m=some (.lst ((D8 b.length false).map V.bl)):=by
  rw[qA1,repF,d,D9]
 generalize Ag (Ag H p0 (.lst [.bl false])) m (.lst (D8 ((((rs.map V.ref).length:Nat):Int)).toNat [V.bl false]).flatten)=H1 at s1 af;refine⟨_,rfl,a,_,rfl,.inr (Ac0 (s1 _ _ hA)),_,_,rfl,rfl,_,rfl,_,rfl,_,_,rfl,⟨by rw[d];lia,by rw[d];lia,by decide,by decide⟩,qRG (lo:=(((rs.map V.ref).length:Nat):Int)-1) (n:=((((rs.map V.ref).length:Nat):Int)-1 - -1).toNat) (λi σ Hc=>∃(bs:List Bool) (ks:List Int) (v3 v4:Option V),σ=[some (.ref a),some (.ref t),some (.ref m),v3,v4]/\Same H Hc/\Hc m=some (.lst (bs.map V.bl))/\Bls b.length ks bs/\Fnd2 b Ad ks ((b.length:Int)-i))
  ⟨_,[],none,none,rfl,s1,af,⟨by simp,λx hx=>by simp[hx]⟩,⟨λx hx=>(nomatch hx),λx hx hl=>?_,λw zs h1 h2=>(nomatch h2)⟩⟩ ?_ ?_⟩
 ·have:=(rA.in_ x hx).2
  lia
 ·refineλi σ Hc hi a5=>opq λas a9=>?_;obtain⟨bs,ks,v3,v4,rfl,o,hf,B,u⟩:=a5;refine a9 ?_;rw[d] at hi ⊢;obtain⟨g,ew⟩:∃g:Nat,(b.length:Int)-1-i=(g:Int):=⟨b.length-1-i,by lia⟩
  have hw:g<b.length:=by lia
  rw[ew];obtain⟨r,h3,h4⟩:=NL.get (A4 hw);have hz:=A4 hw;have rz:=wf g _ hz;generalize b[g]=zs at h4 hz rz;have ix:∀{bs:List Bool} {ks:List Int} {x:Int},Bls b.length ks bs->0<=x->x<(b.length:Int)->ixN (bs.map V.bl).length x=some x.toNat:=λ{bs ks x} B h0 h1=>by
   have:=qV1 (xs:=bs.map V.bl) (j:=x.toNat) (by rw[A0,B.len];lia)
   rw[show((x.toNat:Nat):Int)=x by lia] at this
   exact this
  -- Ad
  refine⟨λσ Hc=>∃(bs:List Bool) (ks:List Int),σ=[some (.ref a),some (.ref t),some (.ref m),some (.int (g:Int)),v4]/\Same H Hc/\Hc m=some (.lst (bs.map V.bl))/\Bls b.length ks bs/\(∀x∈ks,(0<=x/\x<(b.length:Int))/\Nd b Ad x)/\(∀x∈Ad,(g:Int)<=x->x∈ks)/\(∀(w:Nat) zs,(g:Int)+1<=(w:Int)->(w:Int)∈ks->b[w]?=some zs->∀y∈zs,y∈ks),?_,?_⟩
  ·refine⟨_,rfl,_,rfl,t,_,rfl,.inr (Ac0 (o _ _ hT)),rfl,qC0 Ad,_,rfl,?_⟩;rw[qDT];by_cases c:(g:Int)∈Ad
   ·rw[decide_eq_true c];refine⟨_,rfl,_,rfl,m,_,_,g,rfl,rfl,hf,?_,?_⟩
    ·have:=ix B (x:=(g:Int)) (by lia) (by lia)
     rw[D9] at this;exact this
    ·have st:=B.set (x:=(g:Int)) (by lia) (by lia)
     rw[D9] at st;refine⟨_,addI ks (g:Int),rfl,qAA o ad,by rw[qA1,B20],st,λx hx=>?_,λx hx hl=>?_,λw1 ys h1 h2 h9 y hy=>?_⟩
     ·rcases mem_addI.mp hx with hx|hx
      ·exact u.in_ x hx
      ·rw[hx];exact⟨⟨by lia,by lia⟩,.ask c⟩
     ·by_cases e:x=(g:Int)
      ·exact mem_addI.mpr (.inr e)
      ·exact mem_addI.mpr (.inl (u.ask x hx (by lia)))
     ·rcases mem_addI.mp h2 with h2|h2
      ·exact mem_addI.mpr (.inl (u.clo w1 ys (by lia) h2 h9 y hy))
      ·lia
   ·rw[decide_eq_false c];refine⟨bs,ks,rfl,o,hf,B,u.in_,λx hx hl=>?_,λw1 ys h1 h2 h9=>u.clo w1 ys (by lia) h2 h9⟩
    by_cases e:x=(g:Int)
    ·rw[e] at hx;exact absurd hx c
    ·exact u.ask x hx (by lia)
  refineλσ Hc a6=>opq λau a3=>?_;obtain⟨bs,ks,rfl,o,hf,B,f1,f2,f3⟩:=a6;refine a3 ?_;refine⟨_,rfl,_,rfl,m,_,_,_,rfl,rfl,Ab2 hf,qDZ (by lia) (by rw[D9];exact qZD (B.at_ g hw)),_,rfl,?_⟩
  by_cases c:(g:Int)∈ks
  ·rw[decide_eq_true c];refine⟨_,rfl,_,rfl,a,_,_,_,rfl,rfl,Ac0 (o _ _ hA),qDZ (by lia) (by rw[D9,B6,h3];rfl),r,rfl,⟨_,Ac0 (o _ _ h4)⟩,qG0 (a:=r) (xs:=zs.map V.int) (λk σ Hd=>∃(bs:List Bool) (ks:List Int) (v4:Option V),σ=[some (.ref a),some (.ref t),some (.ref m),some (.int (g:Int)),v4]/\Same H Hd/\Hd m=some (.lst (bs.map V.bl))/\Bls b.length ks bs/\(∀x∈ks,(0<=x/\x<(b.length:Int))/\Nd b Ad x)/\(∀x∈Ad,(g:Int)<=x->x∈ks)/\(∀(w:Nat) zs,(g:Int)+1<=(w:Int)->(w:Int)∈ks->b[w]?=some zs->∀y∈zs,y∈ks)/\(g:Int)∈ks/\∀y∈zs.take k,y∈ks)
    ⟨bs,ks,v4,rfl,o,hf,B,f1,f2,f3,c,λy hy=>by simp at hy⟩ (λk σ Hd _ hP=>by obtain⟨_,_,_,_,sd,_⟩:=hP;exact Ac0 (sd _ _ h4)) ?_ ?_⟩
   ·refineλk x σ Hd hx aa=>opq λap ai=>?_;obtain⟨bs,ks,v4,rfl,sd,a1,B,f1,f2,f3,c,ty⟩:=aa;obtain⟨y,ey,rfl⟩:=qB1 hx;refine ai ?_;have my:=B5 ey;have yb:=rz.in_ y my;refine⟨_,rfl,_,rfl,m,_,_,y.toNat,rfl,rfl,a1,ix B yb.1 (by lia),?_⟩
    refine⟨_,addI ks y,_,rfl,qAA sd ad,by rw[qA1,B20],B.set yb.1 (by lia),λx hx=>?_,λx hx hl=>mem_addI.mpr (.inl (f2 x hx hl)),λw1 ys h1 h2 h9 z hz'=>?_,mem_addI.mpr (.inl c),λz hz'=>?_⟩
    ·rcases mem_addI.mp hx with hx|hx
     ·exact f1 x hx
     ·rw[hx];exact⟨⟨yb.1,by lia⟩,.need (f1 _ c).2 (by rw[D9];exact hz) my⟩
    ·rcases mem_addI.mp h2 with h2|h2
     ·exact mem_addI.mpr (.inl (f3 w1 ys h1 h2 h9 z hz'))
     ·lia
    ·rw[C9,ey,D2,B0,A7] at hz';rcases hz' with hz'|hz'
     ·exact mem_addI.mpr (.inl (ty z hz'))
     ·exact mem_addI.mpr (.inr hz')
   ·refineλσ Hd a2=>opq λar ab=>?_;obtain⟨bs,ks,v4,rfl,sd,a1,B,f1,f2,f3,c,ty⟩:=a2;refine ab ?_;rw[A0,qBC rfl] at ty;refine⟨bs,ks,_,_,rfl,sd,a1,B,f1,λx hx hl=>f2 x hx (by lia),λw1 ys h1 h2 h9=>?_⟩
    by_cases e:w1=g
    ·subst e;rw[hz] at h9;cases h9;exact ty
    ·exact f3 w1 ys (by lia) h2 h9
  ·rw[decide_eq_false c];refine⟨bs,ks,_,_,rfl,o,hf,B,f1,λx hx hl=>f2 x hx (by lia),λw1 ys h1 h2 h9=>?_⟩
   by_cases e:w1=g
   ·subst e;exact absurd h2 c
   ·exact f3 w1 ys (by lia) h2 h9
 ·refineλσ Hc ac=>opq λao ah=>?_;obtain⟨bs,ks,v3,v4,rfl,o,hf,B,u⟩:=ac;refine ah ?_;rw[d,show((b.length:Int)-(((b.length:Int)-1 - -1).toNat:Nat))=0 by lia] at u
  have all:=Fnd.all wf (⟨u.in_,λx hx=>u.ask x hx (rA.in_ x hx).1,u.clo⟩:Fnd b Ad ks 0);have a8:((((rs.map V.ref).length:Nat):Int)).toNat=b.length:=by rw[d];lia
  refine⟨_,rfl,a,_,rfl,.inr (Ac0 (o _ _ hA)),_,rfl,by rw[d];lia,by rw[d];lia,λp hp=>?_⟩
  refine qDM (p:=p) (lo:=0) (n:=((((rs.map V.ref).length:Nat):Int)).toNat) (λi σ Hd=>∃(v:Option V),σ=[v,some (.ref m)]/\Same Hc Hd/\Hd p=some (.lst ((((qBM 0 b.length).take i).filter λx=>decide (x∈ks)).map V.int))) ?_ ?_ ?_
  ·exact⟨none,rfl,qA2 hp _,qA1⟩
  ·refineλi σ Hd hi aj=>opq λan a4=>?_;obtain⟨v,rfl,sd,a0⟩:=aj;refine a4 ?_;rw[a8] at hi;have lk:=qC1 (p:=λx=>decide (x∈ks)) (l:=qBM 0 b.length) (i:=i);refine⟨_,rfl,_,rfl,m,_,_,_,rfl,rfl,Ab2 (sd _ _ hf),qDZ (by lia) (by rw[show(0+(i:Int)).toNat=i by lia];exact qZD (B.at_ i hi)),_,rfl,?_⟩
   rw[qCJ (qFU (by lia)),B19]
   by_cases c:(i:Int)∈ks
   ·rw[decide_eq_true c];refine⟨_,rfl,_,a0,qAH (by rw[A0];lia),_,rfl,qAA sd hp,?_⟩
    rw[qA1,if_pos rfl,B3]
    rfl
   ·rw[decide_eq_false c];refine⟨_,rfl,sd,?_⟩;simpa using a0
  ·refineλσ Hd a7=>opq λav ae=>?_;obtain⟨v,rfl,sd,a0⟩:=a7;refine ae ?_;rw[qBC (by rw[qDW,a8];lia)] at a0
   refine q p _ Hd (o.trans sd) (o.free hp) a0 ⟨⟨(qEP _ _).filter _,λx hx=>mem_rangeI.mp (E4.mp hx).1⟩,λx=>?_⟩;rw[E4,mem_rangeI,decide_eq_true_eq,<- all x];exact⟨λz=>z.2,λz=>⟨(u.in_ x z).1,z⟩⟩
theorem qX2:FnScope ["_law_net_here","_law_rooms","_law_stand","_law_move"] ["_law_net_here","_law_rooms","_law_stand","_law_move"] (qAB qLH):=qBT
theorem ok_Lword (F:Fun K "_law_word" "_law_word" qLH f fd) (qBI:mg "len" = none) (a4:mg "all" = none):FnOk P w K mg base CX0 1 f fd ["_law_net_here","_law_rooms","_law_stand","_law_move"] qIM:=by
 refine F.okA qX2 λab A a6 s H vs Q E hr h=>?_;obtain⟨a,y,mv,Ae,c,u,Aa,wk,Ac,rfl,hN,j,lst,m,n,a7,a5,a9,q⟩:=h;refine⟨_,(qA4 (qBD (qAN qET (qB7 qB9 (pv 3) qA7 (λ_ _=>rfl)) qBO (qAY _)) (qA5 (qAE (qGG (qAN qDX (qB7 qB9 (pv 3) qA7 (λ_ _=>rfl)) (pv 2) (by with_unfolding_all rfl)) qFP qBO))) qAM) (qA4 (qBD (qAN qDX (qB7 qB9 (pv 3) qA7 (λ_ _=>rfl)) (pv 2) (by with_unfolding_all rfl)) (qA5 (qAE qBO)) qAM) (qA4 (qBD (qCQ (qBX (qA9 (qFM rfl) rfl a4 qL3 (qA0 (qC9 rfl (lcs (own:=["_law_need"]) (fv:=[2]) (by kernel_rfl)) (qCT (qB7 qB9 (pv 0) (qB7 qB9 (pv 3) qA7 (λ_ _=>rfl)) (λ_ _=>rfl))) (λz1=>qBJ 0) (λz1=>qB0) (λz1=>(qDC (qKM (K:=K) rfl) (pv 0) (pv 1) (by with_unfolding_all rfl)))) qA3)))) (qA5 (qAE qBO)) qAM) (qA5 (qAE (qGG (qAN qXM (qA9 qAC rfl qBI qBH (qA0 (pv 2) qA3)) (pv 1) (qAY _)) qBO qFP)))))),?_⟩
 try dsimp only[Cx.nox,Cx.wish,cxOf]
 refine⟨_,rfl,mv,_,_,_,rfl,rfl,Ac0 m,rfl,rfl,_,rfl,?_⟩;refine ite2 (λck=>?_) (λck=>?_)
 ·have hd:Ac = "clear":=V.str.inj (of_decide_eq_true ck);have b:=q H (Same.refl H);unfold qCB qCO at b;rw[if_neg (by rw[hd];exact qAK)] at b
  refine⟨_,rfl,mv,_,_,_,rfl,rfl,Ac0 m,rfl,_,rfl,y,_,rfl,.inr (Ac0 j),rfl,qC0 c,_,rfl,?_⟩;rw[qDT];refine ite2 (λo=>?_) (λo=>?_)
  ·rw[if_pos (of_decide_eq_true o)] at b;exact b
  ·rw[if_neg (of_decide_eq_false (F7.mpr o))] at b;exact b
 ·have hd:Ac = "do":=n.resolve_right λe=>(of_decide_eq_false (F7.mpr ck)) (congrArg V.str e)
  have q1:∀H',Same H H'->Q (qCY u c Aa wk) H':=λH' g=>by
   have b:=q H' g;unfold qCB at b;rw[if_pos hd] at b;exact b
  refine⟨_,rfl,mv,_,_,_,rfl,rfl,Ac0 m,rfl,_,rfl,y,_,rfl,.inr (Ac0 j),rfl,qC0 c,_,rfl,?_⟩;rw[qDT];refine ite2 (λo=>?_) (λo=>?_)
  ·have b:=q1 H (Same.refl H);unfold qCY at b;rw[if_pos (of_decide_eq_true o)] at b;exact b
  ·have hw:¬wk∈c:=of_decide_eq_false (F7.mpr o);obtain⟨rs,r,h1,l1,h2,h3⟩:=hN.get a5;refine⟨_,rfl,_,rfl,mv,_,_,_,rfl,rfl,Ac0 m,rfl,a,_,_,_,rfl,rfl,Ac0 h1,qDZ a7 h2,r,rfl,⟨_,Ac0 h3⟩,λp hp=>?_⟩;refine qDL (p:=p) (a:=r) (xs:=u.map V.int) (λi σ t=>∃(v:Option V),σ=[v,some (.ref y)]/\Same H t/\t p=some (.lst (((u.take i).map λx=>decide (x∈c)).map V.bl))) ?_ ?_ ?_ ?_
   ·exact⟨none,rfl,qA2 hp _,qA1⟩
   ·rintro i σ t hi ⟨v,rfl,g,_⟩;exact Ac0 (g _ _ h3)
   ·refineλi x σ t hx a3=>opq λa8 a0=>?_;obtain⟨v,rfl,g,k⟩:=a3;obtain⟨z,ez,rfl⟩:=qB1 hx;refine a0 ?_;have hi:i<u.length:=(A5.mp ez).1;refine⟨_,rfl,_,rfl,y,_,rfl,.inr (Ac0 (g _ _ j)),rfl,qC0 c,_,k,qAH (by rw[A0,A0,C5];lia),_,rfl,qAA g hp,?_⟩
    rw[qA1];refine congrArg (λl=>some (HO.lst l)) ?_;rw[<- qL9 ez];show _++[V.bl (inV (.int z) (c.map V.int))]=_;rw[qDT]
   ·refineλσ t a2=>opq λaa a1=>?_;obtain⟨v,rfl,g,k⟩:=a2;refine a1 ?_;rw[A0,C6 (A6 _)] at k;refine⟨p,_,rfl,Ab2 k,_,rfl,?_⟩;have b:=q1 t g;unfold qCY at b;rw[if_neg hw] at b;cases hall:(u.map λx=>decide (x∈c)).all id with
    |false=>
     have na:¬ ∀x∈u,x∈c:=λz=>by rw[all_in.mpr z] at hall;cases hall
     rw[if_neg na] at b;exact b
    |true=>
     rw[if_pos (all_in.mp hall)] at b;refine⟨_,rfl,y,_,rfl,.inr (Ac0 (g _ _ j)),_,rfl,_,_,rfl,rfl,_,rfl,?_⟩;refine ite2 (λcf=>?_) (λcf=>?_)
     ·have d:Aa<=(((c.map V.int).length:Nat):Int):=of_decide_eq_true cf;rw[A0] at d;rw[if_pos d] at b;exact b
     ·have d:¬Aa<=(((c.map V.int).length:Nat):Int):=of_decide_eq_false (F7.mpr cf);rw[A0] at d;rw[if_neg d] at b;exact b
theorem qa7 {j:Int} (a:0<=j)(b:j<=1000):CPow 1 j:=⟨a,by lia,by decide⟩
theorem qTP {n:Nat} (h:n<=12):2^n<=4096:=by
 have:=L0 (show 0<2 by decide) h
 simpa using this
theorem sc_Lcome:FnScope ["_law_net_here","_law_rooms","_law_needs","_law_found","_law_layer","_law_many","_law_cleared","_law_at","_law_work","_law_less","_law_bits_here","_law_more"] ["_law_net_here","_law_rooms"] (qAB qLN):=qBT
theorem ok_Lcome (F:Fun K "_law_come" "_law_come" qLN f fd) (b1:mg "sum" = none) (c5:mg "list" = none) (qBI:mg "len" = none) (qAZ:mg "range" = none):FnOk P w K mg base CX0 1 f fd ["_law_net_here","_law_rooms"] qYW:=by
 refine F.okA sc_Lcome λct A bx s H vs Q E hr h=>?_;obtain⟨a,Ae,Aa,rfl,hN,wf,bv,q⟩:=h;have hu:=qH9 hr;have c4:=hr.units0;refine⟨_,(qA4 (qOT (i:=2) sc_Lcome.nd rfl rfl rfl (lcs (own:=["_law_one"]) (fv:=[]) (by kernel_rfl)) (qCT (pv 0)) (λz1=>qBJ 0) (λz1=>qB0) (λz1=>(qA9 (qW7 (K:=K) rfl rfl) rfl b1 qWA (qA0 (qC9 (X:=lcCx _ _ _ _ z1) rfl (lcs (own:=["_law_need"]) (fv:=[]) (by kernel_rfl)) (qLQ (K:=K) rfl (pv 0)) (λz2=>qBJ 0) (λz2=>qB0) (λz2=>(qAR qQX qA7 (pv 0)))) qA3))) (by kernel_rfl)) (qA4 (qAG (i:=3) sc_Lcome.nd rfl (E2 rfl) (qU9 (qLP qA7 qA7 qTW) rfl rfl (by simp) (by decide))) (qA4 (qAG (i:=4) sc_Lcome.nd rfl (E2 rfl) (qBU (qA0 qA7 qA3))) (qA4 (qAG (i:=5) sc_Lcome.nd rfl (E2 rfl) qA7) (qA4 (qFD D5 (qAN (qUD c4) (pv 4) (qBU qA3) (qAY _)) (qA4 (qAG (i:=6) sc_Lcome.nd rfl (E2 rfl) (qAD qHO rfl c5 qJT (qA0 (pv 4) qA3))) (qA4 (qAG (i:=7) sc_Lcome.nd rfl (E2 rfl) qA7) (qA4 (qFD D5 (qAN qOY (pv 7) (qA9 qAC rfl qBI qBH (qA0 (pv 6) qA3)) (qAY _)) (qA4 (qBZ D5 rfl (qB8 rfl qAZ (qA0 (qA9 qAC rfl qBI qBH (qA0 (pv 0) qA3)) qA3)) (qAS (i:=8) sc_Lcome.nd rfl (E2 rfl)) (qA4 (qAG (i:=9) sc_Lcome.nd rfl (E2 rfl) (qAR qD0 (qB7 qCD (pv 6) (pv 7) (λ_ _=>rfl)) (qAR qJ0 (qAR qQX qA7 (pv 8)) (qAR qQZ (qAR qZ5 (qB7 qCD (pv 6) (pv 7) (λ_ _=>rfl)) (pv 8)) qA7)))) (qA5 (qBD (qCZ (qER hu (pv 9) (pv 3))) (qA4 (qEQ hu (pv 3) (pv 9) (pv 5) rfl) (qA5 (qCW (qLS F2 G8 G9 qC3 (pv 6) (qA0 (pv 9) qA3))))) qAM)))) (qA5 (qAG (i:=7) sc_Lcome.nd rfl (E2 rfl) (qAR qEH (pv 7) qA7))))) (qA4 (qAG (i:=5) sc_Lcome.nd rfl (E2 rfl) (qAR qEH (pv 5) qA7)) (qA4 (qAG (i:=4) sc_Lcome.nd rfl (E2 rfl) (qBU qA3)) (qA5 (qBZ D5 rfl (qCX (pv 6)) (qAS (i:=10) sc_Lcome.nd rfl (q9 rfl)) (qA5 (qBD (qAN qOY (qA9 (qME rfl) rfl b1 qWA (qA0 (qC9 rfl (lcs (own:=["_law_work"]) (fv:=[10]) (by kernel_rfl)) (qB8 rfl qAZ (qA0 (qA9 qAC rfl qBI qBH (qA0 (pv 0) qA3)) qA3)) (λz3=>qBJ 0) (λz3=>qB0) (λz3=>(qAR qQZ (qAR qZ5 (pv 1) (pv 0)) qA7))) qA3)) (pv 1) (qAY _)) (qA5 (qBZ D5 rfl (qB8 rfl qAZ (qA0 (qA9 qAC rfl qBI qBH (qA0 (pv 0) qA3)) qA3)) (qAS (i:=8) sc_Lcome.nd rfl (E2 rfl)) (qA4 (qAG (i:=11) sc_Lcome.nd rfl (E2 rfl) (qAR qe3 (pv 10) (qAR qQX qA7 (pv 8)))) (qA5 (qBD (PW.pt (qTT (qAN qET (qAR qQZ (pv 10) (qB7 qCD (pv 2) (pv 8) (λ_ _=>rfl))) (qB7 qCD (pv 2) (pv 8) (λ_ _=>rfl)) (qAY _)) (qOR (qCZ (qER hu (pv 11) (pv 3)))))) (qA4 (qEQ hu (pv 3) (pv 11) (pv 5) rfl) (qA5 (qCW (qLS F2 G8 G9 qC3 (pv 4) (qA0 (pv 11) qA3))))) qAM))))) qAM)))))))))) (qA5 (qAE (qc7 (pv 3))))))))),?_⟩
 try dsimp only[Cx.nox,Cx.wish,cxOf]
 obtain⟨rs,hA,NL⟩:=id hN;have l2:=qTP bv;have b5:rs.length=Ae.length:=C2 NL;have a1:(((rs.map V.ref).length:Nat):Int)=(Ae.length:Int):=by rw[A0,b5]
 have a3:((((rs.map V.ref).length:Nat):Int)).toNat=Ae.length:=by rw[a1];lia
 refine cut λN1 bk=>?_;refine⟨_,rfl,a,rfl,⟨_,Ac0 hA⟩,λp hp=>?_⟩;refine qDL (p:=p) (a:=a) (xs:=rs.map V.ref) (λj σ Hd=>∃(v:Option V),σ=[v]/\Same H Hd/\Hd p=some (.lst ((natI ((Ae.take j).map mskN)).map V.int))) ?_ ?_ ?_ ?_
 ·exact⟨none,rfl,qA2 hp _,qA1⟩
 ·rintro j σ Hd hj ⟨v,rfl,sm,_⟩;exact Ac0 (sm _ _ hA)
 ·refineλj x σ Hd hx b7=>opq λcv b2=>?_;obtain⟨v,rfl,sm,a2⟩:=b7;obtain⟨r,er,rfl⟩:=qCI hx;refine b2 ?_;have hj:j<Ae.length:=by have:=(A5.mp er).1;lia
  have hz:=A4 hj;obtain⟨r',h3,h4⟩:=NL.get hz;rw[er] at h3;cases h3;have rz:=wf j _ hz;generalize Ae[j]=zs at h4 hz rz;have lz:=rz.len;refine⟨_,rfl,r,rfl,⟨_,Ac0 (sm _ _ h4)⟩,λp2 a4=>?_⟩;refine qDL (p:=p2) (a:=r) (xs:=zs.map V.int) (λi σ He=>∃(v:Option V),σ=[v]/\Same Hd He/\He p2=some (.lst (((zs.take i).map λz=>(1:Int)*2^z.toNat).map V.int))) ?_ ?_ ?_ ?_
  ·exact⟨none,rfl,qA2 a4 _,qA1⟩
  ·rintro i σ He hi ⟨v,rfl,se,_⟩;exact Ac0 (se _ _ (sm _ _ h4))
  ·refineλi x σ He hx b0=>opq λcu bc=>?_;obtain⟨v,rfl,se,ab⟩:=b0;obtain⟨z,ez,rfl⟩:=qB1 hx;refine bc ?_;have hi:=(A5.mp ez).1;have zb:=rz.in_ z (B5 ez);refine⟨_,rfl,_,_,rfl,rfl,qa7 zb.1 (by lia),_,ab,qAH (by rw[A0,A0,C5];lia),_,rfl,qAA se a4,?_⟩
   rw[qA1,C9,ez,D2,B3,B3]
   rfl
  ·refineλσ He be=>opq λcs bj=>?_;obtain⟨v,rfl,se,ab⟩:=be;refine bj ?_;rw[A0,qBC rfl] at ab;refine⟨p2,_,rfl,Ab2 ab,_,se _ _ a2,qAH (by rw[A0,qGI,A0,C5];lia),_,rfl,qAA (sm.trans se) hp,?_⟩
   rw[qA1,C9,hz,D2,B3,A07,qJ3,B3,qP5]
   rfl
 refineλσ Hd bu=>opq λcq b3=>?_;obtain⟨v,rfl,as,gp⟩:=bu;refine b3 ?_;rw[A0,b5,qBC rfl] at gp;have fp:H p=none:=hp;clear hp v;refine bk _ _ (cut λN2 bf=>?_);intro d hd;refine⟨qA1,[(E8 0,.int 0)],rfl,(by show 1<=15;decide),?_⟩
 rw[qIH];have aa:H d=none:=as.free hd;have sd:=qA2 hd (.dK (qFQ [] [((E8 0:Key),V.int 0)]));have gd:(Ag Hd d (.dK (qFQ [] [((E8 0:Key),V.int 0)]))) d=some (.dK (kvN [0] λ_=>0)):=qA1;have b4:p≠d:=qA6 gp hd;have u:=sd _ _ gp;have t:=as.trans sd;generalize Ag Hd d (.dK (qFQ [] [((E8 0:Key),V.int 0)]))=H1 at sd gd u t ⊢;refine bf _ _ (cut λN3 bm=>?_);refine⟨(by show 1<=B77;decide),λl0 ba=>?_⟩
 have sl:=qA2 ba (.lst [.int 0]);have bo:(Ag H1 l0 (.lst [.int 0])) l0=some (.lst ((natI [0]).map V.int)):=qA1;have y:=sl _ _ gd;have a6:=sl _ _ u;have a7:=t.trans sl;generalize Ag H1 l0 (.lst [.int 0])=H2 at sl bo y a6 a7 ⊢;refine bm _ _ (cut λN4 bs=>?_);refine bs _ _ (cut λN5 bz=>?_);clear bk bf bm bs gd gp u sd sl as t ba hd;refine⟨λm σ l=>∃(ks ly:List Nat) (f:Nat->Nat) (many:Nat) (ll:Addr) (v6 v7 v8 v9 v10 v11:Option V),σ=[some (.ref a),some (.int Aa),some (.ref p),some (.ref d),some (.ref ll),some (.int (many:Int)),v6,v7,v8,v9,v10,v11]/\m=2^Ae.length+1-many/\Same H l/\l p=some (.lst ((natI (Ae.map mskN)).map V.int))/\l d=some (.dK (kvN ks f))/\l ll=some (.lst ((natI ly).map V.int))/\A1 Ae Aa many ks f ly 0 0/\(ly≠[]->many<ks.length),
  ⟨_,[0],[0],λ_=>0,0,l0,none,none,none,none,none,none,rfl,rfl,a7,a6,y,bo,A1.start,λ_=>by decide⟩,?_⟩
 refineλm σ l b8=>opq λcy bg=>?_;obtain⟨ks,ly,f,many,ll,v6,v7,v8,v9,v10,v11,rfl,rfl,sm,gp,gd,gl,I1,lm⟩:=b8;refine bg ?_;refine⟨_,rfl,(by show 0<=B77;decide),λe he=>?_⟩
 have se:=qA2 he (.lst []);refine⟨ll,e,_,rfl,rfl,Ab2 (se _ _ gl),Ab2 qA1,_,rfl,?_⟩;have u:=se _ _ gp;have y:=se _ _ gd;have am:=se _ _ gl;have t:=sm.trans se;generalize Ag l e (.lst [])=H3 at u y am t ⊢;clear se he gp gd gl sm;refine ite2 (λcn=>?_) (λcn=>?_)
 ·have c3:ly≠[]:=λz=>by rw[z] at cn;cases cn
  have lk:=lm c3;have kl:=I1.fd.len;refine qUL λW0 bw=>?_;refine cut λM1 bd=>?_;refine⟨_,rfl,ll,_,rfl,.inl (Ab2 am),λc hc=>?_⟩;have fc:H c=none:=t.free hc;have sc:=qA2 hc (.lst ((natI ly).map V.int));have cd:p≠c:=qA6 u hc;have ac:d≠c:=qA6 y hc;have gc:(Ag H3 c (.lst ((natI ly).map V.int))) c=some (.lst ((natI ly).map V.int)):=qA1;have a6:=sc _ _ u;have al:=sc _ _ y;have a7:=t.trans sc;generalize Ag H3 c (.lst ((natI ly).map V.int))=H4 at gc a6 al a7 ⊢;clear sc hc u y am t;refine bd _ _ (cut λM2 br=>?_);refine br _ _ (cut λM3 c9=>?_);clear bd br;refine⟨λm σ l=>∃(ks cl:List Nat) (f:Nat->Nat) (at_:Nat) (v8 v9:Option V),σ=[some (.ref a),some (.int Aa),some (.ref p),some (.ref d),some (.ref ll),some (.int (many:Int)),some (.ref c),some (.int (at_:Int)),v8,v9,v10,v11]/\m=2^Ae.length-at_/\Same H l/\l p=some (.lst ((natI (Ae.map mskN)).map V.int))/\l d=some (.dK (kvN ks f))/\l c=some (.lst ((natI cl).map V.int))/\A1 Ae Aa many ks f cl at_ 0/\many<ks.length,
   ⟨_,ks,ly,f,0,v8,v9,rfl,rfl,a7,a6,al,gc,I1,lk⟩,?_⟩
  clear a6 al gc a7 I1 lk kl lm;refineλm σ l bb=>opq λcx bl=>?_;obtain⟨ks,cl,f,at_,v8,v9,rfl,rfl,sm,gp,gd,gc,I1,lk⟩:=bb;refine bl ?_;have ae:=I1.len;have kl:=I1.fd.len;refine⟨_,rfl,_,rfl,c,_,rfl,.inl (Ab2 gc),_,_,rfl,rfl,_,rfl,?_⟩;have bi:(((((natI cl).map V.int).length:Nat):Int))=(cl.length:Int):=by rw[A0,qGI]
  dsimp only;rw[bi];refine ite2 (λca=>?_) (λca=>?_)
  ·have bp:(at_:Int)<(cl.length:Int):=of_decide_eq_true ca;refine qUL λW1 ce=>?_;refine cut λL1 au=>?_;refine⟨_,rfl,a,_,rfl,.inr (Ac0 (sm _ _ hA)),_,rfl,by rw[a1];lia,by rw[a1];lia,qKW (lo:=0) (n:=((((rs.map V.ref).length:Nat):Int)).toNat) (λk σ l=>∃(ks cl:List Nat) (f:Nat->Nat) (v8 v9:Option V),σ=[some (.ref a),some (.int Aa),some (.ref p),some (.ref d),some (.ref ll),some (.int (many:Int)),some (.ref c),some (.int (at_:Int)),v8,v9,v10,v11]/\Same H l/\l p=some (.lst ((natI (Ae.map mskN)).map V.int))/\l d=some (.dK (kvN ks f))/\l c=some (.lst ((natI cl).map V.int))/\A1 Ae Aa many ks f cl at_ k/\many<ks.length/\at_<cl.length)
    ⟨ks,cl,f,v8,v9,rfl,sm,gp,gd,gc,I1,lk,by lia⟩ ?_ ?_⟩
   ·clear sm gp gd gc I1 lk ae kl ca bp bi;refineλk σ l hk bt Na b6=>opq λcw b9=>?_;obtain⟨ks,cl,f,v8,v9,rfl,sm,gp,gd,gc,I1,lk,la⟩:=bt;refine b9 ?_;rw[a3] at hk;have ae:=I1.len;have kl:=I1.fd.len;have ec:cl[at_]?=some cl[at_]:=A4 la;generalize cl[at_]=x at ec;have ga:atI ((natI cl).map V.int) (at_:Int)=some (.int (x:Int)):=qDZ (by lia) (by rw[D9,B6,qR2 ec];rfl)
    have e0:(0+(k:Int)).toNat=k:=by lia
    refine cut λL2 c7=>?_;refine⟨_,rfl,_,rfl,c,_,_,_,rfl,rfl,Ab2 gc,ga,_,rfl,_,_,rfl,rfl,qa7 (by lia) (by lia),_,rfl,_,rfl,c,_,_,_,rfl,rfl,Ab2 gc,ga,_,rfl,_,_,rfl,rfl,(by show(0:Int)<=0+(k:Int);lia),_,_,rfl,rfl,_,_,rfl,rfl,?_,_,_,rfl,rfl,?_⟩
    ·rw[e0,qPX];refine .inr ⟨by lia,?_⟩
     have:=a9 (x/2^k) (show 0<2 by decide)
     lia
    dsimp only;rw[e0,qb5];refine c7 _ _ ?_;refine⟨_,rfl,_,rfl,d,_,rfl,DGet.k (k:=E8 ((clrb x k:Nat):Int)) gd,_,rfl,?_⟩;rw[qPD];by_cases ck:clrb x k∈ks
    ·rw[if_pos ck];exact b6 _ _ ⟨ks,cl,f,_,_,rfl,sm,gp,gd,gc,I1.hit ec ck,lk,la⟩
    ·rw[if_neg ck];refine iteT (cut λL3 af=>?_);refine⟨_,rfl,_,rfl,_,rfl,d,_,rfl,DPut.k (k:=E8 ((clrb x k:Nat):Int)) gd (qB6 (by rw[qPE];lia)),?_⟩
     rw[qUU ck];refine af _ _ ?_;have a0:(Ag l d (.dK (kvN (ks++[clrb x k]) (fset f (clrb x k) many)))) c=some (.lst ((natI cl).map V.int)):=by rw[qA8 ac.symm];exact gc
     refine⟨_,rfl,.inl ⟨rfl,_,Ab2 a0⟩,_,rfl,c,_,_,rfl,rfl,a0,qB6 (by rw[A0,qGI];lia),?_⟩
     refine b6 _ _ ⟨ks++[clrb x k],cl++[clrb x k],fset f (clrb x k) many,_,_,rfl,qAA (qAA sm aa) fc,by rw[qA8 cd,qA8 b4];exact gp,by rw[qA8 ac,qA1],?_,I1.add ec hk ck,by rw[A8];lia,by rw[A8];lia⟩
     rw[qA1,qJ3,B3]
     rfl
   ·refineλσ l ag=>opq λcp ak=>?_;obtain⟨ks,cl,f,v8,v9,rfl,sm,gp,gd,gc,I1,lk,la⟩:=ag;refine ak ?_;rw[a3] at I1;have ae:=I1.len;refine au _ _ ?_;refine⟨_,rfl,_,_,rfl,rfl,?_⟩;exact ce _ _ ⟨2^Ae.length-(at_+1),by lia,ks,cl,f,at_+1,_,_,rfl,rfl,sm,gp,gd,gc,I1.next,lk⟩
  ·have bp:¬(at_:Int)<(cl.length:Int):=of_decide_eq_false (F7.mpr ca);refine c9 _ _ (cut λM4 c6=>?_);refine⟨_,rfl,_,_,rfl,rfl,?_⟩;refine c6 _ _ (cut λM5 cc=>?_);refine⟨(by show 0<=B77;decide),λlz a5=>?_⟩
   have c8:H lz=none:=sm.free a5;have sz:=qA2 a5 (.lst []);have c2:p≠lz:=qA6 gp a5;have bn:d≠lz:=qA6 gd a5;have c0:c≠lz:=qA6 gc a5;have gz:(Ag l lz (.lst [])) lz=some (.lst ((natI []).map V.int)):=qA1;have u:=sz _ _ gp;have y:=sz _ _ gd;have a0:=sz _ _ gc;have t:=sm.trans sz;generalize Ag l lz (.lst [])=H5 at gz u y a0 t ⊢;clear sz a5 gp gd gc sm;refine cc _ _ ?_;have J0:=I1.two (by lia)
   refine⟨_,rfl,c,rfl,⟨_,Ab2 a0⟩,qJE (a:=c) (xs:=(natI cl).map V.int) (λi σ l=>∃(ks ly:List Nat) (f:Nat->Nat) (v8 v10 v11:Option V),σ=[some (.ref a),some (.int Aa),some (.ref p),some (.ref d),some (.ref lz),some (.int ((many+1:Nat):Int)),some (.ref c),some (.int (at_:Int)),v8,v9,v10,v11]/\Same H l/\l p=some (.lst ((natI (Ae.map mskN)).map V.int))/\l d=some (.dK (kvN ks f))/\l lz=some (.lst ((natI ly).map V.int))/\l c=some (.lst ((natI cl).map V.int))/\A2 Ae Aa many ks f cl ly i 0/\many+1+ly.length<=ks.length)
    ⟨ks,[],f,v8,v10,v11,rfl,t,u,y,gz,a0,J0,by simp;lia⟩ (λi σ l _ hP=>by obtain⟨_,_,_,_,_,_,_,_,_,_,_,g,_⟩:=hP;exact Ab2 g) ?_ ?_⟩
   ·clear u y a0 gz t J0 I1 lk kl;refineλi x0 σ l hx ao Nb bq=>opq λcf ad=>?_;obtain⟨ks,ly,f,v8,v10,v11,rfl,sm,gp,gd,gz,gc,J,lk⟩:=ao;obtain⟨z,ez,rfl⟩:=qB1 hx;obtain⟨x,ec,rfl⟩:=qaF ez;refine ad ?_;refine⟨_,rfl,a,_,rfl,.inr (Ac0 (sm _ _ hA)),_,rfl,by rw[a1];lia,by rw[a1];lia,λp2 a4=>?_⟩
    refine qDM (p:=p2) (lo:=0) (n:=((((rs.map V.ref).length:Nat):Int)).toNat) (λk σ Hd=>∃(v:Option V),σ=[v,some (.int (x:Int))]/\Same l Hd/\Hd p2=some (.lst ((((E6 k).map λk=>((x/2^k%2:Nat):Int))).map V.int))) ?_ ?_ ?_
    ·exact⟨none,rfl,qA2 a4 _,qA1⟩
    ·refineλk σ Hd hk ar=>opq λch av=>?_;obtain⟨v,rfl,sd,a2⟩:=ar;refine av ?_;rw[a3] at hk;have e0:(0+(k:Int)).toNat=k:=by lia
     refine⟨_,rfl,_,rfl,_,_,rfl,rfl,(by show(0:Int)<=0+(k:Int);lia),_,_,rfl,rfl,_,a2,qAH (by rw[A0,A0,B12];lia),_,rfl,qAA sd a4,?_⟩
     dsimp only;rw[qA1,e0,qPX,A57,B3,B3]
     rfl
    ·refineλσ Hd az=>opq λci aj=>?_;obtain⟨v,rfl,sd,a2⟩:=az;refine aj ?_;rw[a3] at a2;refine⟨p2,_,rfl,Ab2 a2,_,rfl,_,_,rfl,rfl,_,rfl,?_⟩;dsimp only;rw[qRN];have u:=sd _ _ gp;have y:=sd _ _ gd;have a8:=sd _ _ gz;have a0:=sd _ _ gc;have t:=sm.trans sd;clear gp gd gz gc sm a2 sd a4;refine ite2 (λcr=>?_) (λcr=>?_)
     ·have ay:(cntN Ae.length x:Int)<Aa:=of_decide_eq_true cr;refine⟨_,rfl,a,_,rfl,.inr (Ac0 (t _ _ hA)),_,rfl,by rw[a1];lia,by rw[a1];lia,qKW (lo:=0) (n:=((((rs.map V.ref).length:Nat):Int)).toNat) (λk σ l=>∃(ks ly:List Nat) (f:Nat->Nat) (v8 v11:Option V),σ=[some (.ref a),some (.int Aa),some (.ref p),some (.ref d),some (.ref lz),some (.int ((many+1:Nat):Int)),some (.ref c),some (.int (at_:Int)),v8,v9,some (.int (x:Int)),v11]/\Same H l/\l p=some (.lst ((natI (Ae.map mskN)).map V.int))/\l d=some (.dK (kvN ks f))/\l lz=some (.lst ((natI ly).map V.int))/\l c=some (.lst ((natI cl).map V.int))/\A2 Ae Aa many ks f cl ly i k/\many+1+ly.length<=ks.length)
       ⟨ks,ly,f,v8,v11,rfl,t,u,y,a8,a0,J,lk⟩ ?_ ?_⟩
      ·clear u y a8 a0 t J lk;refineλk σ l hk aw Nc ai=>opq λco ap=>?_;obtain⟨ks,ly,f,v8,v11,rfl,sm,gp,gd,gz,gc,J,lk⟩:=aw;refine ap ?_;rw[a3] at hk;have kl:=J.fd.len;have e0:(0+(k:Int)).toNat=k:=by lia
       have bh:=A4 hk;have gm:atI ((natI (Ae.map mskN)).map V.int) (0+(k:Int))=some (.int ((nxt Ae k:Nat):Int)):=qDZ (by lia) (by
        rw[e0,B6,qR2 (b:=nxt Ae k) (by rw[B6,bh];unfold nxt;rw[bh];rfl)]
        rfl)
       refine cut λL1 au=>?_;refine⟨_,rfl,_,rfl,_,_,rfl,rfl,qa7 (by lia) (by lia),_,_,rfl,rfl,?_⟩
       dsimp only;rw[e0,qOU,qWF];refine au _ _ ?_;refine⟨_,rfl,_,rfl,_,rfl,p,_,_,_,rfl,rfl,Ab2 gp,gm,_,_,rfl,rfl,_,rfl,_,rfl,p,_,_,_,rfl,rfl,Ab2 gp,gm,rfl,_,rfl,?_⟩;dsimp only;have cb:decide (V.int (U1 (x:Int) ((nxt Ae k:Nat):Int))=V.int ((nxt Ae k:Nat):Int))=decide (x &&& nxt Ae k=nxt Ae k):=decide_eq_decide.mpr ⟨λz=>by have:=V.int.inj z;rw[qE2] at this;lia,λz=>by rw[qE2,z]⟩
       rw[cb];by_cases cm:x &&& nxt Ae k=nxt Ae k
       ·rw[decide_eq_true cm];have cn:can Ae Aa x k:=⟨ay,hk,cm⟩;refine⟨_,rfl,_,rfl,d,_,rfl,DGet.k (k:=E8 ((x ||| 2^k:Nat):Int)) gd,_,rfl,?_⟩;rw[qPD];by_cases ck:x ||| 2^k∈ks
        ·rw[if_pos ck];exact ai _ _ ⟨ks,ly,f,_,_,rfl,sm,gp,gd,gz,gc,J.hit ec λ_=>ck,lk⟩
        ·rw[if_neg ck];refine iteT (cut λL3 af=>?_);refine⟨_,rfl,_,rfl,_,rfl,d,_,rfl,DPut.k (k:=E8 ((x ||| 2^k:Nat):Int)) gd (qB6 (by rw[qPE];lia)),?_⟩
         rw[qUU ck];refine af _ _ ?_;have a8:(Ag l d (.dK (kvN (ks++[x ||| 2^k]) (fset f (x ||| 2^k) (many+1))))) lz=some (.lst ((natI ly).map V.int)):=by rw[qA8 bn.symm];exact gz
         refine⟨_,rfl,.inl ⟨rfl,_,Ab2 a8⟩,_,rfl,lz,_,_,rfl,rfl,a8,qB6 (by rw[A0,qGI];lia),?_⟩
         refine ai _ _ ⟨ks++[x ||| 2^k],ly++[x ||| 2^k],fset f (x ||| 2^k) (many+1),_,_,rfl,qAA (qAA sm aa) c8,by rw[qA8 c2,qA8 b4];exact gp,by rw[qA8 bn,qA1],?_,by rw[qA8 c0,qA8 ac.symm];exact gc,J.add ec cn ck,by rw[A8,A8,C1];lia⟩
         rw[qA1,qJ3,B3]
         rfl
       ·rw[decide_eq_false cm];exact ai _ _ ⟨ks,ly,f,_,_,rfl,sm,gp,gd,gz,gc,J.hit ec λc=>absurd c.2.2 cm,lk⟩
      ·refineλσ l ah=>opq λcg ax=>?_;obtain⟨ks,ly,f,v8,v11,rfl,sm,gp,gd,gz,gc,J,lk⟩:=ah;refine ax ?_;rw[a3] at J;exact bq _ _ ⟨ks,ly,f,_,_,_,rfl,sm,gp,gd,gz,gc,J.next,lk⟩
     ·have ay:¬(cntN Ae.length x:Int)<Aa:=of_decide_eq_false (F7.mpr cr);exact bq _ _ ⟨ks,ly,f,_,_,_,rfl,t,u,y,a8,a0,J.skip ec ay,lk⟩
   ·refineλσ l an=>opq λcj aq=>?_;obtain⟨ks,ly,f,v8,v10,v11,rfl,sm,gp,gd,gz,gc,J,lk⟩:=an;refine aq ?_;have kl:=J.fd.len;rw[A0,qGI] at J;refine bw _ _ ⟨2^Ae.length+1-(many+1),by lia,ks,ly,f,many+1,lz,_,_,_,_,_,_,rfl,rfl,sm,gp,gd,gz,J.one (A6 _),λc1=>?_⟩
    have:=A85.mpr c1
    lia
 ·have le:ly=[]:=by
   cases ly with
   |nil=>rfl
   |cons x xs=>exact absurd rfl cn
  subst le;refine bz _ _ ?_;refine⟨_,rfl,d,_,rfl,y,λo=>?_⟩;exact q d o ks f _ (qAA t aa) aa qA1 I1.come
noncomputable def prs (ws:List Int)(i:Nat):List (Int×V):=(E6 i).map λ(j:Nat)=>((ws[j]?).getD 0,V.int (j:Int))
theorem qQL {a:List Int} {i:Nat} {y:Int} (h:a[i]?=some y):prs a (i+1)=prs a i++[(y,V.int (i:Int))]:=by
 unfold prs;rw[A57,B3,A07,h]
 rfl
theorem qTV {ws:List Int} (nd:ws.Nodup)(x:Int):∀i,i<=ws.length->valV (qCP [] (prs ws i)) (E8 x)=(qCR (ws.take i) x).map V.int
 |0,_=>by simp[prs,qCP,valV,qCR]
 |i+1,h=>by
  have e:=A4 (show i<ws.length by lia)
  generalize ws[i]=y at e;rw[qQL e,qKI nd e x];unfold qCP;rw[B08];show valV (putK (qCP [] (prs ws i)) (E8 y) (V.int (i:Int))) (E8 x)=_;rw[qHZ,qTV nd x i (by lia)]
  by_cases c:x=y
  ·rw[c,if_pos rfl,if_pos rfl];rfl
  ·rw[if_neg λz=>c (f9 z),if_neg c]
theorem qaT {zs:List Int} {g:Int->Option Int} {j:Nat} {z:Int} (h:zs[j]?=some z):(zs.take (j+1)).filterMap g=(zs.take j).filterMap g++(g z).toList:=by
 rw[C9,h,D2,Y0];cases e:g z<;>simp[e]
theorem sc_Lpart:FnScope ["_law_net_here","_law_works","_law_number"] ["_law_net_here","_law_works"] (qAB qLK):=qBT
theorem ok_Lpart (F:Fun K "_law_part" "_law_part" qLK f fd) (ap:mg "dict" = none) (ar:mg "enumerate" = none) (a3:mg "tuple" = none):FnOk P w K mg base CX0 1 f fd ["_law_net_here","_law_works"] qOH:=by
 refine F.okA sc_Lpart λaw A ao s H vs Q E hr h=>?_;obtain⟨o,a,l,Ae,c,rfl,hN,wf,b1,hL,rW,q⟩:=h;have hu:=qH9 hr;refine⟨_,(qA4 (qAG (i:=2) sc_Lpart.nd rfl (q9 rfl) (qAD (qT0 rfl) rfl ap qWC (qA0 (qC9 rfl (lcs (own:=["_law_place","_law_work"]) (fv:=[]) (by kernel_rfl)) (qXH rfl ar qCV (qA0 (pv 1) qA3)) (λz1=>qH2 (K:=K) (n:=2) rfl rfl (qAW (qBJ 0) (qAW (qBJ 1) qDA)) rfl rfl) (λz1=>qB0) (λz1=>(qBN (qA0 (pv 1) (qA0 (pv 0) qA3))))) qA3))) (qA5 (qAE (qAD qAF rfl a3 qAO (qA0 (qC9 rfl (lcs (own:=["_law_work"]) (fv:=[0,2]) (by kernel_rfl)) (qZ2 (pv 1)) (λz2=>qBJ 0) (λz2=>qB0) (λz2=>(qAD (qEE (K:=K) rfl) rfl a3 qAO (qA0 (qC9 (X:=lcCx _ _ _ _ z2) rfl (lcs (own:=["_law_need"]) (fv:=[2]) (by kernel_rfl)) (qLQ (K:=K) rfl (qB7 (qH8 (K:=K) rfl) (pv 1) (pv 0) (λ_ _=>rfl))) (λz3=>qBJ 0) (λz3=>(qDS (qCZ (qQR hu (pv 0) (pv 1))))) (λz3=>(qDB hu (pv 1) (pv 0) (λ_ _=>rfl)))) qA3)))) qA3))))),?_⟩
 try dsimp only[Cx.nox,Cx.wish,cxOf]
 obtain⟨rs,hA,NL⟩:=id hN;have lw:=rW.len;refine cut λN1 as=>?_;refine⟨_,rfl,o,l,rfl,⟨_,sqo hL⟩,λp hp=>?_⟩;refine qXU (b:=o) (p:=p) (a:=l) (xs:=c.map V.int) (λi σ g=>∃(v0 v1:Option V) (qs:List Addr),σ=[v0,v1]/\Same H g/\g p=some (.lst (qs.map V.ref))/\Paired (λr (z:Int×V)=>g r=some (.tup [.int z.1,z.2])) qs (prs c i)) ?_ ?_ ?_ ?_
 ·exact⟨none,none,[],rfl,qA2 hp _,qA1,.nil⟩
 ·refineλi σ g hi a4=>opq λay a9=>?_;obtain⟨v0,v1,qs,rfl,u,_⟩:=a4;refine a9 ?_;exact sqo (hL.same u)
 ·refineλi x σ g T hx a5 hT=>opq λaz a2=>?_;obtain⟨v0,v1,qs,rfl,u,m,PQ⟩:=a5;obtain⟨y,ey,rfl⟩:=qB1 hx;refine a2 ?_;have hi:=(A5.mp ey).1;have lQ:qs.length=i:=by have:=C2 PQ;rw[this];simp[prs]
  have sT:=qA2 hT (.tup [.int (i:Int),.int y]);refine⟨T,_,rfl,Ac0 qA1,rfl,_,_,rfl,_,_,rfl,rfl,?_⟩;refine⟨_,rfl,_,rfl,(by show 2<=B77;decide),λr am=>?_⟩
  have s2:=sT.trans (qA2 am (.tup [.int y,.int (i:Int)]));have g2:=s2 _ _ m;refine⟨_,g2,qAH (by rw[A0];lia),?_⟩
  rw[qB2];refine⟨_,_,qs++[r],rfl,qAA (u.trans s2) hp,qA1,?_⟩;rw[qQL ey];refine R9 (qKL PQ λr' z' e=>?_) ?_
  ·have e2:=s2 _ _ e;rw[qA8 (qCA e2 g2 (λz=>nomatch z))];exact e2
  ·rw[qA8 (qA6 (sT _ _ m) am).symm];exact qA1
 refineλσ g ab=>opq λav aj=>?_;obtain⟨v0,v1,qs,rfl,u,m,PQ⟩:=ab;refine aj ?_;rw[A0] at PQ;have pp:∀{qs:List Addr} {zs:List (Int×V)},Paired (λr (z:Int×V)=>g r=some (.tup [.int z.1,z.2])) qs zs->qQU g K qs zs:=by
  intro qs zs h
  induction h with
  |nil=>exact .nil
  |cons h t ih=>exact .cons (Ac0 h) ih
 refine⟨p,qs,prs c c.length,rfl,Ab2 m,pp PQ,λd hd=>?_⟩;have sd:=u.trans (qA2 hd (.dK (qCP [] (prs c c.length))));have gd:(Ag g d (.dK (qCP [] (prs c c.length)))) d=some (.dK (qCP [] (prs c c.length))):=qA1;have vd:∀x,valV (qCP [] (prs c c.length)) (E8 x)=(qCR c x).map V.int:=λx=>by rw[qTV rW.nodup x _ (A6 _),qBC rfl]
 generalize Ag g d (.dK (qCP [] (prs c c.length)))=H1 at sd gd ⊢;generalize qCP [] (prs c c.length)=Af at gd vd;refine as _ _ ?_;refine⟨_,rfl,o,l,rfl,⟨_,sqo (hL.same sd)⟩,λp1 ae=>?_⟩;refine qZ7 (b:=o) (p:=p1) (a:=l) (xs:=c.map V.int) (λi σ g=>∃(v0:Option V) (qs:List Addr),σ=[v0,some (.ref a),some (.ref d)]/\Same H1 g/\g p1=some (.lst (qs.map V.ref))/\NetL g qs ((c.take i).map λw=>((Ae[w.toNat]?).getD []).filterMap (qCR c))) ?_ ?_ ?_ ?_
 ·exact⟨none,[],rfl,qA2 ae _,qA1,.nil⟩
 ·refineλi σ g hi a1=>opq λax ac=>?_;obtain⟨v0,qs,rfl,u,_⟩:=a1;refine ac ?_;exact sqo ((hL.same sd).same u)
 ·refineλi x σ g hx ad=>opq λau ah=>?_;obtain⟨v0,qs,rfl,u,m,NQ⟩:=ad;obtain⟨y,ey,rfl⟩:=qB1 hx;refine ah ?_;have hi:=(A5.mp ey).1;have lQ:qs.length<=i:=by have:=C2 NQ;rw[this,A0,C5];lia
  have yb:=rW.in_ y (B5 ey);have hy:y.toNat<Ae.length:=by lia
  have hz:=A4 hy;obtain⟨r,h3,h4⟩:=NL.get hz;have rz:=wf y.toNat _ hz;generalize Ae[y.toNat]=zs at h4 hz rz;have lz:=rz.len;have aq:=u _ _ (sd _ _ hA);have ag:=u _ _ (sd _ _ h4);refine⟨_,rfl,_,rfl,a,_,_,_,rfl,rfl,Ac0 aq,qDZ yb.1 (by rw[B6,h3];rfl),r,rfl,⟨_,Ac0 ag⟩,λp2 a7=>?_⟩
  refine qDL (p:=p2) (a:=r) (xs:=zs.map V.int) (λj σ Hd=>∃(v:Option V),σ=[v,some (.ref d)]/\Same g Hd/\Hd p2=some (.lst (((zs.take j).filterMap (qCR c)).map V.int))) ?_ ?_ ?_ ?_
  ·exact⟨none,rfl,qA2 a7 _,qA1⟩
  ·rintro j σ Hd hj ⟨v,rfl,se,_⟩;exact Ac0 (se _ _ ag)
  ·refineλj x σ Hd hx a6=>opq λb3 af=>?_;obtain⟨v,rfl,se,a0⟩:=a6;obtain⟨z,ez,rfl⟩:=qB1 hx;refine af ?_;have hj:=(A5.mp ez).1;have ak:=se _ _ (u _ _ gd);have lf:((zs.take j).filterMap (qCR c)).length<=j:=F4 (b8 _ _) (by rw[C5];lia)
   refine⟨_,rfl,_,rfl,d,_,rfl,DGet.k (k:=E8 z) ak,_,rfl,?_⟩;rw[vd z,qaT ez];cases e:qCR c z with
   |none=>
    refine⟨_,rfl,se,?_⟩;simpa using a0
   |some v=>
    have hg:=DGet.k (k:=E8 z) ak;rw[vd z,e] at hg;refine⟨_,rfl,_,rfl,d,_,rfl,hg,_,a0,qAH (by rw[A0];lia),_,rfl,qAA se a7,?_⟩
    rw[qA1,B3]
    rfl
  ·refineλσ Hd aa=>opq λb2 ai=>?_;obtain⟨v,rfl,se,a0⟩:=aa;refine ai ?_;rw[A0,qBC rfl] at a0;refine⟨p2,_,rfl,.inl ⟨Ab2 a0,λtq an=>?_⟩⟩;have sq:=se.trans (qA2 an (.tup ((zs.filterMap (qCR c)).map V.int)));have g1:=sq _ _ m;refine⟨_,g1,qAH (by rw[A0];lia),?_⟩
   rw[qB2];refine⟨_,qs++[tq],rfl,qAA (u.trans sq) ae,qA1,?_⟩;have e7:((c.take (i+1)).map λw=>((Ae[w.toNat]?).getD []).filterMap (qCR c))=((c.take i).map λw=>((Ae[w.toNat]?).getD []).filterMap (qCR c))++[zs.filterMap (qCR c)]:=by
    rw[C9,ey,D2,B3,A07,hz,Z5]
   rw[e7];exact qD4 (qCC (NQ.same λr' ys e=>sq _ _ e) qA1) g1
 ·refineλσ g al=>opq λb0 a8=>?_;obtain⟨v0,qs,rfl,u,m,NQ⟩:=al;refine a8 ?_;rw[A0,qBC rfl] at NQ;refine⟨p1,_,rfl,.inl ⟨Ab2 m,λb hb=>?_⟩⟩;have sb:=qA2 hb (.tup (qs.map V.ref));exact q b _ (sd.trans (u.trans sb)) ⟨qs,qA1,NQ.same λr ys e=>sb _ _ e⟩
theorem qX4:FnScope ["_law_works"] ["_law_works"] (qAB qLO):=qBT
theorem ok_Lbits (F:Fun K "_law_bits" "_law_bits" qLO f fd) (k:mg "sum" = none):FnOk P w K mg base CX0 1 f fd ["_law_works"] qYX:=by
 refine F.okA qX4 λa0 A o s H vs Q E hr h=>?_;obtain⟨l,ws,rfl,y,n,lw,q⟩:=h;refine⟨_,(qA5 (qAE (qA9 (qME rfl) rfl k qWA (qA0 (qC9 rfl (lcs (own:=["_law_work"]) (fv:=[]) (by kernel_rfl)) (qCX (pv 0)) (λt=>qBJ 0) (λt=>qB0) (λt=>(qAR qQX qA7 (pv 0)))) qA3)))),?_⟩
 try dsimp only[Cx.nox,Cx.wish,cxOf]
 refine⟨_,rfl,l,rfl,⟨_,Ab2 y⟩,λp hp=>?_⟩;refine qEW (p:=p) (a:=l) (xs:=ws.map V.int) (λi σ j=>∃(v:Option V),σ=[v]/\Same H j/\j p=some (.lst (((ws.take i).map λz=>(1:Int)*2^z.toNat).map V.int))) ?_ ?_ ?_ ?_
 ·exact⟨none,rfl,qA2 hp _,qA1⟩
 ·rintro i σ j hi ⟨v,rfl,se,_⟩;exact Ab2 (se _ _ y)
 ·refineλi x σ j hx g=>opq λr c=>?_;obtain⟨v,rfl,se,b⟩:=g;obtain⟨z,m,rfl⟩:=qB1 hx;refine c ?_;have hi:=(A5.mp m).1;have zb:=n z (B5 m);refine⟨_,rfl,_,_,rfl,rfl,⟨zb.1,by lia,by decide⟩,_,b,qAH (by rw[A0,A0,C5];lia),_,rfl,qAA se hp,?_⟩
  rw[qA1,C9,m,D2,B3,B3]
  rfl
 ·refineλσ j e=>opq λu d=>?_;obtain⟨v,rfl,se,b⟩:=e;refine d ?_;rw[A0,qBC rfl] at b;refine⟨p,_,rfl,Ab2 b,?_⟩;rw[qP5];exact q j se
theorem sc_Ldone_in:FnScope ["_law_net_here","_law_asked_here","_law_rooms","_law_works","_law_want"] ["_law_net_here","_law_asked_here","_law_rooms"] (qAB qFC):=qBT
theorem ok_Ldone_in (F:Fun K "_law_done_in" "_law_done_in" qFC f fd) (ay:Clb P w K mg base 1 qJN qST "_law_needed" ["_law_net_here","_law_asked_here"] qQ6) (aj:Clb P w K mg base 1 qPP qYF "_law_bits" ["_law_works"] qYX) (ar:Clb P w K mg base 1 qM6 qRI "_law_part" ["_law_net_here","_law_works"] qOH) (as:Clb P w K mg base 1 qPO qYE "_law_come" ["_law_net_here","_law_rooms"] qYW) (au:mg "enumerate" = none) (av:mg "any" = none):FnOk P w K mg base CX0 2 f fd ["_law_net_here","_law_asked_here","_law_rooms"] qQA:=by
 refine F.okA sc_Ldone_in λb7 A al s H vs Q E hr h=>?_;obtain⟨a,t,Ae,Ad,ws,Aa,rfl,hN,wf,b6,⟨hT,rA⟩,ND,q⟩:=h;refine⟨_,(qA4 (qAG (i:=3) sc_Ldone_in.nd rfl (E2 rfl) (qAT ay hr rfl (qA0 (pv 0) (qA0 (pv 1) qA3)))) (qA4 (qAG (i:=4) sc_Ldone_in.nd rfl (q9 rfl) (qAT aj hr rfl (qA0 (qC9 rfl (lcs (own:=["_law_place","_law_work"]) (fv:=[1]) (by kernel_rfl)) (qU1 rfl au qCV (qA0 (pv 3) qA3)) (λz5=>qH2 (K:=K) (n:=2) rfl rfl (qAW (qBJ 0) (qAW (qBJ 1) qDA)) rfl rfl) (λz5=>(qDS (qAN (qKM (K:=K) rfl) (pv 1) (pv 2) (by with_unfolding_all rfl)))) (λz5=>(pv 0))) qA3))) (qA5 (qAE (qA9 (qYK rfl) rfl av qd1 (qA0 (qC9 rfl (lcs (own:=["_law_bits_here"]) (fv:=[4]) (by kernel_rfl)) (qXI (qAT as hr rfl (qA0 (qAT ar hr rfl (qA0 (pv 0) (qA0 (pv 3) qA3))) (qA0 (pv 2) qA3)))) (λz6=>qBJ 0) (λz6=>qB0) (λz6=>(qDC qET (qAR qQZ (pv 0) (pv 1)) (pv 1) (qAY _)))) qA3)))))),?_⟩
 try dsimp only[Cx.nox,Cx.wish,cxOf]
 have rW:=ND.1;have lw:=rW.len;refine cut λN1 aw=>?_;refine⟨_,rfl,_,rfl,a,t,Ae,Ad,rfl,hN,wf,by lia,⟨hT,rA⟩,λl j H1 a9 fl gl nd=>?_⟩
 have am:j=ws:=qH4 nd ND;subst am;refine aw _ _ (cut λN2 ap=>?_);refine⟨_,rfl,l,rfl,⟨_,Ab2 gl⟩,λp hp=>?_⟩;refine qPB (p:=p) (a:=l) (xs:=j.map V.int) (λi σ Hc=>∃(v0 v1:Option V),σ=[v0,v1,some (.ref t)]/\Same H1 Hc/\Hc p=some (.lst ((((qBM 0 j.length).take i).filter λp=>decide ((j[p.toNat]?).getD 0∈Ad)).map V.int))) ?_ ?_ ?_ ?_
 ·exact⟨none,none,rfl,qA2 hp _,qA1⟩
 ·rintro i σ Hc hi ⟨v0,v1,rfl,sm,_⟩;exact Ab2 (sm _ _ gl)
 ·refineλi x σ Hc T hx ae ak=>opq λb1 a7=>?_;obtain⟨v0,v1,rfl,sm,a0⟩:=ae;obtain⟨y,ey,rfl⟩:=qB1 hx;refine a7 ?_;have hi:=(A5.mp ey).1;have sT:=qA2 ak (.tup [.int (i:Int),.int y]);have aa:=sm.trans sT;have ah:=sT _ _ a0;have lk:=qC1 (p:=λp=>decide ((j[p.toNat]?).getD 0∈Ad)) (l:=qBM 0 j.length) (i:=i);refine⟨T,_,rfl,Ac0 qA1,rfl,_,_,rfl,_,_,rfl,rfl,?_⟩;refine⟨_,rfl,_,rfl,t,_,rfl,.inr (Ac0 (aa _ _ (a9 _ _ hT))),rfl,qC0 Ad,_,rfl,?_⟩;rw[qDT,qCJ (qFU (by lia))]
  have ez:(j[((i:Int)).toNat]?).getD 0=y:=by rw[D9,ey];rfl
  rw[ez];by_cases hw:y∈Ad
  ·rw[decide_eq_true hw];refine⟨_,rfl,_,ah,qAH (by rw[A0];lia),_,_,rfl,qAA aa hp,?_⟩
   rw[qA1,if_pos rfl,B3]
   rfl
  ·rw[decide_eq_false hw];refine⟨_,_,rfl,aa,?_⟩;simpa using ah
 ·refineλσ Hc a5=>opq λaz af=>?_;obtain⟨v0,v1,rfl,sm,a0⟩:=a5;refine af ?_;rw[A0,qBC (by rw[qDW];lia)] at a0
  have lf:((qBM 0 j.length).filter λp=>decide ((j[p.toNat]?).getD 0∈Ad)).length<=j.length:=qSO;refine⟨p,_,rfl,a0,λx hx=>?_,by lia,λH2 an=>?_⟩
  ·have:=mem_rangeI.mp (E4.mp hx).1
   lia
  show N2 [some (.ref a),some (.ref t),some (.int Aa),some (.ref l),some (.int ((qOE j Ad:Nat):Int))] H2;have s2:=sm.trans an;generalize hwn:qOE j Ad=c;refine ap _ _ ?_;refine⟨_,rfl,_,rfl,false,a,l,Ae,j,rfl,hN.same (a9.trans s2),wf,by lia,.inl (s2 _ _ gl),rW,λb H3 ao hP=>?_⟩
  have lp:(qBW Ae j).length<=12:=by rw[qBV];lia
  refine⟨_,rfl,b,qBW Ae j,Aa,rfl,hP,qD7 wf rW,lp,λd o ks g H4 aq b8 gd C=>?_⟩;refine⟨d,o,kvN ks g,rfl,gd,λp1 ai=>?_⟩;refine qXW (p:=p1) (a:=d) (o:=o) (Af:=kvN ks g) (λi σ Hc=>∃(v:Option V),σ=[v,some (.int (c:Int))]/\Same H4 Hc/\Hc p1=some (.lst (((ks.take i).map λb=>decide (b &&& c=c)).map V.bl))) ?_ ?_ ?_ ?_
  ·exact⟨none,rfl,qA2 ai _,qA1⟩
  ·refineλi σ Hd hi a6=>opq λb0 a8=>?_;obtain⟨v,rfl,sd,_⟩:=a6;refine a8 ?_;exact sd _ _ gd
  ·refineλi k v1 σ Hd hk a1=>opq λb3 ad=>?_;obtain⟨v,rfl,sd,u⟩:=a1;refine ad ?_;unfold kvN at hk;rw[B6] at hk;cases e:ks[i]? with
   |none=>rw[e] at hk;cases hk
   |some x=>
    rw[e] at hk;cases hk;have kl:ks.length<=2^(qBW Ae j).length:=qE3 C.nd λb hb=>(C.snd b hb).1.lt;have k2:2^(qBW Ae j).length<=2^12:=L0 (by decide) lp
    have hi:=(A5.mp e).1;refine⟨_,rfl,_,rfl,_,_,rfl,rfl,_,rfl,rfl,_,u,qB6 (by rw[A0,A0,C5];lia),_,rfl,qAA sd ai,?_⟩
    dsimp only;have ax:decide (V.int (U1 (x:Int) (c:Int))=V.int (c:Int))=decide (x &&& c=c):=decide_eq_decide.mpr ⟨λz=>by have:=V.int.inj z;rw[qE2] at this;lia,λz=>by rw[qE2,z]⟩
    rw[ax,qA1,C9,e,D2,B3,B3]
    rfl
  ·refineλσ Hd ag=>opq λb5 ac=>?_;obtain⟨v,rfl,sd,u⟩:=ag;refine ac ?_;rw[qPE,qBC rfl] at u;refine⟨p1,_,rfl,Ab2 u,?_⟩;refine q _ Hd (a9.trans (s2.trans (ao.trans (aq.trans sd)))) ?_;rw[A38];unfold qEJ;rw[hwn]
   constructor
   ·refineλa4=>opq λb2 a2=>?_;obtain⟨b,hb,eb⟩:=a4;obtain⟨x,hx,rfl⟩:=D4.mp hb;refine a2 ?_;exact⟨g x,x,(C.snd x hx).1,of_decide_eq_true eb⟩
   ·refineλab=>opq λb4 a3=>?_;obtain⟨m,x,r,hx⟩:=ab;refine a3 ?_;exact⟨_,D4.mpr ⟨x,C.all m x r,rfl⟩,decide_eq_true hx⟩
theorem sc_Lleast:FnScope ["_law_net_here","_law_asked_here","_law_rooms"] ["_law_net_here","_law_asked_here"] (qAB qI4):=qBT
theorem ok_Lleast (F:Fun K "_law_least" "_law_least" qI4 f fd) (n:Clb P w K mg base 2 qHE qPK "_law_done_in" ["_law_net_here","_law_asked_here","_law_rooms"] qQA):FnOk P w K mg base CX0 3 f fd ["_law_net_here","_law_asked_here"] qQ7:=by
 refine F.okA sc_Lleast λa1 A u s H vs Q E hr h=>?_;obtain⟨a,t,Ae,Ad,ws,r,rfl,hN,wf,p,AT,ND,v,q⟩:=h;refine⟨_,(qA4 (qAG (i:=2) sc_Lleast.nd rfl (E2 rfl) qA7) (qA4 (qFD D5 (qCQ (qBX (qAT n hr rfl (qA0 (pv 0) (qA0 (pv 1) (qA0 (pv 2) qA3)))))) (qA5 (qAG (i:=2) sc_Lleast.nd rfl (E2 rfl) (qAR qEH (pv 2) qA7)))) (qA5 (qAE (pv 2))))),?_⟩
 try dsimp only[Cx.nox,Cx.wish,cxOf]
 refine cut λN1 l=>l _ _ (cut λN2 o=>?_);refine⟨λm σ y=>∃(k:Int),σ=[some (.ref a),some (.ref t),some (.int k)]/\m=(r-k).toNat/\Same H y/\1<=k/\k<=r,⟨_,1,rfl,rfl,Same.refl H,by lia,v.1⟩,?_⟩
 refineλm σ y c=>opq λa0 d=>?_;obtain⟨k,rfl,rfl,j,k1,k2⟩:=c;refine d ?_;refine⟨_,rfl,_,rfl,_,rfl,a,t,Ae,Ad,ws,k,rfl,hN.same j,wf,p,⟨j _ _ AT.1,AT.2⟩,ND,λb H1 g x=>?_⟩;refine⟨b,rfl,?_⟩;cases b with
 |true=>
  have e:k=r:=by
   have h1:=x.mp rfl;apply G4;intro z;exact v.2.2 k k1 (by lia) h1
  subst e;exact o _ _ ⟨_,rfl,q H1 (j.trans g)⟩
 |false=>
  have e:k<r:=by
   apply G4;intro z;have:k=r:=by lia
   subst this;cases x.mpr v.2.1
  refine⟨λσ' H'=>∃m',m'<(r-k).toNat/\_,λσ' H' z=>z,?_⟩;refine⟨_,rfl,_,_,rfl,rfl,?_⟩;exact⟨(r-(k+1)).toNat,by lia,k+1,rfl,rfl,j.trans g,by lia,by lia⟩
theorem sc_Lplayed:FnScope ["_law_net_here","_law_rooms","_law_plan","_law_stands","_law_move","_law_word_here"] ["_law_net_here","_law_rooms","_law_plan"] (qAB qGA):=qBT
theorem ok_Lplayed (F:Fun K "_law_played" "_law_played" qGA f fd)
  (af:Clb P w K mg base 1 qM3 qRH "_law_word" ["_law_net_here","_law_rooms","_law_stand","_law_move"] qIM)
  (ad:Clb P w K mg base 1 qGS qKY "_law_behind" ["_law_stand","_law_move"] qEN):FnOk P w K mg base CX0 2 f fd ["_law_net_here","_law_rooms","_law_plan"] qQ4:=by
 refine F.okA sc_Lplayed λar A aj s H vs Q E hr h=>?_;obtain⟨a,l,Ae,ms,Aa,rfl,⟨hN,wf,am,⟨rs,hl,M⟩,ap,ae,r0,al⟩,q⟩:=h;have ao:Room 1 _:=hr;have as:Room 1 _:=hr;refine⟨_,(qA4 (qAG (i:=3) sc_Lplayed.nd rfl (E2 rfl) (qBU (qA0 (qBN qA3) qA3))) (qA4 (qBZ D5 rfl (qCX (pv 2)) (qAS (i:=4) sc_Lplayed.nd rfl (E2 rfl)) (qA4 (qAG (i:=5) sc_Lplayed.nd rfl (E2 rfl) (qAT af hr rfl (qA0 (pv 0) (qA0 (pv 1) (qA0 (qB7 qCD (pv 3) (qOW qII qA7) (λ_ _=>rfl)) (qA0 (pv 4) qA3)))))) (qA4 (qBD (qCZ (qOX (pv 5))) (qA5 (qAE (qBN (qA0 (pv 3) (qA0 (pv 5) qA3))))) qAM) (qA5 (qCW (qLS F2 G8 G9 qC3 (pv 3) (qA0 (qAT ad hr rfl (qA0 (qB7 qCD (pv 3) (qOW qII qA7) (λ_ _=>rfl)) (qA0 (pv 4) qA3))) qA3))))))) (qA5 (qAE (qBN (qA0 (pv 3) (qA0 qFP qA3))))))),?_⟩
 try dsimp only[Cx.nox,Cx.wish,cxOf]
 have a5:=C2 M;refine⟨(by show 0<=B77;decide),λe he=>⟨(by show 1<=B77;decide),λg o=>?_⟩⟩
 have s1:=qA2 he (.tup []);have s2:=s1.trans (qA2 o (.lst [.ref e]));have a0:H g=none:=s1.free o;refine⟨_,rfl,l,rfl,⟨_,Ab2 (s2 _ _ hl)⟩,qLZ (a:=l) (xs:=rs.map V.ref) (λk σ Hc=>∃(ss:List Addr) (r:Addr) (sts:Aa0) (st:List Int) (v4 v5:Option V),σ=[some (.ref a),some (.int Aa),some (.ref l),some (.ref g),v4,v5]/\Same H Hc/\Hc g=some (.lst ((ss++[r]).map V.ref))/\NetL Hc (ss++[r]) ([]::sts)/\Hc r=some (.tup (st.map V.int))/\Rise (Ae.length:Int) st/\sts.length=k/\∀sts' v,Play Ae Aa st (ms.drop k) sts' v->Play Ae Aa [] ms (sts++sts') v)
  ⟨[],e,[],[],none,none,rfl,s2,qA1,.cons ((qA2 o (.lst [.ref e])) _ _ qA1) .nil,(qA2 o (.lst [.ref e])) _ _ qA1,Rise.nil,rfl,λsts' v p=>p⟩ (λk σ Hc _ hP=>by obtain⟨_,_,_,_,_,_,_,sm,_⟩:=hP;exact Ab2 (sm _ _ hl)) ?_ ?_⟩
 ·refineλk x σ Hc hx a6=>opq λaq a7=>?_;obtain⟨ss,r,sts,st,v4,v5,rfl,sm,c,N,a2,u,lk,go⟩:=a6;refine a7 ?_;have ak:=u.len;obtain⟨mv,ah,rfl⟩:=qCI hx;obtain⟨⟨Ac,j⟩,hm,hH⟩:=qAU M ah;have hk:=(A5.mp hm).1;obtain⟨hw,y,a8⟩:=ae _ (B5 hm);dsimp only at hw y a8 hH;have ed:ms.drop k=(Ac,j)::ms.drop (k+1):=by
   obtain⟨ac,e⟩:=A5.mp hm;rw[Q1 ac,e]
  have ag:j.toNat<Ae.length:=by lia
  have n:=A4 ag;have aa:=(wf j.toNat _ n).len;generalize Ae[j.toNat]=ns at n aa;have t:wd Ae st Aa (Ac,j)=qCB ns st Aa Ac j:=by unfold wd;rw[n];rfl
  have ai:=C2 N;rw[D3] at ai;have d:atI ((ss++[r]).map V.ref) (-1)=some (.ref r):=by rw[B3];exact qRR _ _
  refine⟨_,rfl,_,rfl,_,rfl,_,rfl,g,_,_,_,rfl,rfl,Ab2 c,d,_,rfl,a,r,mv,Ae,st,ns,Aa,j,Ac,rfl,hN.same sm,a2,by lia,sm _ _ hH,hw,y,n,by lia,λH2 b=>?_⟩
  rcases qOD ns st Aa Ac j with e|⟨w0,e⟩
  ·rw[e];refine⟨_,rfl,_,rfl,?_⟩;rw[decide_eq_true (rfl:V.non=V.non)];refine⟨_,rfl,.inl ⟨rfl,_,Ab2 (b _ _ c)⟩,_,rfl,_,rfl,g,_,_,_,rfl,rfl,Ab2 (b _ _ c),d,_,rfl,r,mv,st,Ac,j,rfl,b _ _ a2,by lia,b _ _ (sm _ _ hH),hw,λr' m H3 ab gr bh=>?_⟩
   have s3:=b.trans ab;have a1:=s3 _ _ c;have a4:=qRP u hw y a8 (λew=>((qYO hw (t.trans e)).1 ew).1) bh;refine⟨g,_,_,rfl,rfl,a1,qB6 (by rw[A0];lia),?_⟩
   rw[qB2];have N3:NetL H3 (ss++[r]++[r']) ([]::(sts++[m])):=R9 (NetL.sm N s3) gr;refine⟨ss++[r],r',sts++[m],m,_,_,rfl,qAA (sm.trans s3) a0,qA1,NetL.put N3 a1,?_,a4,by rw[A8,C1,lk],λsts' v p=>?_⟩
   ·rw[qA8 (qCA gr a1 (by intro z;cases z))]
    exact gr
   ·rw[M7];exact go (m::sts') v (by rw[ed];exact .go (t.trans e) bh p)
  ·rw[e];refine⟨_,rfl,_,rfl,?_⟩;rw[decide_eq_false (show¬V.str w0=V.non fromλz=>nomatch z)];refine⟨_,rfl,_,rfl,(by show 2<=B77;decide),λT hT=>?_⟩
   have sT:=qA2 hT (.tup [.ref g,.str w0]);have pl:=go [] (.str w0) (by rw[ed];exact .stop (t.trans e))
   rw[P3] at pl;exact q T g sts (.str w0) _ ((sm.trans b).trans sT) pl qA1 a0 ((StandsAt.same ⟨_,c,N⟩ b).same sT) (by lia)
 ·refineλσ Hc a9=>opq λan a3=>?_;obtain⟨ss,r,sts,st,v4,v5,rfl,sm,c,N,a2,u,lk,go⟩:=a9;refine a3 ?_;rw[A0,a5] at lk;have pl:=go [] .non (by rw[A0,a5,List.drop_length];exact .nil)
  rw[P3] at pl;refine⟨_,rfl,(by show 2<=B77;decide),λT hT=>?_⟩
  have sT:=qA2 hT (.tup [.ref g,.non]);exact q T g sts .non _ (sm.trans sT) pl qA1 a0 (StandsAt.same ⟨_,c,N⟩ sT) (by lia)
theorem qY0 {Ac:Str} (h:Ac = "do"\/Ac = "clear"):inV (.str Ac) [.str "do",.str "clear"]=true:=by
 rcases h with rfl|rfl
 ·decide +kernel
 ·decide +kernel
theorem qOO:FnScope ["_law_net_here","_law_move"] ["_law_net_here","_law_move"] (qAB qFB):=qBT
theorem ok_Lis_move (F:Fun K "_law_is_move" "_law_is_move" qFB f fd) (e:mg "isinstance" = none) (m:mg "tuple" = none) (qBI:mg "len" = none) (j:mg "int" = none) (r:mg "bool" = none):FnOk P w K mg base CX0 1 f fd ["_law_net_here","_law_move"] qQ9:=by
 refine F.okA qOO λa0 A p s H vs Q E hr h=>?_;obtain⟨a,g,Ae,y,i,rfl,hN,c,d,t,n,q⟩:=h;refine⟨_,(qA4 (qBD (PW.pt (qHW (qCQ (qBX (qA9 qAX rfl e qAP (qA0 (pv 1) (qA0 (qC7 (v:=.ty "tuple") rfl m qAO rfl) qA3))))) (qHW (qAN qUE (qA9 qAC rfl qBI qBH (qA0 (pv 1) qA3)) qA7 (qAY _)) (qGE (qAN qNA (qB7 qB9 (pv 1) qA7 (λ_ _=>rfl)) (qBN (qA0 qBO (qA0 qBO qA3))) (by with_unfolding_all rfl)))))) (qA5 (qAE qDD)) qAM) (qA5 (qAE (qKK (qA9 qAX rfl e qAP (qA0 (qB7 qB9 (pv 1) qA7 (λ_ _=>rfl)) (qA0 (qC7 (v:=.ty "int") rfl j qL2 rfl) qA3))) (qKK (qZ3 (qA9 qAX rfl e qAP (qA0 (qB7 qB9 (pv 1) qA7 (λ_ _=>rfl)) (qA0 (qC7 (v:=.ty "bool") rfl r qPW rfl) qA3)))) (qQP (qXK qcA qOY qA7 (qB7 qB9 (pv 1) qA7 (λ_ _=>rfl)) (qA9 qAC rfl qBI qBH (qA0 (pv 0) qA3))))))))),?_⟩
 try dsimp only[Cx.nox,Cx.wish,cxOf]
 obtain⟨u,hA,NL⟩:=id hN;have k:(((u.map V.ref).length:Nat):Int)=(Ae.length:Int):=by rw[A0,C2 NL]
 refine⟨_,rfl,_,"tuple",_,true,rfl,TyOf.tup c,rfl,_,rfl,?_⟩;refine⟨_,rfl,g,_,rfl,.inr (Ac0 c),rfl,_,rfl,?_⟩;rw[decide_eq_true (show V.int ((([V.str y,V.int i].length:Nat)):Int)=V.int 2 from rfl)];refine⟨_,rfl,g,_,_,_,rfl,rfl,Ac0 c,rfl,(by show 2<=B77;decide),λT z=>?_⟩
 have o:=qA2 z (.tup [.str "do",.str "clear"])
 refine⟨T,_,rfl,.inr (Ac0 qA1),rfl,rfl,_,rfl,?_⟩;rw[qY0 d];have b:=o _ _ c;have l:=o _ _ hA;refine⟨_,rfl,g,_,_,_,rfl,rfl,Ac0 b,rfl,_,"int",_,true,rfl,TyOf.int i,qUV,_,rfl,?_⟩;refine⟨_,rfl,g,_,_,_,rfl,rfl,Ac0 b,rfl,_,"bool",_,false,rfl,TyOf.int i,qUW,_,rfl,_,rfl,?_⟩;refine⟨_,rfl,g,_,_,_,rfl,rfl,Ac0 b,rfl,_,_,rfl,rfl,_,rfl,?_⟩;rw[decide_eq_true (show(0:Int)<=i from t)];refine⟨_,rfl,a,_,rfl,.inr (Ac0 l),_,_,rfl,rfl,?_⟩;have x:=q _ o;rw[<- decide_eq_true (show i<(((u.map V.ref).length:Nat):Int) by rw[k];exact n)] at x
 exact x
theorem sc_stands_reached:FnScope ["net","rooms","reached","due","later","stand","move","further","steps"] ["net","rooms"] (qAB qAI):=qBT
theorem ok_stands_reached (F:Fun K "stands_reached" "stands_reached" qAI f fd) (bp:Clb P w K mg base 3 qHB qPH "moves_of" ["net","rooms","stand"] qMX) (bv:Clb P w K mg base 1 qDV qJG "stand_behind" ["stand","move"] qEN):FnOk P w K mg base CX0 4 f fd ["net","rooms"] qLC:=by
 refine F.okA sc_stands_reached λc6 A bu s H vs Q E hr h=>?_;obtain⟨a,Ae,Aa,rfl,hN,wf,bs,q⟩:=h;have hu:=qH9 hr;have cf:Room 3 _:=hr;have bx:qBF qAI=[.Assign [.Name "reached" ⟨49,4,49,11⟩] (.Dict [some (kOf ((qBF qAI).getD 0 (.Pass ⟨0,0,0,0⟩)))] [vOf ((qBF qAI).getD 0 (.Pass ⟨0,0,0,0⟩))] ⟨49,14,49,35⟩) ⟨49,4,49,35⟩,(qBF qAI).getD 1 (.Pass ⟨0,0,0,0⟩),(qBF qAI).getD 2 (.Pass ⟨0,0,0,0⟩),(qBF qAI).getD 3 (.Pass ⟨0,0,0,0⟩)]:=by kernel_rfl
 have hk:∀X:Cx,PE X (kOf ((qBF qAI).getD 0 (.Pass ⟨0,0,0,0⟩))) (tTup tNil):=λX=>qa8 ⟨_,_,rfl⟩;have hv:∀X:Cx,PE X (vOf ((qBF qAI).getD 0 (.Pass ⟨0,0,0,0⟩))) (tTup (qMS (tC (.int 0)) (qMS (tC .non) (qMS (tC .non) tNil)))):=λX=>qU6 ⟨_,_,_,_,_,_,_,_,rfl⟩;rw[bx];generalize kOf ((qBF qAI).getD 0 (.Pass ⟨0,0,0,0⟩))=k0 at hk ⊢;generalize vOf ((qBF qAI).getD 0 (.Pass ⟨0,0,0,0⟩))=v9 at hv ⊢;refine⟨_,(qA4 (qAG (i:=2) sc_stands_reached.nd rfl (E2 rfl) (qU8 hu (hk _) (hv _))) (qA4 (qAG (i:=3) sc_stands_reached.nd rfl (E2 rfl) (qBU (qA0 (qBN qA3) qA3))) (qA4 (qFD D5 (qXC (pv 3) (λ_=>rfl)) (qA4 (qAG (i:=4) sc_stands_reached.nd rfl (E2 rfl) (qBU qA3)) (qA4 (qBZ D5 rfl (qCX (pv 3)) (qAS (i:=5) sc_stands_reached.nd rfl (E2 rfl)) (qA5 (qBZ D5 rfl (qCX (qAT bp hr rfl (qA0 (pv 0) (qA0 (pv 1) (qA0 (pv 5) qA3))))) (qAS (i:=6) sc_stands_reached.nd rfl (E2 rfl)) (qA4 (qAG (i:=7) sc_stands_reached.nd rfl (E2 rfl) (qAT bv hr rfl (qA0 (pv 5) (qA0 (pv 6) qA3)))) (qA5 (qBD (qCZ (qER hu (pv 7) (pv 2))) (qA4 (qAG (i:=8) sc_stands_reached.nd rfl (E2 rfl) (qAR qEH (qB7 qB9 (qDB hu (pv 2) (pv 5) (λ_ _=>rfl)) qA7 (λ_ _=>rfl)) (qGG (qAN qET (qB7 qB9 (pv 6) qA7 (λ_ _=>rfl)) qBO (qAY _)) qA7 qA7))) (qA4 (qEQ hu (pv 2) (pv 7) (qBN (qA0 (pv 8) (qA0 (pv 5) (qA0 (pv 6) qA3)))) rfl) (qA5 (qCW (qLS F2 G8 G9 qC3 (pv 4) (qA0 (pv 7) qA3)))))) qAM)))))) (qA5 (qAG (i:=3) sc_stands_reached.nd rfl (E2 rfl) (pv 4)))))) (qA5 (qAE (qU7 (pv 2))))))),?_⟩
 try dsimp only[Cx.nox,Cx.wish,cxOf]
 have pw:2^Ae.length<=2^12:=L0 (by decide) bs
 intro n aj;refine⟨(by show 0<=B77;decide),λe0 bn=>?_⟩
 refine⟨(by show 3<=B77;decide),λv0 bd=>?_⟩
 have s1:=qA2 aj (.dT []);have s2:=qA2 bn (.tup []);have s3:=qA2 bd (.tup [.int 0,.non,.non]);have g1:(Ag (Ag (Ag H n (.dT [])) e0 (.tup [])) v0 (.tup [.int 0,.non,.non])) n=some (.dT []):=s3 _ _ (s2 _ _ qA1);have g2:(Ag (Ag (Ag H n (.dT [])) e0 (.tup [])) v0 (.tup [.int 0,.non,.non])) e0=some (.tup (([]:List Key).map kV)):=s3 _ _ qA1;have g3:(Ag (Ag (Ag H n (.dT [])) e0 (.tup [])) v0 (.tup [.int 0,.non,.non])) v0=some (.tup [.int ((0:Nat):Int),.non,.non]):=qA1;have sA:=s1.trans (s2.trans s3);generalize Ag (Ag (Ag H n (.dT [])) e0 (.tup [])) v0 (.tup [.int 0,.non,.non])=H1 at g1 g2 g3 sA;refine⟨g1,e0,[],rfl,g2,?_⟩;have b:EntZ H1 [([],.ref v0)] [[]] (λ_=>0) (PrvH Ae Aa [[]] λ_=>0):=⟨λ_=>none,.cons ⟨rfl,v0,rfl,g3⟩ .nil,PrvH.start⟩;have b:=b.put (u:=.dT [([],.ref v0)]) g1 (λxs z=>by cases z)
 have sB:Same H (Ag H1 n (.dT [([],.ref v0)])):=qAA sA aj;have g4:(Ag H1 n (.dT [([],.ref v0)])) n=some (.dT [([],.ref v0)]):=qA1;have aa:H n=none:=aj;refine⟨(by show 0<=B77;decide),λe1 bt=>⟨(by show 1<=B77;decide),λdu c2=>?_⟩⟩
 have s5:=qA2 bt (.tup []);have s6:=qA2 c2 (.lst [.ref e1]);have sC:=sB.trans (s5.trans s6);have ac:=(b.same s5).same s6;have g5:=s6 _ _ (s5 _ _ g4);have g6:(Ag (Ag (Ag H1 n (.dT [([],.ref v0)])) e1 (.tup [])) du (.lst [.ref e1])) du=some (.lst ([e1].map V.ref)):=qA1;have g7:StL (Ag (Ag (Ag H1 n (.dT [([],.ref v0)])) e1 (.tup [])) du (.lst [.ref e1])) [e1] [[]]:=.cons (s6 _ _ qA1) .nil;generalize Ag (Ag (Ag H1 n (.dT [([],.ref v0)])) e1 (.tup [])) du (.lst [.ref e1])=H2 at sC ac g5 g6 g7;clear s1 s2 s3 g1 g2 g3 sA b sB g4 s5 s6 bn bd aj;refine⟨λm σ Hc=>∃(du:Addr) (dr:List Addr) (due ks:Aa0) (f:List Int->Nat) (Af:List (List Key×V)) (t:Nat) (v4 v5 v6 v7 v8:Option V),σ=[some (.ref a),some (.int Aa),some (.ref n),some (.ref du),v4,v5,v6,v7,v8]/\m=(2^Ae.length-ks.length)*2+(if due=[] then 0 else 1)/\Same H Hc/\Hc n=some (.dT Af)/\EntZ Hc Af ks f (PrvH Ae Aa ks f)/\Hc du=some (.lst (dr.map V.ref))/\StL Hc dr due/\BF Ae Aa t ks due [] f 0 0,
  ⟨_,du,[e1],[[]],[[]],λ_=>0,_,0,none,none,none,none,none,rfl,rfl,sC,g5,ac,g6,g7,BF.start⟩,?_⟩
 clear sC g5 ac g6 g7;refineλm σ Hc b5=>opq λc9 be=>?_;obtain⟨du,dr,due,ks,f,Af,t,v4,v5,v6,v7,v8,rfl,rfl,sm,d,b,j,SD,B⟩:=b5;refine be ?_;refine⟨_,rfl,_,.inl ⟨_,Ab2 j,rfl⟩,?_⟩;have ar:dr.length=due.length:=C2 SD;by_cases hz:due=[]
 ·subst hz;have:dr=[]:=M8.mp ar;subst this;refine iteF ?_;obtain⟨g,eX,b1⟩:=b.ex;exact⟨_,rfl,n,Af,rfl,d,λo=>q n o Af ks f g _ (qAA sm aa) aa qA1 (eX.put d λxs z=>by cases z) B.rch b1⟩
 ·have ne:(!(dr.map V.ref).isEmpty)=true:=by
   cases dr with
   |nil=>exact absurd (M8.mp ar.symm) hz
   |cons _ _=>rfl
  dsimp only;rw[if_pos ne];have bw:=B.len;have ln:=b.len;refine qUL λN0 b6=>?_;refine⟨(by show 0<=B77;decide),λll af=>?_⟩
  have s7:=qA2 af (.lst []);have c3:H ll=none:=sm.free af;have aq:ll≠n/\ll≠du:=⟨(qA6 d af).symm,(qA6 j af).symm⟩;have bo:n≠du:=qCA d j (by intro z;cases z)
  obtain⟨k0,au⟩:∃k0,k0=ks.length:=⟨_,rfl⟩;rw[<- au] at b6;refine⟨_,rfl,du,rfl,⟨_,Ab2 (s7 _ _ j)⟩,qJE (a:=du) (xs:=dr.map V.ref) (λi σ Hd=>∃(lr:List Addr) (ly ks:Aa0) (f:List Int->Nat) (Af:List (List Key×V)) (v5 v6 v7 v8:Option V),σ=[some (.ref a),some (.int Aa),some (.ref n),some (.ref du),some (.ref ll),v5,v6,v7,v8]/\Same H Hd/\Hd n=some (.dT Af)/\EntZ Hd Af ks f (PrvH Ae Aa ks f)/\Hd du=some (.lst (dr.map V.ref))/\StL Hd dr due/\Hd ll=some (.lst (lr.map V.ref))/\StL Hd lr ly/\BF Ae Aa t ks due ly f i 0/\ks.length=k0+ly.length)
   ⟨[],[],ks,f,Af,v5,v6,v7,v8,rfl,sm.trans s7,s7 _ _ d,b.same s7,s7 _ _ j,SD.same s7,qA1,.nil,B,au.symm⟩ (by rintro i σ Hd _ ⟨_,_,_,_,_,_,_,_,_,_,_,_,_,z,_⟩;exact Ab2 z) ?_ ?_⟩
  ·clear s7 d b j SD B sm ln bw au;refineλi x σ Hd hx b9 N1 c1=>opq λca b4=>?_;obtain⟨lr,ly,ks,f,Af,v5,v6,v7,v8,rfl,sm,d,b,j,SD,a0,SL,B,a2⟩:=b9;obtain⟨sr,b3,rfl⟩:=qCI hx;obtain⟨p,a8,a7⟩:=qAU SD b3;refine b4 ?_;have ri:Rise (Ae.length:Int) p:=((B.duem p).mp (B5 a8)).1.rise;have ce:p.length<=12:=by have:=ri.len;lia
   have a4:p∈ks:=B.full t p (A6 _) ((B.duem p).mp (B5 a8)).1;refine⟨_,rfl,_,rfl,_,rfl,a,sr,Ae,p,Aa,rfl,hN.same sm,wf,by lia,a7,by lia,λl rs H3 s3 fl gl ML=>?_⟩
   have bq:rs.length=(qDH Ae p Aa).length:=C2 ML;refine⟨l,rfl,⟨_,Ab2 gl⟩,qJE (a:=l) (xs:=rs.map V.ref) (λk σ Hd=>∃(lr:List Addr) (ly ks:Aa0) (f:List Int->Nat) (Af:List (List Key×V)) (v6 v7 v8:Option V),σ=[some (.ref a),some (.int Aa),some (.ref n),some (.ref du),some (.ref ll),some (.ref sr),v6,v7,v8]/\Same H Hd/\Hd n=some (.dT Af)/\EntZ Hd Af ks f (PrvH Ae Aa ks f)/\Hd du=some (.lst (dr.map V.ref))/\StL Hd dr due/\Hd ll=some (.lst (lr.map V.ref))/\StL Hd lr ly/\BF Ae Aa t ks due ly f i k/\ks.length=k0+ly.length/\Hd l=some (.lst (rs.map V.ref))/\MovL Hd rs (qDH Ae p Aa)/\p∈ks)
    ⟨lr,ly,ks,f,Af,v6,v7,v8,rfl,sm.trans s3,s3 _ _ d,b.same s3,s3 _ _ j,SD.same s3,s3 _ _ a0,SL.same s3,B,a2,gl,ML,a4⟩ (by rintro k σ Hd _ ⟨_,_,_,_,_,_,_,_,_,_,_,_,_,_,_,_,_,_,z,_⟩;exact Ab2 z) ?_ ?_⟩
   ·have nl:n≠l/\ll≠l:=⟨qA6 d fl,qA6 a0 fl⟩;clear d b j SD a0 SL B a2 sm gl ML s3 a4 a7;refineλk x σ Hd hx bf N2 av=>opq λc5 bm=>?_;obtain⟨lr,ly,ks,f,Af,v6,v7,v8,rfl,sm,d,b,j,SD,a0,SL,B,a2,gl,ML,a4⟩:=bf;obtain⟨mv,bz,rfl⟩:=qCI hx;obtain⟨⟨Ac,wk⟩,ah,ag⟩:=qAU ML bz;refine bm ?_;dsimp only at ag;obtain⟨cb,ao,a7⟩:=qAU SD b3;rw[a8] at ao;cases ao;have hw:=(due_iff.mp (B5 ah)).1.1;refine⟨_,rfl,_,rfl,sr,mv,p,Ac,wk,rfl,a7,by lia,ag,hw,λr cc H4 s4 gr br=>?_⟩
    have e2:=qZM (m:=(Ac,wk)) ri hw br;rw[e2] at gr;have bj:=sm.trans s4;have a6:=s4 _ _ d;have a1:=b.same s4;have al:=s4 _ _ j;have ba:=SD.same s4;have an:=s4 _ _ a0;have ax:=SL.same s4;have bc:=s4 _ _ gl;have bl:=ML.same s4;have ak:=s4 _ _ a7;have am:=s4 _ _ ag;have lb:=B.len;clear d b j SD a0 SL gl ML a7 ag;refine⟨_,rfl,_,rfl,n,_,rfl,.inr ⟨Af,keyS (behL p (Ac,wk)),r,.inl a6,rfl,by rw[qDE];exact gr,rfl⟩,_,rfl,?_⟩
    by_cases a9:behL p (Ac,wk)∈ks
    ·obtain⟨v,ev,_⟩:=a1.val a9;rw[ev];refine iteF ?_;exact av _ _ ⟨lr,ly,ks,f,Af,_,_,_,rfl,bj,a6,a1,al,ba,an,ax,B.hit a8 ah a9,a2,bc,bl,a4⟩
    ·rw[a1.none a9];refine iteT ?_;obtain⟨v,ev,vr,xx,yy,e6,gv⟩:=a1.val a4;subst e6;have dg:DGet H4 n (.ref sr) (some (.ref vr)):=by
      rw[<- ev];exact .inr ⟨Af,keyS p,sr,.inl a6,rfl,by rw[qDE];exact ak,rfl⟩
     have B2:=B.add a8 ah a9;have c0:=B2.len;rw[A8,C1] at c0;have cd:lr.length=ly.length:=C2 ax;have c7:=a1.len;refine⟨_,rfl,_,rfl,n,.ref vr,rfl,dg,vr,_,_,_,rfl,rfl,Ac0 gv,rfl,_,rfl,mv,_,_,_,rfl,rfl,Ac0 am,rfl,rfl,_,rfl,?_⟩;obtain⟨z,ai,bb⟩:∃z:Nat,(if decide (V.str Ac=V.str "do")=true then z=1 else z=0)/\z=if((Ac,wk):Mv).1=D0 "do" then 1 else 0:=by
      by_cases c:Ac=D0 "do"
      ·exact⟨1,by rw[if_pos (decide_eq_true (congrArg V.str c))],by rw[if_pos c]⟩
      ·exact⟨0,by rw[if_neg (λq=>c (V.str.inj (of_decide_eq_true q)))],by rw[if_neg c]⟩
     rw[<- bb] at B2;have b7:∀(y:Int) (H5:Hp) (tp:Addr),y=((f p+z:Nat):Int)->H4 tp=none->H5=Ag H4 tp (.tup [.int y,.ref sr,.ref mv])->∃H6 H7,DPut H5 n (.ref r) (.ref tp) H6/\H6 ll=some (.lst (lr.map V.ref))/\H7=Ag H6 ll (.lst (lr.map V.ref++[.ref r]))/\
       ∃(lr:List Addr) (ly ks:Aa0) (f:List Int->Nat) (Af:List (List Key×V)),Same H H7/\H7 n=some (.dT Af)/\EntZ H7 Af ks f (PrvH Ae Aa ks f)/\H7 du=some (.lst (dr.map V.ref))/\StL H7 dr due/\H7 ll=some (.lst (lr.map V.ref))/\StL H7 lr ly/\BF Ae Aa t ks due ly f i (k+1)/\ks.length=k0+ly.length/\H7 l=some (.lst (rs.map V.ref))/\MovL H7 rs (qDH Ae p Aa)/\p∈ks:=by
      intro y H5 tp ey ad e5;subst ey e5;have s5:=qA2 ad (.tup [.int ((f p+z:Nat):Int),.ref sr,.ref mv]);have g5:(Ag H4 tp (.tup [.int ((f p+z:Nat):Int),.ref sr,.ref mv])) tp=some (.tup [.int ((f p+z:Nat):Int),.ref sr,.ref mv]):=qA1;generalize Ag H4 tp (.tup [.int ((f p+z:Nat):Int),.ref sr,.ref mv])=H5 at s5 g5;have a3:=s5 _ _ a6;have bh:=s5 _ _ gr;have b8:=s5 _ _ an;have nt:∀kk xs,HO.dT kk≠.tup xs:=λkk xs q=>by cases q
      have ae:∀kk xs,HO.lst kk≠.tup xs:=λkk xs q=>by cases q
      have a5:(Ag H5 n (.dT (putK Af (keyS (behL p (Ac,wk))) (.ref tp)))) ll=some (.lst (lr.map V.ref)):=(qA8 aq.1).trans b8;refine⟨_,_,.inr ⟨Af,keyS (behL p (Ac,wk)),r,a3,rfl,by rw[qDE];exact bh,qB6 (by lia),rfl⟩,a5,rfl,lr++[r],ly++[behL p (Ac,wk)],ks++[behL p (Ac,wk)],_,_,qAA (qAA (bj.trans s5) aa) c3,?_,(((a1.same s5).snoc (m:=(Ac,wk)) a9 g5 (s5 _ _ ak) (s5 _ _ am) (λg e=>PrvH.snoc a4 (B5 ah) a9 bb e)).put a3 (nt _)).put a5 (ae _),?_,((ba.same s5).put a3 (nt _)).put a5 (ae _),?_,(((ax.same s5).snoc bh).put a3 (nt _)).put a5 (ae _),B2,?_,?_,((bl.same s5).putG a3 (nt _)).putG a5 (ae _),B0.mpr (.inl a4)⟩
      ·rw[qA8 aq.1.symm,qA1]
      ·rw[qA8 aq.2.symm,qA8 bo.symm];exact s5 _ _ al
      ·rw[qA1,qB2]
      ·simp only[A8,C1];lia
      ·rw[qA8 nl.2.symm,qA8 nl.1.symm];exact s5 _ _ bc
     refine ite2 (λck=>?_) (λck=>?_)
     ·rw[if_pos ck] at ai;refine⟨_,_,rfl,rfl,_,rfl,_,rfl,_,rfl,(by show 3<=B77;decide),λtp ad=>?_⟩
      obtain⟨H6,H7,dp,g6,e7,b0,az,aw,f2,ab,x1,x2,x3,x4,x5,x6,x7,x8,x9,ay,as,ap⟩:=b7 _ _ tp (by rw[ai]) ad rfl
      subst e7;refine⟨_,rfl,_,rfl,n,H6,rfl,dp,_,rfl,.inl ⟨rfl,_,Ab2 g6⟩,_,rfl,ll,_,_,rfl,rfl,g6,qB6 (by rw[A0];lia),?_⟩
      exact av _ _ ⟨b0,az,aw,f2,ab,_,_,_,rfl,x1,x2,x3,x4,x5,x6,x7,x8,x9,ay,as,ap⟩
     ·rw[if_neg ck] at ai;refine⟨_,_,rfl,rfl,_,rfl,_,rfl,_,rfl,(by show 3<=B77;decide),λtp ad=>?_⟩
      obtain⟨H6,H7,dp,g6,e7,b0,az,aw,f2,ab,x1,x2,x3,x4,x5,x6,x7,x8,x9,ay,as,ap⟩:=b7 _ _ tp (by rw[ai]) ad rfl
      subst e7;refine⟨_,rfl,_,rfl,n,H6,rfl,dp,_,rfl,.inl ⟨rfl,_,Ab2 g6⟩,_,rfl,ll,_,_,rfl,rfl,g6,qB6 (by rw[A0];lia),?_⟩
      exact av _ _ ⟨b0,az,aw,f2,ab,_,_,_,rfl,x1,x2,x3,x4,x5,x6,x7,x8,x9,ay,as,ap⟩
   ·refineλσ Hd b2=>opq λc8 bg=>?_;obtain⟨lr,ly,ks,f,Af,v6,v7,v8,rfl,sm,d,b,j,SD,a0,SL,B,a2,gl,ML,a4⟩:=b2;refine bg ?_;rw[A0,bq] at B;exact c1 _ _ ⟨lr,ly,ks,f,Af,_,_,_,_,rfl,sm,d,b,j,SD,a0,SL,B.next a8 (A6 _),a2⟩
  ·refineλσ Hd bi=>opq λc4 bk=>?_;obtain⟨lr,ly,ks,f,Af,v5,v6,v7,v8,rfl,sm,d,b,j,SD,a0,SL,B,a2⟩:=bi;refine bk ?_;rw[A0,ar] at B;have B2:=B.level (A6 _);have lb:=B2.len;refine⟨_,rfl,b6 _ _ ⟨_,?_,ll,lr,ly,ks,f,Af,t+1,_,_,_,_,_,rfl,rfl,sm,d,b,a0,SL,B2⟩⟩;rw[if_neg hz];by_cases c:ly=[]
   ·rw[if_pos c,a2,c,O2]
    lia
   ·have:0<ly.length:=A85.mpr c;rw[if_neg c,a2]
    lia
theorem sc_best_end:FnScope ["reached","asked","ends"] ["reached","asked"] (qAB qCG):=qBT
theorem ok_best_end (F:Fun K "best_end" "best_end" qCG f fd) (hcd:fd.code=.ref cc) (hBM:BM mg base) (qE7:hdIn K cc Pt=true) (qGX:Clb P w K mg base 1 qJK qSQ "has_all" ["results","works"] qYU) (qMM:mg "min" = none):FnOk P w K mg base CX0 2 f fd ["reached","asked"] (qTJ Pt):=by
 refine F.okL hcd sc_best_end (λvs H Q E h=>?_) (λA ah s H vs Q E hr h=>?_)
 ·obtain⟨d,t,o,Af,g,l,e,rfl,_⟩:=h
  rfl
 obtain⟨d,t,o,Af,g,l,e,rfl,ab,hd,a6,lk,hT,la,q⟩:=h;have hu:=qH9 hr;have an:=hu2_of hr;have rm:Room 1 _:=hr;have aq:Room 1 _:=hr;refine⟨_,(qA4 (qOT (i:=2) sc_best_end.nd rfl rfl rfl (lcs (own:=["stand"]) (fv:=[1]) (by kernel_rfl)) (qQO (pv 0)) (λz1=>qBJ 0) (λz1=>(qDS (qBX (qAT qGX hr rfl (qA0 (pv 0) (qA0 (pv 1) qA3)))))) (λz1=>(pv 0)) (by kernel_rfl)) (qA5 (qAE (qXJ (p:="stand") (fv:=[0]) (q:="best_end.<locals>.<lambda>") rm rfl rfl qMM qRO hBM rfl qE7 (by kernel_rfl) (lms (by kernel_rfl)) rfl (λ_ _ _ _ _=>rfl) (qeA an) (qA0 (pv 2) qA3) (λz2=>(qBN (qA0 (qB7 (qH8 (K:=K) rfl) (qDB (lm_hu _) (pv 1) (pv 0) (λ_ _=>rfl)) qA7 (λ_ _=>rfl)) (qA0 (pv 0) qA3)))) qFP)))),?_⟩
 try dsimp only[Cx.nox,Cx.wish,cxOf]
 have ln:=a6.len;refine⟨_,rfl,d,o,Af,rfl,hd,λle af=>?_⟩;refine qXV (p:=le) (a:=d) (o:=o) (Af:=Af) (λk σ Hd=>∃(v0:Option V) (er:List Addr),σ=[v0,some (.ref t)]/\Same H Hd/\Hd le=some (.lst (er.map V.ref))/\StL Hd er ((g.take k).filter λs=>decide (∀x∈e,x∈s))) ?_ ?_ ?_ ?_
 ·exact⟨none,[],rfl,qA2 af _,qA1,.nil⟩
 ·refineλk σ Hd hk aa=>opq λar ad=>?_;obtain⟨v0,er,rfl,sd,_⟩:=aa;refine ad ?_;exact sd _ _ hd
 ·refineλk a0 v r σ Hd y a7 ac=>opq λas a9=>?_;obtain⟨v0,er,rfl,sd,ge,SE⟩:=ac;obtain⟨m,u,e1,v3⟩:=qAU a6 y;refine a9 ?_;dsimp only at e1;subst e1;rw[qDE] at a7;have ap:=(A5.mp u).1;have lE:er.length=((g.take k).filter λs=>decide (∀x∈e,x∈s)).length:=C2 SE;have aj:=P0 (λs:List Int=>decide (∀x∈e,x∈s)) (g.take k);rw[C5] at aj;refine⟨_,rfl,_,rfl,true,r,t,m,e,rfl,a7,.inl (sd _ _ hT),la,λH2 n=>⟨_,rfl,?_⟩⟩;rw[C9,u,D2,c9];by_cases c:∀x∈e,x∈m
  ·rw[decide_eq_true c];refine⟨_,rfl,_,n _ _ ge,qB6 (by rw[A0];lia),?_⟩
   rw[qB2];refine⟨_,er++[r],rfl,qAA (sd.trans n) af,qA1,?_⟩;rw[P5,if_pos (decide_eq_true c)];exact((SE.same n).snoc (n _ _ a7)).put (n _ _ ge) λxs z=>by cases z
  ·rw[decide_eq_false c];refine⟨_,er,rfl,sd.trans n,n _ _ ge,?_⟩;rw[P5,if_neg (by rw[decide_eq_false c];exact B4),B43,P3]
   exact SE.same n
 refineλσ H1 ae=>opq λao ag=>?_;obtain⟨v0,er,rfl,s1,ge,SE⟩:=ae;refine ag ?_;rw[ln,P6] at SE;have lE:er.length=(g.filter λs=>decide (∀x∈e,x∈s)).length:=C2 SE;refine⟨_,rfl,s1 _ _ ab,le,er.map V.ref,(g.filter λs=>decide (∀x∈e,x∈s)).map λs=>(l s:Int)::s,?_⟩;have a0:∀(i:Nat) (x:V) (k:List Int),(er.map V.ref)[i]?=some x->((g.filter λs=>decide (∀x∈e,x∈s)).map λs=>(l s:Int)::s)[i]?=some k->∃r s,x=.ref r/\k=(l s:Int)::s/\s∈g/\(∀x∈e,x∈s)/\H1 r=some (.tup (s.map V.int)):=by
  intro i x k y hk;obtain⟨r,a8,rfl⟩:=qCI y;obtain⟨m,u,gs⟩:=qAU SE a8;rw[B6,u] at hk;cases hk;have hm:=E4.mp (B5 u);exact⟨r,m,rfl,rfl,hm.1,of_decide_eq_true hm.2,gs⟩
 have am:∀(i:Nat) (x:V) (k:List Int),(er.map V.ref)[i]?=some x->((g.filter λs=>decide (∀x∈e,x∈s)).map λs=>(l s:Int)::s)[i]?=some k->∀Hc,Sm0 H1 Hc->∃r s vr xx yy,x=.ref r/\k=(l s:Int)::s/\Hc r=some (.tup (s.map V.int))/\DGet Hc d (.ref r) (some (.ref vr))/\Hc vr=some (.tup [.int (l s:Int),xx,yy]):=by
  intro i x k y hk Hc sc;obtain⟨r,m,e1,e2,e3,e4,e5⟩:=a0 i x k y hk;obtain⟨v,ev,vr,xx,yy,e6,e7⟩:=a6.val e3;subst e6;have gr:=sc _ _ e5;refine⟨r,m,vr,xx,yy,e1,e2,gr,?_,sc _ _ (s1 _ _ e7)⟩;rw[<- ev];exact .inr ⟨Af,keyS m,r,.inr ⟨o,sc _ _ (s1 _ _ hd)⟩,rfl,by rw[qDE];exact gr,rfl⟩
 cases er with
 |nil=>
  have he:(g.filter λs=>decide (∀x∈e,x∈s))=[]:=M8.mp lE.symm;refine⟨.non,rfl,ge,by rw[A0,A0,he];rfl,λi x k y=>by simp at y,by rw[he];rfl,λH2 n=>(q H2 (s1.trans n)).1 λs hs c=>?_⟩
  have:s∈g.filter λs=>decide (∀x∈e,x∈s):=E4.mpr ⟨hs,decide_eq_true c⟩;rw[he] at this;cases this
 |cons r0 er=>
  cases eZ:((r0::er).map V.ref).zip ((g.filter λs=>decide (∀x∈e,x∈s)).map λs=>(l s:Int)::s) with
  |nil=>
   exfalso
   have:=congrArg V6 eZ;rw[A54,A0,A0,<- lE,D3,O2] at this
   lia
  |cons b rest=>
   obtain⟨k,h1,h2⟩:=qIV rest b;rw[<- eZ] at h1 h2;have ak:∀p:V×List Int,p∈((r0::er).map V.ref).zip ((g.filter λs=>decide (∀x∈e,x∈s)).map λs=>(l s:Int)::s)->∃i:Nat,((r0::er).map V.ref)[i]?=some p.1/\((g.filter λs=>decide (∀x∈e,x∈s)).map λs=>(l s:Int)::s)[i]?=some p.2:=by
    intro p hp;obtain⟨i,hi⟩:=M9 hp;rw[A12] at hi;exact⟨i,hi.1,hi.2⟩
   obtain⟨i,g1,g2⟩:=ak _ h1;obtain⟨r,m,e1,e2,e3,e4,e5⟩:=a0 i _ _ g1 g2;refine⟨qEK b rest,rfl,ge,by rw[A0,A0,lE],λi x k y hk Hc sc=>?_,rfl,λH2 n=>?_⟩
   ·obtain⟨r,m,vr,xx,yy,a1,a2,a3,a4,a5⟩:=am i x k y hk Hc sc;subst a1 a2;exact⟨_,rfl,_,rfl,d,.ref vr,rfl,a4,vr,_,_,_,rfl,rfl,Ac0 a5,rfl,_,rfl,(by show 2<=B77;decide),λp hp=>⟨qA2 hp _,p,r,_,m,rfl,rfl,qA1,by rw[qA8 (qA6 a3 hp)];exact a3⟩⟩
   ·have e1:qEK b rest=.ref r:=e1;rw[e1];refine(q H2 (s1.trans n)).2 r m (n _ _ e5) e3 e4 λs' al c'=>?_;have hf:s'∈g.filter λs=>decide (∀x∈e,x∈s):=E4.mpr ⟨al,decide_eq_true c'⟩;obtain⟨j,hj⟩:=M9 hf;have ai:=(A5.mp hj).1;have a8:j<((r0::er).map V.ref).length:=by rw[A0,lE];exact ai
    have hq:(((r0::er).map V.ref)[j],(l s':Int)::s')∈((r0::er).map V.ref).zip ((g.filter λs=>decide (∀x∈e,x∈s)).map λs=>(l s:Int)::s):=
     B5 (i:=j) (A12.mpr ⟨A4 a8,by rw[B6,hj];rfl⟩)
    have hl:=h2 _ hq;have e2:k=(l m:Int)::m:=e2;rw[e2] at hl;dsimp only at hl;rw[HT.lexLt_cons] at hl;by_cases c:(l s':Int)=(l m:Int)
    ·lia
    ·rw[if_neg c] at hl;have:=of_decide_eq_false hl
     lia
theorem MovL.rev {H:Hp} {c:List Addr} {b:List Mv} (h:MovL H c b):MovL H c.reverse b.reverse:=by
 induction h with
 |nil=>exact .nil
 |@cons r m l1 l2 a _ ih=>
  rw[i8,i8];exact R9 ih a
theorem sc_plan_to:FnScope ["reached","stand","plan"] ["reached","stand"] (qAB qG7):=qBT
theorem ok_plan_to (F:Fun K "plan_to" "plan_to" qG7 f fd):FnOk P w K mg base CX0 1 f fd ["reached","stand"] qTH:=by
 refine F.okA sc_plan_to λaj A ae s H vs Q E hr h=>?_;obtain⟨d,t,o,Af,Ae,Aa,ks,fu,g,l,rfl,gd,ad,wf,RC,FR,lk,gt,x,q⟩:=h;have hu:=qH9 hr;refine⟨_,(qA4 (qAG (i:=2) sc_plan_to.nd rfl (E2 rfl) (qBU qA3)) (qA4 (qFD D5 (qCZ (qOX (qB7 qB9 (qDB hu (pv 0) (pv 1) (λ_ _=>rfl)) qA7 (λ_ _=>rfl)))) (qA4 (qCW (qLS F2 G8 G9 qC3 (pv 2) (qA0 (qB7 qB9 (qDB hu (pv 0) (pv 1) (λ_ _=>rfl)) qA7 (λ_ _=>rfl)) qA3))) (qA5 (qAG (i:=1) sc_plan_to.nd rfl (E2 rfl) (qB7 qB9 (qDB hu (pv 0) (pv 1) (λ_ _=>rfl)) qA7 (λ_ _=>rfl)))))) (qA4 (qCW (qUA F2 PySem.F.slot_list_reverse PySem.F.type_list_reverse qS9 (pv 2))) (qA5 (qAE (pv 2)))))),?_⟩
 try dsimp only[Cx.nox,Cx.wish,cxOf]
 have pv:=FR.1;obtain⟨u0,_,af⟩:=RC.snd l x;have ep:pth fu g l=qES g u0 l:=by unfold pth;rw[show 2*fu l-l.length=u0 by lia]
 have a0:=(qOS wf RC pv x).2.2.2;rw[ep] at a0;refine⟨(by show 0<=B77;decide),λk e=>?_⟩
 have s1:=qA2 e (.lst []);refine⟨λm σ c=>∃(tr:Addr) (cur:List Int) (rs:List Addr) (done:List Mv),σ=[some (.ref d),some (.ref tr),some (.ref k)]/\Same H c/\c tr=some (.tup (cur.map V.int))/\cur∈ks/\2*fu cur=m+cur.length/\c k=some (.lst (rs.map V.ref))/\MovL c rs done/\qES g u0 l=qES g m cur++done.reverse,
  ⟨u0,t,l,[],[],rfl,s1,s1 _ _ gt,x,af,qA1,.nil,by simp⟩,?_⟩
 refineλm σ c a7=>opq λai a6=>?_;obtain⟨tr,cur,rs,done,rfl,y,n,j,em,a,ML,ed⟩:=a7;refine a6 ?_;have ld:rs.length=done.length:=C2 ML;have ah:done.length+1<=ks.length:=by
  have:=congrArg V6 ed;rw[A8,A78] at this
  lia
 obtain⟨v,ev,vx⟩:=(ad.same y).val j;rcases pv cur j with⟨a1,a2,a3⟩|⟨p,mv,a1,a2,a3,a4,a5⟩
 ·rw[a2] at vx;obtain⟨b,rfl,gv⟩:=vx;have dg:DGet c d (.ref tr) (some (.ref b)):=.inr ⟨Af,keyS cur,tr,.inr ⟨o,y _ _ gd⟩,rfl,by rw[qDE];exact n,ev.symm⟩
  refine⟨_,rfl,_,rfl,d,.ref b,rfl,dg,b,_,_,_,rfl,rfl,Ac0 gv,rfl,_,rfl,?_⟩;refine iteF ?_;refine⟨_,rfl,.inl ⟨rfl,_,Ab2 a⟩,k,_,rfl,rfl,a,?_⟩;refine⟨_,rfl,q k _ (qAA y e) e ?_⟩;have en:qES g m cur=[]:=by
   cases m with
   |zero=>rfl
   |succ m=>show(match g cur with|none=>[]|some (p,m')=>qES g m p++[m'])=[];rw[a2]
  rw[en,A48] at ed;rw[ep,ed];refine⟨rs.reverse,by rw[qA1,List.map_reverse],?_⟩
  exact(MovL.rev ML).putG a λu z=>by cases z
 ·rw[a1] at vx;obtain⟨b,rp,rm,rfl,gv,ag,ab⟩:=vx;have dg:DGet c d (.ref tr) (some (.ref b)):=.inr ⟨Af,keyS cur,tr,.inr ⟨o,y _ _ gd⟩,rfl,by rw[qDE];exact n,ev.symm⟩
  have a8:=em;rw[a5] at a8;obtain⟨v',e1,e2⟩:=qLB RC a2 a3 (by rw[<- a4];exact a8)
  subst e1;refine⟨_,rfl,_,rfl,d,.ref b,rfl,dg,b,_,_,_,rfl,rfl,Ac0 gv,rfl,_,rfl,?_⟩;refine iteT ?_;refine qUL λN0 ac=>?_;refine⟨_,rfl,.inl ⟨rfl,_,Ab2 a⟩,_,rfl,_,rfl,d,.ref b,rfl,dg,b,_,_,_,rfl,rfl,Ac0 gv,rfl,k,_,_,rfl,rfl,a,qB6 (by rw[A0];lia),?_⟩
  have s2:Same H (Ag c k (.lst (rs.map V.ref++[V.ref rm]))):=qAA y e;have nt:∀kk u,HO.lst kk≠.tup u:=λkk u q=>by cases q
  have kp:∀(r:Addr) (u:List V),c r=some (.tup u)->(Ag c k (.lst (rs.map V.ref++[V.ref rm]))) r=some (.tup u):=λr u gg=>by
   rw[qA8 (qCA gg a λz=>nt _ _ z.symm)];exact gg
  have aa:DGet (Ag c k (.lst (rs.map V.ref++[V.ref rm]))) d (.ref tr) (some (.ref b)):=.inr ⟨Af,keyS cur,tr,.inr ⟨o,s2 _ _ gd⟩,rfl,by rw[qDE];exact kp _ _ n,ev.symm⟩
  refine⟨_,rfl,_,rfl,d,.ref b,rfl,aa,b,_,_,_,rfl,rfl,Ac0 (kp _ _ gv),rfl,?_⟩;refine ac _ _ ⟨v',by lia,rp,p,rs++[rm],done++[mv],rfl,s2,kp _ _ ag,a2,e2,by rw[qA1,qB2],?_,?_⟩
  ·exact MovL.putG (R9 ML ab) a (nt _)
  ·rw[ed];have a9:qES g (v'+1) cur=qES g v' p++[mv]:=by show(match g cur with|none=>[]|some (p,m')=>qES g v' p++[m'])=_;rw[a1]
   rw[a9,V9,M7]
   rfl
theorem sc_Ldoes:FnScope ["_law_net_here","_law_rooms","_law_plan","_law_asked_here","_law_stands","_law_word_here"] ["_law_net_here","_law_rooms","_law_plan","_law_asked_here"] (qAB qLM):=qBT
theorem ok_Ldoes (F:Fun K "_law_does" "_law_does" qLM f fd)
  (am:Clb P w K mg base 2 qJM qSS "_law_played" ["_law_net_here","_law_rooms","_law_plan"] qQ4)
  (ac:Clb P w K mg base 1 qHD qPJ "_law_is_move" ["_law_net_here","_law_move"] qQ9)
  (ai:mg "isinstance" = none) (af:mg "list" = none) (n:mg "all" = none):FnOk P w K mg base CX0 3 f fd ["_law_net_here","_law_rooms","_law_plan","_law_asked_here"] qTI:=by
 refine F.okA sc_Ldoes λaw A aa s H vs Q E hr h=>?_;obtain⟨a,l,t,Ae,ms,Aa,Ad,b,rfl,PI,al,hT,la,a9,q⟩:=h;obtain⟨hN,wf,an,hP,au,a2,r0,r1⟩:=id PI;have ay:Room 2 _:=hr;refine⟨_,(qA4 (qBD (PW.pt (qHW (qCQ (qBX (qA9 qAX rfl ai qAP (qA0 (pv 2) (qA0 (qC7 (v:=.ty "list") rfl af qJT rfl) qA3))))) (qGE (qCQ (qBX (qA9 (qFM rfl) rfl n qL3 (qA0 (qC9 rfl (lcs (own:=["_law_move"]) (fv:=[0]) (by kernel_rfl)) (qCX (pv 2)) (λz1=>qBJ 0) (λz1=>qB0) (λz1=>(qAT ac hr rfl (qA0 (pv 1) (qA0 (pv 0) qA3))))) qA3))))))) (qA5 (qAE qDD)) qAM) (qA4 (qKH (qAT am hr rfl (qA0 (pv 0) (qA0 (pv 1) (qA0 (pv 2) qA3)))) (qKJ rfl (qAW (qAS (i:=4) sc_Ldoes.nd rfl (q9 rfl)) (qAW (qAS (i:=5) sc_Ldoes.nd rfl (E2 rfl)) qDA)))) (qA5 (qAE (qKK (qQQ (qHM (pv 5))) (qQP (qA9 (qFM rfl) rfl n qL3 (qA0 (qC9 rfl (lcs (own:=["_law_work"]) (fv:=[4]) (by kernel_rfl)) (qCT (pv 3)) (λz2=>qBJ 0) (λz2=>qB0) (λz2=>(qDC (qKM (K:=K) rfl) (pv 0) (qB7 (qRA (K:=K) rfl) (pv 1) (qOW qII qA7) (λ_ _=>rfl)) (by with_unfolding_all rfl)))) qA3)))))))),?_⟩
 try dsimp only[Cx.nox,Cx.wish,cxOf]
 obtain⟨rs,hl,M⟩:=id hP;have ar:=C2 M;refine⟨_,rfl,_,"list",_,true,rfl,TyOf.lst hl,rfl,_,rfl,?_⟩;refine⟨_,rfl,l,rfl,⟨_,Ab2 hl⟩,λp hp=>?_⟩;refine qEW (p:=p) (a:=l) (xs:=rs.map V.ref) (λk σ Hc=>∃(v0:Option V),σ=[v0,some (.ref a)]/\Same H Hc/\Hc p=some (.lst ((D8 k true).map V.bl))) ?_ ?_ ?_ ?_
 ·exact⟨none,rfl,qA2 hp _,qA1⟩
 ·rintro k σ Hc hk ⟨v0,rfl,sm,_⟩;exact Ab2 (sm _ _ hl)
 ·refineλk x σ Hc hx a0=>opq λax o=>?_;obtain⟨v0,rfl,sm,m⟩:=a0;obtain⟨mv,ag,rfl⟩:=qCI hx;obtain⟨⟨Ac,wk⟩,hm,hH⟩:=qAU M ag;refine o ?_;have hk:=(A5.mp hm).1;obtain⟨hw,ad,ah⟩:=a2 _ (B5 hm);refine⟨_,rfl,_,rfl,a,mv,Ae,Ac,wk,rfl,hN.same sm,sm _ _ hH,hw,ad,ah,λH2 a4=>?_⟩;refine⟨_,a4 _ _ m,qB6 (by rw[A0,X5];lia),_,rfl,qAA (sm.trans a4) hp,?_⟩
  rw[qA1,qWD]
 refineλσ Hc a3=>opq λas a7=>?_;obtain⟨v0,rfl,sm,m⟩:=a3;refine a7 ?_;refine⟨p,_,rfl,Ab2 m,_,rfl,?_⟩;rw[qWJ];refine⟨_,rfl,_,rfl,_,rfl,a,l,Ae,ms,Aa,rfl,PI.same sm,λT ls e v H3 ae pl gT av SA lst=>?_⟩;obtain⟨ao,aj,el,_,_⟩:=al.play .nil;obtain⟨e1,e2⟩:=Play.one a2 pl aj;subst e1 e2;obtain⟨c,ab,NK⟩:=SA;obtain⟨ss,r,ak,gr⟩:∃ss r,c=ss++[r]/\H3 r=some (.tup (b.map V.int)):=by
  have ne:c≠[]:=λz=>by rw[z] at NK;cases NK
  refine⟨c.dropLast,c.getLast ne,(List.dropLast_concat_getLast ne).symm,?_⟩;have lk:=C2 NK;have hk:c.length-1<c.length:=by rw[lk,D3];lia
  obtain⟨z,hz,gz⟩:=qAU NK (A4 hk);have ez:z=b:=by
   rw[<- el];have:([]::e)[c.length-1]?=some (qR8 [] e):=by
    rw[lk,D3,A04];exact qKR e []
   rw[this] at hz;exact(D7 hz).symm
  rw[List.getLast_eq_getElem ne,<- ez];exact gz
 subst ak;have s3:=sm.trans ae;refine⟨T,_,rfl,Ac0 gT,rfl,_,_,rfl,_,_,rfl,rfl,?_⟩;refine⟨_,rfl,_,rfl,?_⟩;rw[decide_eq_true (rfl:V.non=V.non)];have d:atI ((ss++[r]).map V.ref) (-1)=some (.ref r):=by rw[B3];exact qRR _ _
 refine⟨_,rfl,t,rfl,⟨_,Ac0 (s3 _ _ hT)⟩,λp2 a1=>?_⟩;refine qDL (p:=p2) (a:=t) (xs:=Ad.map V.int) (λk σ g=>∃(v0:Option V),σ=[v0,some (.ref ls)]/\Same H3 g/\g p2=some (.lst ((D8 k true).map V.bl))) ?_ ?_ ?_ ?_
 ·exact⟨none,rfl,qA2 a1 _,qA1⟩
 ·rintro k σ g hk ⟨v0,rfl,sd,_⟩;exact Ac0 (sd _ _ (s3 _ _ hT))
 ·refineλk x σ g hx a5=>opq λaq a6=>?_;obtain⟨v0,rfl,sd,j⟩:=a5;obtain⟨y,ey,rfl⟩:=qB1 hx;refine a6 ?_;have hk:=(A5.mp ey).1;refine⟨_,rfl,_,rfl,_,rfl,ls,_,_,_,rfl,rfl,Ab2 (sd _ _ ab),d,r,_,rfl,.inr (Ac0 (sd _ _ gr)),rfl,qC0 b,_,j,qB6 (by rw[A0,X5];lia),_,rfl,qAA sd a1,?_⟩
  show(Ag g p2 (.lst ((D8 k true).map V.bl++[V.bl (inV (.int y) (b.map V.int))]))) p2=_;rw[qDT,decide_eq_true (a9 _ (B5 ey)),qA1,qWD]
 ·refineλσ g a8=>opq λap u=>?_;obtain⟨v0,rfl,sd,j⟩:=a8;refine u ?_;refine⟨p2,_,rfl,Ab2 j,?_⟩;rw[qWJ];exact q g (s3.trans sd)
theorem qIP:FnScope ["works","asked"] ["works","asked"] (qAB qCL):=qBT
theorem ok_part_numbers (F:Fun K "part_numbers" "part_numbers" qCL f fd) (v:mg "tuple" = none):FnOk P w K mg base CX0 1 f fd ["works","asked"] qLD:=by
 refine F.okA qIP λa4 A a0 s H vs Q E hr h=>?_;obtain⟨t,u,o,Ad,rfl,hT,hU,nd,la,lw,z,q⟩:=h;refine⟨_,(qA5 (qAE (qAD qAF rfl v qAO (qA0 (qC9 rfl (lcs (own:=["work"]) (fv:=[0]) (by kernel_rfl)) (qCT (pv 1)) (λz1=>qBJ 0) (λz1=>qB0) (λz1=>(qc8 (X:=lcCx _ _ _ _ z1) PySem.F.plainAttrs_tuple PySem.F.slot_tuple_index PySem.F.type_tuple_index (qP4 (K:=K) rfl) (pv 1) (qA0 (pv 0) qA3)))) qA3)))),?_⟩
 try dsimp only[Cx.nox,Cx.wish,cxOf]
 refine⟨_,rfl,u,rfl,⟨_,Ac0 hU⟩,λp hp=>?_⟩;refine qDL (p:=p) (a:=u) (xs:=Ad.map V.int) (λi σ m=>∃(v0:Option V),σ=[v0,some (.ref t)]/\Same H m/\m p=some (.lst ((qDI o (Ad.take i)).map V.int))) ?_ ?_ ?_ ?_
 ·exact⟨none,rfl,qA2 hp _,qA1⟩
 ·rintro i σ m hi ⟨v0,rfl,sm,_⟩;exact Ac0 (sm _ _ hU)
 ·refineλi x σ m hx n=>opq λa2 c=>?_;obtain⟨v0,rfl,sm,b⟩:=n;obtain⟨y,ey,rfl⟩:=qB1 hx;refine c ?_;have lt:=(A5.mp ey).1;have l:=hT.same sm;have hy:=z y (B5 ey);obtain⟨j,r⟩:=M9 hy;have lk:(qDI o (Ad.take i)).length<=i:=F4 (b8 _ _) (by rw[C5];lia)
  have first:∀k,k<j->o[k]?≠some y:=λk hk e=>by
   obtain⟨h1,e1⟩:=A5.mp e;obtain⟨h2,e2⟩:=A5.mp r;exact absurd (e1.trans e2.symm) (G3.mp nd k j h1 h2 hk)
  refine⟨_,rfl,⟨t,_,rfl,l⟩,_,rfl,t,o,y,j,rfl,rfl,l.sq,r,first,_,b,qAH (by rw[A0];lia),_,rfl,qAA sm hp,?_⟩
  rw[qA1];unfold qDI;rw[C9,ey,D2,Y0,O5,qFE nd r,B3]
  rfl
 ·refineλσ m g=>opq λa3 d=>?_;obtain⟨v0,rfl,sm,b⟩:=g;refine d ?_;rw[A0,P6] at b;refine⟨p,_,rfl,.inl ⟨Ab2 b,λr' a1=>?_⟩⟩;exact q r' _ (sm.trans (qA2 a1 _)) qA1
theorem sc_fewest:FnScope ["net","asked","works","part","wanted","rooms","end","reached"] ["net","asked"] (qAB qI1):=qBT
theorem ok_fewest (F:Fun K "fewest" "fewest" qI1 f fd) (ao:Clb P w K mg base 1 qDO qGR "all_needed" ["net","asked"] qTM) (ax:Clb P w K mg base 2 qFL qJH "part_net" ["net","works"] qOI) (b2:Clb P w K mg base 1 qCM qF0 "part_numbers" ["works","asked"] qLD) (aq:Clb P w K mg base 4 qC5 qE1 "stands_reached" ["net","rooms"] qLC) (b5:Clb P w K mg base 2 qD9 qJI "best_end" ["reached","asked"] (qTJ Pt)) (ay:Clb P w K mg base 1 qJJ qSP "plan_to" ["reached","stand"] qTH) (am:mg "tuple" = none):FnOk P w K mg base CX0 5 f fd ["net","asked"] (qYV Pt):=by
 refine F.okA sc_fewest λbb A ar s H vs Q E hr h=>?_;obtain⟨a,t,l,u,rfl,ab,hN,wf,ba,⟨hT,rA⟩,a1,q⟩:=h;have bd:Room 4 _:=hr;refine⟨_,(qA4 (qAG (i:=2) sc_fewest.nd rfl (q9 rfl) (qAD qJQ rfl am qAO (qA0 (qAT ao hr rfl (qA0 (pv 0) (qA0 (pv 1) qA3))) qA3))) (qA4 (qAG (i:=3) sc_fewest.nd rfl (E2 rfl) (qAT ax hr rfl (qA0 (pv 0) (qA0 (pv 2) qA3)))) (qA4 (qAG (i:=4) sc_fewest.nd rfl (E2 rfl) (qAT b2 hr rfl (qA0 (pv 2) (qA0 (pv 1) qA3)))) (qA4 (qAG (i:=5) sc_fewest.nd rfl (E2 rfl) qA7) (qA4 (qAG (i:=6) sc_fewest.nd rfl (E2 rfl) qFP) (qA4 (qFD D5 (qCZ (qHM (pv 6))) (qA4 (qbZ (i:=5) sc_fewest.nd rfl (E2 rfl) qA7 qcM) (qA4 (qAG (i:=7) sc_fewest.nd rfl (E2 rfl) (qAT aq hr rfl (qA0 (pv 3) (qA0 (pv 5) qA3)))) (qA5 (qAG (i:=6) sc_fewest.nd rfl (E2 rfl) (qAT b5 hr rfl (qA0 (pv 7) (qA0 (pv 4) qA3)))))))) (qA5 (qAE (qBN (qA0 (pv 5) (qA0 (qC9 rfl (lcs (own:=["word","number"]) (fv:=[2]) (by kernel_rfl)) (qCX (qAT ay hr rfl (qA0 (pv 7) (qA0 (pv 6) qA3)))) (λz2=>qH2 (K:=K) (n:=2) rfl rfl (qAW (qBJ 0) (qAW (qBJ 1) qDA)) rfl rfl) (λz2=>qB0) (λz2=>(qBN (qA0 (pv 0) (qA0 (qB7 (qH8 (K:=K) rfl) (pv 2) (pv 1) (λ_ _=>rfl)) qA3))))) qA3))))))))))),?_⟩
 try dsimp only[Cx.nox,Cx.wish,cxOf]
 refine⟨_,rfl,_,rfl,a,t,l,u,rfl,hN,wf,by lia,hT,rA.in_,λla k H1 s1 b9 au N=>?_⟩
 refine⟨la,_,rfl,Ab2 au,λtw ob av oc od=>?_⟩;have s2:=s1.trans (qA2 av (.frz ob (.tup (k.map V.int))));have v:BareT (Ag H1 tw (.frz ob (.tup (k.map V.int)))) tw (k.map V.int):=⟨ob,qA1,oc,od⟩;generalize Ag H1 tw (.frz ob (.tup (k.map V.int)))=H2 at s2 v;refine⟨_,rfl,_,rfl,a,tw,l,k,rfl,hN.same s2,wf,by lia,(let⟨o,e,_⟩:=v;.inr ⟨o,e⟩),N.1,λb H3 s3 hB=>?_⟩
 have ag:=s2.trans s3;have lw:=N.1.len;have ha:∀x∈u,x∈k:=λx hx=>(N.2 x).mpr (.ask hx);have al:=rA.len;refine⟨_,rfl,_,rfl,tw,t,k,u,rfl,v.same s3,ag _ _ hT,N.1.nodup,by lia,by lia,ha,λwt H4 s4 b1=>?_⟩
 have a4:=ag.trans s4;have af:=(v.same s3).same s4;have as:=hB.same s4;have wp:WFn (qBW l k):=qD7 wf N.1;have lp:=qBV l k;have rW:=qKC N rA;have w1:1<=k.length:=by
  cases u with
  |nil=>simp at a1
  |cons x u=>exact X1 (ha x (by simp))
 have lW:=rW.len;refine⟨λm σ Hc=>∃(r:Nat) (e:V) (v7:Option V),σ=[some (.ref a),some (.ref t),some (.ref tw),some (.ref b),some (.ref wt),some (.int (r:Int)),some e,v7]/\Same H4 Hc/\
   ((e=.non/\m=k.length+1 - r/\r<=k.length/\∀ r':Int,1<=r'->r'<=(r:Int)->¬ qEJ l k u r')\/
    (∃rr d o Af ks fu g st,e=.ref rr/\v7=some (.ref d)/\m=0/\Hc d=some (.frz o (.dT Af))/\EntX Hc Af ks fu g/\Rch (qBW l k) (r:Int) ks fu/\PrvH (qBW l k) (r:Int) ks fu g/\Hc rr=some (.tup (st.map V.int))/\(st∈ks/\∀x∈qDI k u,x∈st)/\LeastR l k u (r:Int))),
  ⟨_,0,.non,none,rfl,Same.refl _,.inl ⟨rfl,rfl,E7 _,λr' h1 h2=>absurd h1 (by lia)⟩⟩,?_⟩
 refineλm σ Hc a6=>opq λbc ae=>?_;obtain⟨r,e,v7,rfl,sm,b6⟩:=a6;refine ae ?_;rcases b6 with⟨rfl,rfl,rn,nb⟩|⟨rr,d,o,Af,ks,fu,g,st,rfl,rfl,rfl,gd,ent,RC,FR,a2,B,LR⟩
 ·refine⟨_,rfl,_,rfl,?_⟩;refine iteT ?_;refine qUL λN0 aa=>?_;refine⟨_,rfl,_,_,rfl,rfl,?_⟩;refine⟨_,rfl,_,rfl,b,qBW l k,(r:Int)+1,rfl,as.same sm,wp,by lia,λd o Af ks fu g H5 s5 be gd ent RC FR=>?_⟩
  have y:=sm.trans s5;have lk:=RC.len;have pw:2^(qBW l k).length<=2^12:=L0 (by decide) (by lia)
  refine⟨_,rfl,_,rfl,d,wt,o,Af,ks,fu,qDI k u,rfl,y _ _ (a4 _ _ ab),gd,ent.ent,F4 lk (by lia),y _ _ b1,by lia,λH6 s6=>⟨λhn=>?_,λrr st a2 a8 a0 a3=>?_⟩⟩
  ·have nd:=qZ8 N rA (qO8 wp rW RC hn);have a7:∀r':Int,1<=r'->r'<=((r+1:Nat):Int)->¬qEJ l k u r':=λr' h1 h2=>by
    by_cases c:r'<=(r:Int)
    ·exact nb r' h1 c
    ·rw[show r'=((r+1:Nat):Int) by lia]
     exact nd
   have b3:r+1<=k.length:=by
    apply G4;intro z;exact a7 (k.length:Int) (by lia) (by lia) (qNP wf N)
   exact aa _ _ ⟨k.length+1-(r+1),by lia,r+1,.non,_,rfl,y.trans s6,.inl ⟨rfl,rfl,b3,a7⟩⟩
  ·have dn:=qUS N rA (qO7 wp rW RC a8 a0 a3);refine aa _ _ ⟨0,by lia,r+1,.ref rr,_,rfl,y.trans s6,.inr ⟨rr,d,o,Af,ks,fu,g,st,rfl,rfl,rfl,s6 _ _ gd,ent.same s6,RC,FR,a2,⟨a8,a0⟩,by lia,dn,λr' h1 h2=>nb r' h1 (by lia)⟩⟩
 ·refine⟨_,rfl,_,rfl,?_⟩;refine iteF ?_;have lk:=RC.len;have pw:2^(qBW l k).length<=2^12:=L0 (by decide) (by lia)
  refine⟨_,rfl,_,rfl,_,rfl,d,rr,o,Af,qBW l k,(r:Int),ks,fu,g,st,rfl,gd,ent,wp,RC,FR,F4 lk (by lia),a2,B.1,λl0 H6 s6 bg PL=>?_⟩
  obtain⟨rs,ai,ML⟩:=PL;obtain⟨_,_,mv,b7⟩:=qOS wp RC FR.1 B.1;have an:rs.length=(pth fu g st).length:=C2 ML;have aj:=(af.same sm).same s6;refine⟨l0,rfl,⟨_,Ab2 ai⟩,λp hp=>?_⟩;have fp:H p=none:=((a4.trans sm).trans s6).free hp;refine qEW (p:=p) (a:=l0) (xs:=rs.map V.ref) (λj σ Hd=>∃(v0 v1:Option V) (ts:List Addr),σ=[v0,v1,some (.ref tw)]/\Same H6 Hd/\Hd p=some (.lst (ts.map V.ref))/\MovL Hd ts (renM k ((pth fu g st).take j))) ?_ ?_ ?_ ?_
  ·exact⟨none,none,[],rfl,qA2 hp _,qA1,.nil⟩
  ·rintro j σ Hd hj ⟨v0,v1,ts,rfl,sd,_⟩;exact Ab2 (sd _ _ ai)
  ·refineλj x σ Hd hx ak=>opq λb8 a9=>?_;obtain⟨v0,v1,ts,rfl,sd,gp,MT⟩:=ak;obtain⟨az,aw,rfl⟩:=qCI hx;obtain⟨⟨Ac,wk⟩,a5,hH⟩:=qAU ML aw;refine a9 ?_;have hj:=(A5.mp a5).1;have ad:=sd _ _ hH;dsimp only at ad;obtain⟨_,w0,wb⟩:=mv _ (B5 a5);dsimp only at w0 wb;rw[lp] at wb;have hi:wk.toNat<k.length:=by lia
   have b0:atI (k.map V.int) wk=some (.int (renW k wk)):=by
    have e:=qDZ (xs:=k.map V.int) (i:=wk) (x:=.int k[wk.toNat]) w0 (by rw[B6,A4 hi];rfl)
    rw[e];unfold renW;rw[A4 hi]
    rfl
   have lt:ts.length=(renM k ((pth fu g st).take j)).length:=C2 MT;unfold renM at lt;rw[A0,C5] at lt;refine⟨az,_,rfl,Ac0 ad,rfl,_,_,rfl,_,_,rfl,rfl,?_⟩;refine⟨_,rfl,_,rfl,_,rfl,tw,_,_,_,rfl,rfl,(aj.same sd).sq,b0,(by show 2<=B77;decide),λtp b4=>?_⟩
   have s7:=qA2 b4 (.tup [.str Ac,.int (renW k wk)]);refine⟨_,s7 _ _ gp,qB6 (by rw[A0];lia),_,_,ts++[tp],rfl,qAA (sd.trans s7) hp,by rw[qA1,qB2],?_⟩
   have er:renM k ((pth fu g st).take (j+1))=renM k ((pth fu g st).take j)++[(Ac,renW k wk)]:=by
    unfold renM;rw[C9,a5,D2,B3]
    rfl
   rw[er];exact MovL.putG (R9 (MT.same s7) qA1) (s7 _ _ gp) λxs z=>by cases z
  ·refineλσ H7 ac=>opq λbf ah=>?_;obtain⟨v0,v1,ts,rfl,sd,gp,MT⟩:=ac;refine ah ?_;rw[A0,an,P6] at MT;refine⟨(by show 2<=B77;decide),λT ap=>?_⟩
   have s8:=qA2 ap (.tup [.int (r:Int),.ref p]);exact q T p (r:Int) _ _ ((((a4.trans sm).trans s6).trans sd).trans s8) ⟨k,ks,fu,g,st,N,LR,RC,FR.1,B,rfl⟩ fp ⟨ts,s8 _ _ gp,MT.same s8⟩ qA1
theorem qWX {Ae:Aa0} {st ns:List Int} {Aa a:Int} {Ac:Str} (b:Ae[a.toNat]?=some ns) (c:Ac = "do"\/Ac = "clear") (d:0<=a) (f:a<(Ae.length:Int)) (h:qCB ns st Aa Ac a=.non):(Ac,a)∈qDH Ae st Aa:=by
 unfold qDH;refine E4.mpr ⟨?_,decide_eq_true ?_⟩
 ·unfold qK9 qHX;have e:((a.toNat:Nat):Int)=a:=by lia
  rcases c with z|z
  ·exact n6 _ (D4.mpr ⟨a.toNat,D6.mpr (by lia),by rw[e,z]⟩)
  ·exact G2 _ (D4.mpr ⟨a.toNat,D6.mpr (by lia),by rw[e,z]⟩)
 ·unfold wd;rw[b];exact h
theorem qc2 (b:Bool):∃wd:Str,atI [V.str "do",V.str "clear"] (if b=true then(1:Int) else 0)=some (.str wd)/\(wd = "do"\/wd = "clear"):=by
 cases b
 ·exact⟨_,rfl,.inl rfl⟩
 ·exact⟨_,rfl,.inr rfl⟩
theorem sc_Lstays:FnScope ["_law_part_here","_law_rooms","_law_stand","_law_there","_law_work","_law_move"] ["_law_part_here","_law_rooms","_law_stand","_law_there"] (qAB qI2):=qBT
theorem ok_Lstays (F:Fun K "_law_stays" "_law_stays" qI2 f fd) (a8:Clb P w K mg base 1 qM3 qRH "_law_word" ["_law_net_here","_law_rooms","_law_stand","_law_move"] qIM) (a5:Clb P w K mg base 1 qGS qKY "_law_behind" ["_law_stand","_law_move"] qEN) (qAZ:mg "range" = none) (qBI:mg "len" = none) (a2:mg "int" = none):FnOk P w K mg base CX0 2 f fd ["_law_part_here","_law_rooms","_law_stand","_law_there"] qTF:=by
 refine F.okA sc_Lstays λai A ac s H vs Q E hr h=>?_;obtain⟨a,t,d,o,z,Aa,j,ks,Af,rfl,hN,wf,ag,hT,rs,gd,vk,y,q⟩:=h;have hu:=qH9 hr;refine⟨_,(qA4 (qBZ D5 rfl (qB8 rfl qAZ (qA0 (qA9 qAC rfl qBI qBH (qA0 (pv 0) qA3)) qA3)) (qAS (i:=4) sc_Lstays.nd rfl (E2 rfl)) (qA4 (qAG (i:=5) sc_Lstays.nd rfl (E2 rfl) (qB7 qCD (qBU (qA0 qBO (qA0 qBO qA3))) (qAD qJS rfl a2 qL2 (qA0 (qDC qDX (pv 4) (pv 2) (by with_unfolding_all rfl)) qA3)) (λ_ _=>rfl))) (qA5 (qBD (PW.pt (qTT (qCZ (qHM (qAT a8 hr rfl (qA0 (pv 0) (qA0 (pv 1) (qA0 (pv 2) (qA0 (qBN (qA0 (pv 5) (qA0 (pv 4) qA3))) qA3))))))) (qOR (qCZ (qER hu (qAT a5 hr rfl (qA0 (pv 2) (qA0 (qBN (qA0 (pv 5) (qA0 (pv 4) qA3))) qA3))) (pv 3)))))) (qA5 (qAE qDD)) qAM)))) (qA5 (qAE qDD))),?_⟩
 try dsimp only[Cx.nox,Cx.wish,cxOf]
 obtain⟨ra,hA,NL⟩:=id hN;have ad:=C2 NL;have lst:=rs.len;refine cut λN0 aa=>?_;refine⟨_,rfl,a,_,rfl,.inr (Ac0 hA),?_⟩;rw[A0,ad];refine⟨(z.length:Int),rfl,by lia,by lia,qE0 (lo:=0) (n:=z.length) (λi σ Hc=>∃(v4 v5:Option V),σ=[some (.ref a),some (.int Aa),some (.ref t),some (.ref d),v4,v5]/\Same H Hc)
  ⟨none,none,rfl,.refl _⟩ ?_ ?_⟩
 ·refineλi σ Hc hi v=>opq λah x=>?_;obtain⟨v4,v5,rfl,sc⟩:=v;refine x ?_;refine cut λM0 a6=>?_;refine⟨(by show 2<=B77;decide),λp hp=>?_⟩
  have s1:=sc.trans (qA2 hp (.lst [.str "do",.str "clear"]))
  have gp:(Ag Hc p (.lst [.str "do",.str "clear"])) p=some (.lst [.str "do",.str "clear"]):=qA1
  generalize Ag Hc p (.lst [.str "do",.str "clear"])=H1 at s1 gp ⊢
  obtain⟨b,a4,hw⟩:=qc2 (inV (.int (0+(i:Int))) (j.map V.int));refine⟨_,rfl,_,rfl,t,_,rfl,.inr (Ac0 (s1 _ _ hT)),rfl,qC0 j,.inr ⟨_,rfl,p,_,_,_,rfl,rfl,Ab2 gp,a4,?_⟩⟩;refine a6 _ _ ?_;have a3:(0+(i:Int)).toNat<z.length:=by lia
  have e:=A4 a3;have ln:=(wf _ _ e).len;generalize z[(0+(i:Int)).toNat]=ns at e ln;refine⟨_,rfl,_,rfl,_,rfl,_,rfl,_,rfl,(by show 2<=B77;decide),λmv ab=>?_⟩
  have s2:=s1.trans (qA2 ab (.tup [.str b,.int (0+(i:Int))]));have gm:(Ag H1 mv (.tup [.str b,.int (0+(i:Int))])) mv=some (.tup [.str b,.int (0+(i:Int))]):=qA1;generalize Ag H1 mv (.tup [.str b,.int (0+(i:Int))])=H2 at s2 gm ⊢;refine⟨a,t,mv,z,j,ns,Aa,_,b,rfl,hN.same s2,s2 _ _ hT,by lia,gm,hw,by lia,e,by lia,λH3 s3=>⟨_,rfl,?_⟩⟩
  have u:=s2.trans s3;by_cases c:qCB ns j Aa b (0+(i:Int))=.non
  ·rw[c];refine iteT ?_;refine⟨_,rfl,_,rfl,_,rfl,(by show 2<=B77;decide),λg a0=>?_⟩
   have s4:=u.trans (qA2 a0 (.tup [.str b,.int (0+(i:Int))]));have k:(Ag H3 g (.tup [.str b,.int (0+(i:Int))])) g=some (.tup [.str b,.int (0+(i:Int))]):=qA1;generalize Ag H3 g (.tup [.str b,.int (0+(i:Int))])=H4 at s4 k ⊢;refine⟨t,g,j,b,_,rfl,s4 _ _ hT,by lia,k,hw,λr af H5 s5 gr a9=>?_⟩
   have e2:=qZM (m:=(b,0+(i:Int))) rs hw a9;rw[e2] at gr;have a7:=vk _ (y _ (qWX e hw (by lia) (by lia) c))
   refine⟨_,rfl,d,_,rfl,.inr ⟨Af,keyS (behL j (b,0+(i:Int))),r,.inr ⟨o,s5 _ _ (s4 _ _ gd)⟩,rfl,by rw[qDE];exact gr,rfl⟩,_,rfl,?_⟩
   rw[a7];exact⟨_,_,rfl,s4.trans s5⟩
  ·rw[decide_eq_false c];refine iteF ?_;exact⟨_,_,rfl,u⟩
 ·refineλσ Hc a1=>opq λae l=>?_;obtain⟨v4,v5,rfl,sc⟩:=a1;refine l ?_;exact aa _ _ (q _ sc)
theorem sc_never_paper:FnScope ["net","asked","rooms","works","reached"] ["net","asked","rooms"] (qAB qD1):=qBT
theorem ok_never_paper (F:Fun K "never_paper" "never_paper" qD1 f fd) (ad:Clb P w K mg base 1 qDO qGR "all_needed" ["net","asked"] qTM) (an:Clb P w K mg base 2 qFL qJH "part_net" ["net","works"] qOI) (aq:Clb P w K mg base 1 qCM qF0 "part_numbers" ["works","asked"] qLD) (ae:Clb P w K mg base 4 qC5 qE1 "stands_reached" ["net","rooms"] qLC) (ar:Clb P w K mg base 2 qD9 qJI "best_end" ["reached","asked"] (qTJ Pt)) (aa:mg "tuple" = none) (ai:mg "sorted" = none):FnOk P w K mg base CX0 5 f fd ["net","asked","rooms"] (qQ5 Pt):=by
 refine F.okA sc_never_paper λaw A af s H vs Q E q h=>?_;obtain⟨a,t,r,Ad,ws,Aa,rfl,y,hN,wf,av,⟨hT,rA⟩,a1,N,q1,q2⟩:=h;have a7:=q.units;refine⟨_,(qA4 (qAG (i:=3) sc_never_paper.nd rfl (E2 rfl) (qAD qJQ rfl aa qAO (qA0 (qAT ad q rfl (qA0 (pv 0) (qA0 (pv 1) qA3))) qA3))) (qA4 (qAG (i:=4) sc_never_paper.nd rfl (E2 rfl) (qAT ae q rfl (qA0 (qAT an q rfl (qA0 (pv 0) (qA0 (pv 3) qA3))) (qA0 (pv 2) qA3)))) (qA4 (qBD (qCZ (qOX (qAT ar q rfl (qA0 (pv 4) (qA0 (qAT aq q rfl (qA0 (pv 3) (qA0 (pv 1) qA3))) qA3))))) (qA5 (qAE qFP)) qAM) (qA5 (qAE (qBN (qA0 (pv 3) (qA0 (qA9 (L2.G.call_sortedTD rfl a7) rfl ai qCE (qA0 (pv 4) qA3)) qA3)))))))),?_⟩
 try dsimp only[Cx.nox,Cx.wish,cxOf]
 refine cut λN0 ac=>?_;refine⟨_,rfl,_,rfl,a,t,r,Ad,rfl,hN,wf,by lia,hT,rA.in_,λla c H1 s1 au aj N'=>?_⟩
 have ew:=qH4 N' N;subst ew;refine⟨la,_,rfl,Ab2 aj,λp ob am oc od=>?_⟩;have s2:=s1.trans (qA2 am (.frz ob (.tup (c.map V.int))));have j:BareT (Ag H1 p (.frz ob (.tup (c.map V.int)))) p (c.map V.int):=⟨ob,qA1,oc,od⟩;generalize Ag H1 p (.frz ob (.tup (c.map V.int)))=H2 at s2 j ⊢;refine ac _ _ (cut λN1 ao=>?_);refine⟨_,rfl,_,rfl,a,p,r,c,rfl,hN.same s2,wf,by lia,(let⟨o,e,_⟩:=j;.inr ⟨o,e⟩),N.1,λb H3 s3 hB=>?_⟩
 have ak:=s2.trans s3;have lw:=N.1.len;have wp:WFn (qBW r c):=qD7 wf N.1;have lp:=qBV r c;have ha:∀x∈Ad,x∈c:=λx hx=>(N.2 x).mpr (.ask hx);have a9:=rA.len;have rW:=qKC N rA;have lW:=rW.len;refine⟨_,rfl,b,qBW r c,Aa,rfl,hB,wp,by lia,λd o Af ks fu gX H4 s4 ax gd a4 RC FR=>?_⟩
 have ent:=a4.ent;have a5:=ak.trans s4;have g:=(j.same s3).same s4;have lk:=RC.len;have pw:2^(qBW r c).length<=2^12:=L0 (by decide) (by lia)
 refine ao _ _ (cut λN2 al=>?_);refine⟨_,rfl,_,rfl,_,rfl,p,t,c,Ad,rfl,g,a5 _ _ hT,N.1.nodup,by lia,by lia,ha,λwt H5 s5 ap=>?_⟩
 have l:=a5.trans s5;refine⟨d,wt,o,Af,ks,fu,qDI c Ad,rfl,l _ _ y,s5 _ _ gd,ent.same s5,F4 lk (by lia),ap,by lia,λH6 s6=>⟨λhn=>?_,λrr st as ab a8 n=>?_⟩⟩
 ·have nd:=qZ8 N rA (qO8 wp rW RC hn);have a0:=l.trans s6;refine⟨_,rfl,iteF (al _ _ ?_)⟩;refine⟨_,rfl,_,rfl,d,o,Af,ks,rfl,s6 _ _ (s5 _ _ gd),ent.keys1,FR.2,λm k L a2 TA pm ag=>?_⟩;have s7:=qA2 a2 (.lst (k.map V.ref));have a3:(Ag H6 m (.lst (k.map V.ref))) m=some (.lst (k.map V.ref)):=qA1;have ah:H m=none:=a0.free a2;have a6:StL (Ag H6 m (.lst (k.map V.ref))) k L:=Paired.mapP TA λ_ _ z=>s7 _ _ z;generalize Ag H6 m (.lst (k.map V.ref))=H7 at s7 a3 a6 ⊢;refine⟨(by show 2<=B77;decide),λT v=>?_⟩
  have s8:=qA2 v (.tup [.ref p,.ref m]);have u:=a0.trans s7;exact q2 nd T p m k L _ (u.trans s8) (u.free v) ah ⟨qA1,(((g.same s5).same s6).same s7).same s8,s8 _ _ a3,a6.same s8⟩ (RC.nevP pm ag) (λz hz=>hn z (pm.mem_iff.mp hz)) (by rw[pm.length_eq];exact F4 lk (by lia))
 ·have dn:=qUS N rA (qO7 wp rW RC ab a8 n);refine⟨_,rfl,iteT ?_⟩;exact q1 dn _ (l.trans s6)
theorem sc_Lrising:FnScope ["_law_thing","_law_most","_law_one"] ["_law_thing","_law_most"] (qAB qG9):=qBT
theorem ok_Lrising (F:Fun K "_law_rising" "_law_rising" qG9 f fd) (e:mg "isinstance" = none) (ad:mg "tuple" = none) (aa:mg "int" = none) (ai:mg "bool" = none) (ac:mg "all" = none) (ag:mg "zip" = none):FnOk P w K mg base CX0 1 f fd ["_law_thing","_law_most"] qMV:=by
 refine F.okA sc_Lrising λap A ah s H vs Q E hr h=>?_;obtain⟨a,d,k,rfl,g,rz,hl,q⟩:=h;refine⟨_,(qA4 (qBD (qCQ (qBX (qA9 qF6 rfl e qAP (qA0 (pv 0) (qA0 (qC7 (v:=.ty "tuple") rfl ad qAO rfl) qA3))))) (qA5 (qAE qDD)) qAM) (qA4 (qBZ D5 rfl (qCT (pv 0)) (qAS (i:=2) sc_Lrising.nd rfl (E2 rfl)) (qA5 (qBD (PW.pt (qHW (qCQ (qBX (qA9 qF6 rfl e qAP (qA0 (pv 2) (qA0 (qC7 (v:=.ty "int") rfl aa qL2 rfl) qA3))))) (qHW (qBX (qA9 qF6 rfl e qAP (qA0 (pv 2) (qA0 (qC7 (v:=.ty "bool") rfl ai qPW rfl) qA3)))) (qGE (qCQ (qXD qcA qOY qA7 (pv 2) (pv 1))))))) (qA5 (qAE qDD)) qAM))) (qA5 (qAE (qA9 (qFM rfl) rfl ac qL3 (qA0 (qC9 rfl (lcs (own:=["_law_one","_law_other"]) (fv:=[]) (by kernel_rfl)) (qc4 rfl ag qcZ (qA0 (pv 0) (qA0 (qE6 qZX (pv 0) (qFV qA7) qFW) qA3))) (λz1=>qH2 (K:=K) (n:=2) rfl rfl (qAW (qBJ 0) (qAW (qBJ 1) qDA)) rfl rfl) (λz1=>qB0) (λz1=>(qDC qOY (pv 0) (pv 1) (qAY _)))) qA3)))))),?_⟩
 try dsimp only[Cx.nox,Cx.wish,cxOf]
 refine cut λN0 af=>?_;refine⟨_,rfl,_,"tuple",_,true,rfl,.inr ⟨a,_,rfl,g,rfl⟩,qZA true,_,rfl,?_⟩;refine af _ _ (cut λN1 ab=>?_);refine⟨_,rfl,a,rfl,⟨_,.inl g⟩,qG0 (a:=a) (xs:=d.map V.int) (λi σ Hc=>∃(v2:Option V),σ=[some (.ref a),some (.int k),v2]/\Hc=H)
  ⟨none,rfl,rfl⟩ ?_ ?_ ?_⟩
 ·refineλi σ Hc hi a3=>opq λao a2=>?_;obtain⟨v2,rfl,rfl⟩:=a3;refine a2 ?_;exact .inl g
 ·refineλi x σ Hc hx a8=>opq λaj a1=>?_;obtain⟨v2,rfl,rfl⟩:=a8;obtain⟨z,hz,rfl⟩:=qB1 hx;refine a1 ?_;have zb:=rz.in_ z (B5 hz);refine⟨_,rfl,_,"int",_,true,rfl,.inl (TyOf.int z),qUV,_,rfl,?_⟩;refine⟨_,rfl,_,"bool",_,false,rfl,.inl (TyOf.int z),qUW,_,rfl,?_⟩;refine iteF ?_;refine⟨_,rfl,_,_,rfl,rfl,_,rfl,?_⟩;rw[decide_eq_true zb.1];refine⟨_,rfl,_,_,rfl,rfl,_,rfl,?_⟩;rw[decide_eq_true zb.2];exact⟨_,rfl,rfl⟩
 ·refineλσ Hc a6=>opq λam a4=>?_;obtain⟨v2,rfl,rfl⟩:=a6;refine a4 ?_;refine ab _ _ ?_;refine⟨_,rfl,_,rfl,_,rfl,a,_,rfl,g,λt2 H2 t g2=>?_⟩;have t:Same _ H2:=t;have cut:cutV (d.map V.int) (some 1) none=(d.drop 1).map V.int:=by
   rw[qIA];cases d with
   |nil=>rfl
   |cons z r=>rw[show(1:Int)=((1:Nat):Int) from rfl,qNY _ _ (by simp)]
  rw[cut] at g2;refine⟨true,a,t2,rfl,⟨_,.inl (g.same t)⟩,⟨_,.inl g2⟩,λpz a5=>?_⟩;refine qaJ (p:=pz) (b:=true) (l:=a) (m:=t2) (xs:=d.map V.int) (ys:=(d.drop 1).map V.int) (by rw[A0,A0,G0];lia) (λj σ Hy=>∃(v1 v2:Option V),σ=[v1,v2]/\Same H2 Hy/\Hy pz=some (.lst ((D8 j true).map V.bl))) ?_ (λj σ Hy _ h=>?_) ?_ ?_
  ·exact⟨none,none,rfl,qA2 a5 _,qA1⟩
  ·obtain⟨_,_,_,o,_⟩:=h;exact⟨.inl ((g.same t).same o),.inl (g2.same o)⟩
  ·refineλj x y σ Hy T hx hy u ae=>opq λan a7=>?_;obtain⟨v1,v2,rfl,o,c⟩:=u;obtain⟨x1,e1,rfl⟩:=qB1 hx;obtain⟨y1,e2,rfl⟩:=qB1 hy;refine a7 ?_;rw[A02] at e2;obtain⟨i1,h1⟩:=A5.mp e1;obtain⟨i2,h2⟩:=A5.mp e2;have lt:x1<y1:=by
    have:=G3.mp rz.up j (1+j) i1 i2 (by lia)
    rw[h1,h2] at this;exact this
   have sT:=qA2 ae (.tup [.int x1,.int y1]);refine⟨T,_,rfl,Ac0 qA1,rfl,_,_,rfl,_,_,rfl,rfl,?_⟩;refine⟨_,rfl,_,rfl,_,_,rfl,rfl,?_⟩;dsimp only;rw[decide_eq_true lt];refine⟨_,sT _ _ c,qB6 (by rw[A0,X5];lia),_,_,rfl,qAA (o.trans sT) a5,?_⟩
   rw[qA1,A68,B3]
   rfl
  ·refineλσ Hy a0=>opq λak a9=>?_;obtain⟨v1,v2,rfl,o,c⟩:=a0;refine a9 ?_;refine⟨pz,_,rfl,Ab2 c,?_⟩;have al:((D8 ((d.drop 1).map V.int).length true).all id)=true:=K0.mpr λx hx=>by rw[(List.mem_replicate.mp hx).2];rfl
   rw[al];exact q _ (t.trans o)
theorem qN7 {k:List Key} :∀(ps:List (List Key×Addr×V)) (Af:List (List Key×V)),(valV (qBY Af ps) k).isSome=true↔(valV Af k).isSome=true\/k∈ps.map (·.1)
 |[],Af=>by simp[qBY]
 |q::ps,Af=>by
  show(valV (qBY (putK Af q.1 q.2.2) ps) k).isSome=true↔_;rw[qN7 ps,qHZ,C7,B7];by_cases e:k=q.1
  ·rw[if_pos e];simp[e]
  ·rw[if_neg e];simp[e]
theorem qQJ:∀(ps:List (List Key×Addr×V)) (Af:List (List Key×V)) (kv:List Key×V),kv∈qBY Af ps->kv.1∈Af.map (·.1)\/kv.1∈ps.map (·.1)
 |[],Af,kv,h=>.inl (t9 (f:=λx:List Key×V=>x.1) h)
 |q::ps,Af,kv,h=>by
  rcases qQJ ps (putK Af q.1 q.2.2) kv h with h|h
  ·obtain⟨x,hx,e⟩:=D4.mp h;unfold putK at hx
   split at hx
   ·obtain⟨y,hy,rfl⟩:=D4.mp hx;refine .inl ?_;rw[<- e];refine D4.mpr ⟨y,hy,?_⟩
    split<;>rfl
   ·rcases B0.mp hx with h|h
    ·exact .inl (D4.mpr ⟨x,h,e⟩)
    ·rw[A7.mp h] at e;exact .inr (by rw[<- e];exact F0)
  ·exact .inr (B9 _ h)
noncomputable def wanF (ws Ad:List Int):List Int:=(qBM 0 ws.length).filter λp=>decide ((ws[p.toNat]?).getD 0∈Ad)
theorem qWY {f Ad:List Int} (m:f.Nodup){x:Int}:x∈wanF f Ad↔x∈qDI f Ad:=by
 unfold wanF qDI;rw[E4,P2,mem_rangeI,decide_eq_true_eq]
 constructor
 ·refineλc=>opq λn b=>?_;obtain⟨p,h⟩:=c;refine b ?_;have e:=A4 (l:=f) (i:=x.toNat) (by lia)
  rw[e,Z5] at h;exact⟨_,h,by rw[qFE m e];congr 1;lia⟩
 ·refineλa=>opq λj d=>?_;obtain⟨y,k,e⟩:=a;obtain⟨o,g⟩:=qGF e;refine d ?_;have q:=(A5.mp g).1;exact⟨by lia,by rw[g];exact k⟩
theorem sc_Lis_never:FnScope ["_law_net_here","_law_asked_here","_law_rooms","_law_thing","_law_works","_law_stands","_law_wanted","_law_stand","_law_there","_law_part_here"] ["_law_net_here","_law_asked_here","_law_rooms","_law_thing"] (qAB qE5):=qBT
theorem ok_Lis_never (F:Fun K "_law_is_never" "_law_is_never" qE5 f fd) (av:Clb P w K mg base 1 qJL qSR "_law_rising" ["_law_thing","_law_most"] qMV) (br:Clb P w K mg base 1 qM6 qRI "_law_part" ["_law_net_here","_law_works"] qOH) (bo:Clb P w K mg base 2 qM4 qVI "_law_stays" ["_law_part_here","_law_rooms","_law_stand","_law_there"] qTF) (b6:mg "isinstance" = none) (bd:mg "tuple" = none) (bq:mg "list" = none) (qBI:mg "len" = none) (bu:mg "enumerate" = none) (bi:mg "dict" = none) (bc:mg "all" = none):FnOk P w K mg base CX0 3 f fd ["_law_net_here","_law_asked_here","_law_rooms","_law_thing"] qQ3:=by
 refine F.okA sc_Lis_never λce A bh s H vs Q E hr h=>?_;obtain⟨a,t,T,tw,l,Ae,u,c,Aa,rs,ss,rfl,hN,wf,cd,⟨hT,rA⟩,PN,rW,bx,l5,NV,q⟩:=h;have hu:=qH9 hr;have a3:=hr.units;have bp:=hr.units0;refine⟨_,(qA4 (qBD (PW.pt (qHW (qCQ (qBX (qA9 qAX rfl b6 qAP (qA0 (pv 3) (qA0 (qC7 (v:=.ty "tuple") rfl bd qAO rfl) qA3))))) (qHW (qAN qUE (qA9 qAC rfl qBI qBH (qA0 (pv 3) qA3)) qA7 (qAY _)) (qGE (qCQ (qBX (qAT av hr rfl (qA0 (qB7 qB9 (pv 3) qA7 (λ_ _=>rfl)) (qA0 (qA9 qAC rfl qBI qBH (qA0 (pv 0) qA3)) qA3))))))))) (qA5 (qAE qDD)) qAM) (qA4 (qKH (pv 3) (qKJ rfl (qAW (qAS (i:=4) sc_Lis_never.nd rfl (E2 rfl)) (qAW (qAS (i:=5) sc_Lis_never.nd rfl (E2 rfl)) qDA)))) (qA4 (qOT (i:=6) sc_Lis_never.nd rfl rfl rfl (lcs (own:=["_law_place","_law_work"]) (fv:=[1]) (by kernel_rfl)) (qQN rfl bu qCV (qA0 (pv 4) qA3)) (λz1=>qH2 (K:=K) (n:=2) rfl rfl (qAW (qBJ 0) (qAW (qBJ 1) qDA)) rfl rfl) (λz1=>(qDS (qAN (qKM (K:=K) rfl) (pv 1) (pv 2) (by with_unfolding_all rfl)))) (λz1=>(pv 0)) (by kernel_rfl)) (qA4 (qBD (PW.pt (qHW (qAN (qNB bp) (pv 6) (qBU qA3) (qAY _)) (qGE (qCQ (qBX (qA9 qAX rfl b6 qAP (qA0 (pv 5) (qA0 (qC7 (v:=.ty "list") rfl bq qJT rfl) qA3)))))))) (qA5 (qAE qDD)) qAM) (qA4 (qBZ D5 rfl (qCX (pv 5)) (qAS (i:=7) sc_Lis_never.nd rfl (q9 rfl)) (qA5 (qBD (PW.pt (qHW (qCQ (qBX (qAT av hr rfl (qA0 (pv 7) (qA0 (qA9 qAC rfl qBI qBH (qA0 (pv 4) qA3)) qA3))))) (qGE (qAN qXL (qA9 qAC rfl qBI qBH (qA0 (pv 7) qA3)) (pv 2) (qAY _))))) (qA5 (qAE qDD)) qAM))) (qA4 (qBD (qAN (qLT a3) (qBN qA3) (pv 5) (by with_unfolding_all rfl)) (qA5 (qAE qDD)) qAM) (qA4 (qAG (i:=8) sc_Lis_never.nd rfl (E2 rfl) (qAD (qSZ rfl a3) rfl bi qWC (qA0 (qC9 rfl (lcs (own:=["_law_stand"]) (fv:=[]) (by kernel_rfl)) (qCX (pv 5)) (λz2=>qBJ 0) (λz2=>qB0) (λz2=>(qBN (qA0 (pv 0) (qA0 qDD qA3))))) qA3))) (qA4 (qAG (i:=9) sc_Lis_never.nd rfl (E2 rfl) (qAT br hr rfl (qA0 (pv 0) (qA0 (pv 4) qA3)))) (qA4 (qBZ D5 rfl (qQO (qU7 (pv 8))) (qAS (i:=7) sc_Lis_never.nd rfl (q9 rfl)) (qA5 (qBD (PW.pt (qHW (qBX (qA9 (qFM rfl) rfl bc qL3 (qA0 (qC9 rfl (lcs (own:=["_law_place"]) (fv:=[7]) (by kernel_rfl)) (qCX (pv 6)) (λz3=>qBJ 0) (λz3=>qB0) (λz3=>(qDC (qKM (K:=K) rfl) (pv 0) (pv 1) (by with_unfolding_all rfl)))) qA3))) (qGE (qCQ (qBX (qAT bo hr rfl (qA0 (pv 9) (qA0 (pv 2) (qA0 (pv 7) (qA0 (pv 8) qA3)))))))))) (qA5 (qAE qDD)) qAM))) (qA5 (qAE qDD))))))))))),?_⟩
 try dsimp only[Cx.nox,Cx.wish,cxOf]
 obtain⟨ra,hA,NL⟩:=id hN;have c3:=C2 NL;have cg:=rW.len;have lA:=rA.len;have gT:=PN.tup;have gl:=PN.lst;have SL:=PN.at_;have be:rs.length=ss.length:=C2 SL;have a0:Rd H tw (.tup (c.map V.int)):=(let⟨o,e,_⟩:=PN.works;.inr ⟨o,e⟩)
 refine cut λN0 bf=>?_;refine⟨_,rfl,_,"tuple",_,true,rfl,TyOf.tup gT,qZA true,_,rfl,?_⟩;refine⟨_,rfl,T,_,rfl,.inr (Ac0 gT),rfl,_,rfl,?_⟩;rw[decide_eq_true (show V.int ((([V.ref tw,V.ref l].length:Nat)):Int)=V.int 2 from rfl)];refine⟨_,rfl,T,_,_,_,rfl,rfl,Ac0 gT,rfl,_,rfl,a,_,rfl,.inr (Ac0 hA),?_⟩;rw[A0,c3];refine⟨tw,c,_,rfl,a0,rW,by lia,λH1 s1=>⟨_,rfl,?_⟩⟩
 refine bf _ _ (cut λN1 bv=>?_);refine⟨_,rfl,T,_,rfl,Ac0 (s1 _ _ gT),rfl,_,_,rfl,_,_,rfl,rfl,?_⟩;refine bv _ _ (cut λN2 bn=>?_);refine⟨_,rfl,tw,rfl,⟨_,.inl (a0.same s1)⟩,λp hp=>?_⟩;refine qR7 (p:=p) (a:=tw) (xs:=c.map V.int) (λi σ d=>∃(v0 v1:Option V),σ=[v0,v1,some (.ref t)]/\Same H1 d/\d p=some (.lst ((((qBM 0 c.length).take i).filter λp=>decide ((c[p.toNat]?).getD 0∈u)).map V.int))) ?_ ?_ ?_ ?_
 ·exact⟨none,none,rfl,qA2 hp _,qA1⟩
 ·refineλi σ d hi ay=>opq λcc b8=>?_;obtain⟨v0,v1,rfl,sm,_⟩:=ay;refine b8 ?_;exact .inl ((a0.same s1).same sm)
 ·refineλi x σ d T2 hx am bg=>opq λcf b1=>?_;obtain⟨v0,v1,rfl,sm,c0⟩:=am;obtain⟨y,ey,rfl⟩:=qB1 hx;refine b1 ?_;have hi:=(A5.mp ey).1;have sT:=qA2 bg (.tup [.int (i:Int),.int y]);have af:=sm.trans sT;have ar:=sT _ _ c0;have lk:=qC1 (p:=λp=>decide ((c[p.toNat]?).getD 0∈u)) (l:=qBM 0 c.length) (i:=i);refine⟨T2,_,rfl,Ac0 qA1,rfl,_,_,rfl,_,_,rfl,rfl,?_⟩;refine⟨_,rfl,_,rfl,t,_,rfl,.inr (Ac0 (af _ _ (s1 _ _ hT))),rfl,qC0 u,_,rfl,?_⟩;rw[qDT,qCJ (qFU (by lia))]
  have ez:(c[((i:Int)).toNat]?).getD 0=y:=by rw[D9,ey];rfl
  rw[ez];by_cases hw:y∈u
  ·rw[decide_eq_true hw];refine⟨_,rfl,_,ar,qAH (by rw[A0];lia),_,_,rfl,qAA af hp,?_⟩
   rw[qA1,if_pos rfl,B3]
   rfl
  ·rw[decide_eq_false hw];refine⟨_,_,rfl,af,?_⟩;simpa using ar
 refineλσ H2 b2=>opq λcb b5=>?_;obtain⟨v0,v1,rfl,s2,gp⟩:=b2;refine b5 ?_;rw[A0,qBC (by rw[qDW];lia)] at gp
 have gp:H2 p=some (.lst ((wanF c u).map V.int)):=gp;have ag:∀x,x∈wanF c u↔x∈qDI c u:=λx=>qWY rW.nodup;have bt:(wanF c u).length<=12:=by
  have:(wanF c u).length<=(qBM 0 c.length).length:=P0 _ _;rw[qDW] at this
  lia
 have as:wanF c u≠[]:=λe=>by
  cases h:qDI c u with
  |nil=>exact bx h
  |cons x r=>
   have:=(ag x).mpr (by rw[h];exact F0)
   rw[e] at this;cases this
 generalize wanF c u=W at gp ag bt as;have S2:=s1.trans s2;refine bn _ _ (cut λN3 bw=>?_);refine⟨_,rfl,(by show 0<=B77;decide),λe3 ax=>?_⟩
 have S3:=S2.trans (qA2 ax (.lst []));have ae:=qA2 ax (.lst []) _ _ gp;have b3:(Ag H2 e3 (.lst [])) e3=some (.lst []):=qA1;generalize Ag H2 e3 (.lst [])=H3 at S3 ae b3 ⊢;refine⟨p,e3,_,rfl,rfl,Ab2 ae,Ab2 b3,_,rfl,?_⟩;have ef:(W.map V.int).isEmpty=false:=by cases W with|nil=>exact absurd rfl as|cons _ _=>rfl
 rw[ef];refine⟨_,rfl,_,"list",_,true,rfl,TyOf.lst (S3 _ _ gl),rfl,_,rfl,?_⟩;refine bw _ _ (cut λN4 c2=>?_);refine⟨_,rfl,l,rfl,⟨_,Ab2 (S3 _ _ gl)⟩,qLZ (a:=l) (xs:=rs.map V.ref) (λi σ d=>∃(v7:Option V),σ=[some (.ref a),some (.ref t),some (.int Aa),some (.ref T),some (.ref tw),some (.ref l),some (.ref p),v7,none,none]/\Same H3 d)
  ⟨none,rfl,.refl _⟩ (λi σ d _ hP=>by obtain⟨_,_,sc⟩:=hP;exact Ab2 (sc _ _ (S3 _ _ gl))) ?_ ?_⟩
 ·refineλi x σ d hx ba=>opq λca an=>?_;obtain⟨v7,rfl,sc⟩:=ba;obtain⟨r,er,rfl⟩:=qCI hx;obtain⟨z,ez,gz⟩:=qAU SL er;refine an ?_;have hz:=B5 ez;have rz:=NV.rise z hz;rw[qBV] at rz;have lz:=rz.len;have Sc:=S3.trans sc;refine⟨_,rfl,_,rfl,tw,_,rfl,.inr (.inl (a0.same Sc)),?_⟩;rw[A0];refine⟨r,z,_,rfl,.inl (Sc _ _ gz),rz,by lia,λH4 s4=>⟨_,rfl,?_⟩⟩
  refine⟨_,rfl,r,_,rfl,.inr (Ac0 (s4 _ _ (Sc _ _ gz))),_,rfl,_,_,rfl,rfl,_,rfl,?_⟩;rw[A0,decide_eq_false (by have:=NV.few z hz;lia)]
  exact⟨_,rfl,sc.trans s4⟩
 refineλσ H4 ap=>opq λci b4=>?_;obtain⟨v7,rfl,s4⟩:=ap;refine b4 ?_;have S4:=S3.trans s4;refine c2 _ _ (cut λN5 bj=>?_);refine⟨(by show 0<=B77;decide),λe5 bm=>?_⟩
 have s5:=qA2 bm (.tup []);have S5:=S4.trans s5;have b7:(Ag H4 e5 (.tup [])) e5=some (.tup (([]:List Int).map V.int)):=qA1;have aq:=s5 _ _ (s4 _ _ ae);generalize Ag H4 e5 (.tup [])=H5 at S5 b7 aq ⊢;refine⟨_,rfl,e5,l,[],rs,ss,rfl,rfl,b7,Ab2 (S5 _ _ gl),SL.same S5,_,rfl,?_⟩;rw[decide_eq_false (λh=>h NV.nil)];refine bj _ _ (cut λN6 bb=>?_);refine⟨_,rfl,l,rfl,⟨_,Ab2 (S5 _ _ gl)⟩,λpq aw=>?_⟩;refine qEW (p:=pq) (a:=l) (xs:=rs.map V.ref) (λi σ d=>∃(v:Option V) (qs:List Addr) (ps:List (List Key×Addr×V)),σ=[v]/\Same H5 d/\d pq=some (.lst (qs.map V.ref))/\qQT d K qs ps/\ps.map (·.1)=(ss.take i).map keyS) ?_ ?_ ?_ ?_
 ·exact⟨none,[],[],rfl,qA2 aw _,qA1,.nil,rfl⟩
 ·rintro i σ d hi ⟨v,qs,ps,rfl,sm,_⟩;exact Ab2 (sm _ _ (S5 _ _ gl))
 ·refineλi x σ d hx b9=>opq λch au=>?_;obtain⟨v,qs,ps,rfl,sm,gq,PT,kp⟩:=b9;obtain⟨r,er,rfl⟩:=qCI hx;obtain⟨z,ez,gz⟩:=qAU SL er;refine au ?_;have hi:=(A5.mp ez).1;have lq:qs.length<=i:=by
   have h1:=C2 PT;have h2:=congrArg V6 kp;rw[A0,A0,C5] at h2
   lia
  refine⟨_,rfl,(by show 2<=B77;decide),λtp c1=>?_⟩
  have sT:=qA2 c1 (.tup [.ref r,.bl true]);have ah:=sT _ _ gq;refine⟨_,ah,qB6 (by rw[A0];lia),?_⟩
  rw[qB2];have m:∀{b:Addr} {xs:List V},(Ag d tp (.tup [.ref r,.bl true])) b=some (.tup xs)->(Ag (Ag d tp (.tup [.ref r,.bl true])) pq (.lst ((qs++[tp]).map V.ref))) b=some (.tup xs):=λ{b xs} e=>by rw[qA8 (qCA e ah (λz=>nomatch z))];exact e
  have Sz:=(S5.trans sm) _ _ gz;refine⟨_,qs++[tp],ps++[(keyS z,r,.bl true)],rfl,qAA (sm.trans sT) aw,qA1,R9 (Paired.mapP PT λr' q' e=>⟨?_,m (sT _ _ e.2)⟩) ⟨Ac0 (m qA1),by rw[qDE];exact m (sT _ _ Sz)⟩,?_⟩
  ·rcases e.1 with h|h
   ·refine .inl ?_;rcases h with h|⟨oo,h⟩
    ·exact .inl (m (sT _ _ h))
    ·exact .inr ⟨oo,by rw[qA8 (qCA (sT _ _ h) ah (λz=>nomatch z))];exact sT _ _ h⟩
   ·exact .inr h
  ·rw[B3,kp,C9,ez,D2,B3]
   rfl
 refineλσ H6 a5=>opq λc9 a9=>?_;obtain⟨v,qs,ps,rfl,s6,gq,PT,kp⟩:=a5;refine a9 ?_;rw[A0,be,P6] at kp;have S6:=S5.trans s6;refine⟨pq,qs,ps,rfl,Ab2 gq,PT,λg b0=>?_⟩;have s7:=qA2 b0 (.dT (qBY [] ps));have g7:(Ag H6 g (.dT (qBY [] ps))) g=some (.dT (qBY [] ps)):=qA1;have S7:=S6.trans s7;have bk:H g=none:=S6.free b0;have a2:=s7 _ _ (s6 _ _ aq);have vk:∀z:List Int,(valV (qBY [] ps) (keyS z)).isSome=true↔z∈ss:=λz=>by
  rw[qN7,kp]
  constructor
  ·rintro(h|h)
   ·simp[valV] at h
   ·obtain⟨y,hy,e⟩:=D4.mp h;rw[<- qI7 e];exact hy
  ·exactλh=>.inr (t9 h)
 have kk:∀kv∈qBY [] ps,∃z∈ss,kv.1=keyS z:=λkv a6=>by
  rcases qQJ ps [] kv a6 with h|h
  ·cases h
  ·rw[kp] at h;obtain⟨z,hz,e⟩:=D4.mp h;exact⟨z,hz,e.symm⟩
 generalize qBY [] ps=Af at s7 g7 S7 a2 vk kk;generalize Ag H6 g (.dT Af)=H7 at s7 g7 S7 a2 ⊢;have bz:p≠g:=qCA a2 g7 (by intro z;cases z)
 refine bb _ _ (cut λN7 bs=>?_);refine⟨_,rfl,_,rfl,true,a,tw,Ae,c,rfl,hN.same S7,wf,by lia,a0.same S7,rW,λb H8 s8 hB=>?_⟩
 have S8:=S7.trans s8;refine bs _ _ (cut λN8 c4=>?_);refine⟨_,rfl,g,_,rfl,s8 _ _ g7,λo=>⟨g,o,_,rfl,qA1,?_⟩⟩;have S9:Same H (Ag H8 g (.frz o (.dT Af))):=qAA S8 bk;have g9:(Ag H8 g (.frz o (.dT Af))) g=some (.frz o (.dT Af)):=qA1;have ad:(Ag H8 g (.frz o (.dT Af))) p=some (.lst (W.map V.int)):=by rw[qA8 bz];exact s8 _ _ a2
 have ao:NetAt (Ag H8 g (.frz o (.dT Af))) b (qBW Ae c):=by
  obtain⟨rb,e1,e2⟩:=hB;have g8:=s8 _ _ g7;exact⟨rb,by rw[qA8 (qCA e1 g8 (λz=>nomatch z))];exact e1,Paired.mapP e2 λr z e=>by rw[qA8 (qCA e g8 (λz=>nomatch z))];exact e⟩
 generalize Ag H8 g (.frz o (.dT Af))=H9 at S9 g9 ad ao ⊢;refine qSN (a:=g) (o:=o) (Af:=Af) (λi σ He=>∃(v7:Option V),σ=[some (.ref a),some (.ref t),some (.int Aa),some (.ref T),some (.ref tw),some (.ref l),some (.ref p),v7,some (.ref g),some (.ref b)]/\Same H9 He)
  ⟨_,rfl,.refl _⟩ (λi σ He _ ⟨_,_,z⟩=>z _ _ g9) ?_ ?_
 ·refineλi k v r σ He a6 gr ab=>opq λc5 a4=>?_;obtain⟨v7,rfl,se⟩:=ab;obtain⟨z,hz,e⟩:=kk _ (B5 a6);refine a4 ?_;have e:k=keyS z:=e;subst e;rw[qDE] at gr;have rz:=NV.rise z hz;have lz:=rz.len;refine⟨_,rfl,p,rfl,⟨_,Ab2 (se _ _ ad)⟩,λpa az=>?_⟩;refine qEW (p:=pa) (a:=p) (xs:=W.map V.int) (λj σ Hf=>∃(v:Option V),σ=[v,some (.ref r)]/\Same He Hf/\Hf pa=some (.lst (((W.take j).map λx=>decide (x∈z)).map V.bl))) ?_ ?_ ?_ ?_
  ·exact⟨none,rfl,qA2 az _,qA1⟩
  ·rintro j σ Hf hj ⟨v,rfl,sf,_⟩;exact Ab2 (sf _ _ (se _ _ ad))
  ·refineλj x σ Hf hx ak=>opq λc7 a8=>?_;obtain⟨v,rfl,sf,a1⟩:=ak;obtain⟨y,ey,rfl⟩:=qB1 hx;refine a8 ?_;have hj:=(A5.mp ey).1;refine⟨_,rfl,_,rfl,r,_,rfl,.inr (Ac0 (sf _ _ gr)),rfl,qC0 z,_,a1,qB6 (by rw[A0,A0,C5];lia),_,rfl,qAA sf az,?_⟩
   rw[qA1,C9,ey,D2,B3,B3,qDT]
   rfl
  refineλσ Hf ai=>opq λc8 ac=>?_;obtain⟨v,rfl,sf,a1⟩:=ai;refine ac ?_;rw[A0,P6] at a1;refine⟨pa,_,rfl,Ab2 a1,?_⟩;have al:((W.map λx=>decide (x∈z)).all id)=false:=by
   rw[F7];intro h;refine NV.no z hz λx hx=>?_;have:=K0.mp h (decide (x∈z)) (D4.mpr ⟨x,(ag x).mpr hx,rfl⟩);exact of_decide_eq_true this
  rw[al];refine⟨_,rfl,?_⟩;have aa:=se.trans sf;refine⟨_,rfl,_,rfl,_,rfl,_,rfl,b,r,g,o,qBW Ae c,Aa,z,ss,Af,rfl,ao.same aa,qD7 wf rW,by rw[qBV];lia,sf _ _ gr,rz,aa _ _ g9,λy hy=>(vk y).mpr hy,NV.shut z hz,λHg sg=>⟨_,rfl,?_⟩⟩
  exact⟨_,rfl,aa.trans sg⟩
 ·refineλσ He a7=>opq λc6 aj=>?_;obtain⟨v7,rfl,se⟩:=a7;refine aj ?_;exact c4 _ _ (q _ (S9.trans se))
theorem qLY {n:Nat} (h:n<=1000):n<=B77:=F4 h (by decide)
theorem nmA {c:TT} {t u:TS} {D:Ends} {σ:St} {H:Hp} (h:∀Z:Bool->Hp->Prop,(∀H',t D σ H'->Z true H')->(∀H',u D σ H'->Z false H')->c σ H Z):tIfS c t u D σ H:=h _ (λ_ x=>iteT x) λ_ x=>iteF x
theorem sc_Llike:FnScope ["_law_state","_law_net_here","_law_at","_law_way","_law_needs"] ["_law_state","_law_net_here"] (qAB qLL):=qBT
theorem ok_Llike (F:Fun K "_law_like" "_law_like" qLL f fd) (qBB:Clb P w K mg base 1 qF2 qFK "_law_take" ["_law_state","_law_many"] qIL) (qBI:mg "len" = none) (a1:mg "tuple" = none) (aj:mg "sorted" = none) (aq:mg "set" = none):FnOk P w K mg base CX0 2 f fd ["_law_state","_law_net_here"] qYT:=by
 refine F.okA sc_Llike λbh A aw s H vs Q E hr h=>?_;obtain⟨d,c,a,t,ns,Ae,rfl,S,tb,hN,wf,n1,n8,q⟩:=h;have bk:t<=1000000000-100:=tb;refine⟨_,(qA4 (qAG (i:=2) sc_Llike.nd rfl (q9 rfl) (qAT qBB hr rfl (qA0 (pv 0) (qA0 (qA9 qAC rfl qBI qBH (qA0 (pv 1) qA3)) qA3)))) (qA4 (qAG (i:=3) sc_Llike.nd rfl (E2 rfl) (qAT qBB hr rfl (qA0 (pv 0) (qA0 qA7 qA3)))) (qA4 (qAG (i:=4) sc_Llike.nd rfl (E2 rfl) (qB7 qB9 (pv 1) (pv 2) (λ_ _=>rfl))) (qA4 (qBD (PW.pt (qTT (qAN qET (pv 3) qA7 (qAY _)) (qOR (qAN qXL (pv 2) qA7 (qAY _))))) (qA5 (qAG (i:=4) sc_Llike.nd rfl (E2 rfl) (qAD qAF rfl a1 qAO (qA0 (qA9 (qCU rfl) rfl aj qCE (qA0 (qAD (qSX rfl) rfl aq qO2 (qA0 (qAR qLU (pv 4) (qBN (qA0 (qAT qBB hr rfl (qA0 (pv 0) (qA0 (pv 2) qA3))) qA3))) qA3)) qA3)) qA3)))) (qA5 (qBD (qAN qET (pv 3) qA7 (qAY _)) (qA5 (qAG (i:=4) sc_Llike.nd rfl (E2 rfl) (qE6 qZW (pv 4) (qFV qA7) qFW))) (qA5 (qBD (qAN qET (pv 3) qA7 (qAY _)) (qA5 (qAE (qAR qLU (pv 1) (qBN (qA0 (qAD qAF rfl a1 qAO (qA0 (qA9 (qCU rfl) rfl aj qCE (qA0 (qAD (qGW rfl) rfl aq qO2 (qA0 (qBU (qA0 (pv 2) (qA0 (qAT qBB hr rfl (qA0 (pv 0) (qA0 (qA9 qAC rfl qBI qBH (qA0 (pv 1) qA3)) qA3))) qA3))) qA3)) qA3)) qA3)) qA3))))) (qA5 (qAE (qAD qAF rfl a1 qAO (qA0 (qC9 rfl (lcs (own:=["_law_some"]) (fv:=[2]) (by kernel_rfl)) (qCT (pv 1)) (λz1=>qBJ 0) (λz1=>qB0) (λz1=>(qAD (qEE (K:=K) rfl) rfl a1 qAO (qA0 (qC9 (X:=lcCx _ _ _ _ z1) rfl (lcs (own:=["_law_need"]) (fv:=[1]) (by kernel_rfl)) (qLQ (K:=K) rfl (pv 0)) (λz2=>qBJ 0) (λz2=>(qDS (qAN qUE (pv 0) (pv 1) (qAY _)))) (λz2=>(pv 0))) qA3)))) qA3))))))))) (qA5 (qAE (qAR qLU (qAR qLU (qE6 qQD (pv 1) qFW (qFV (pv 2))) (qBN (qA0 (pv 4) qA3))) (qE6 qQD (pv 1) (qFV (qAR qEH (pv 2) qA7)) qFW)))))))),?_⟩
 try dsimp only[Cx.nox,Cx.wish,cxOf]
 refine cut λN0 as=>?_;obtain⟨rs,hA,NL⟩:=id hN;have l:(((rs.map V.ref).length:Nat):Int)=(Ae.length:Int):=by rw[A0,C2 NL]
 refine⟨_,rfl,_,rfl,a,_,rfl,.inr (Ac0 hA),d,c,t,ns,_,rfl,S,(by show t<=1000000000;lia),by rw[l];lia,by rw[l];lia,λk b6 H1 k0 k1 S1 K1=>?_⟩
 rw[l] at k1;obtain⟨j,rfl⟩:=A33 k0;have hj:j<Ae.length:=by lia
 refine as _ _ (cut λN1 b8=>?_);refine⟨_,rfl,d,c,t+1,b6,4,rfl,S1,(by show t+1<=1000000000;lia),by decide,by decide,λb7 a2 H2 w0 w1 S2 K2=>?_⟩
 have a3:=K1.trans K2;have hB:=hN.keep S a3;clear l hA NL rs;obtain⟨rs,hA,NL⟩:=id hB;have ae:=C2 NL;have a4:=A4 (show j<rs.length by lia)
 obtain⟨u,ez,gr⟩:=qAU NL a4;generalize rs[j]=r at a4 gr;have rz:=wf j _ ez;have lz:=rz.len;have l:(((rs.map V.ref).length:Nat):Int)=(Ae.length:Int):=by rw[A0,ae]
 refine b8 _ _ (cut λN2 b4=>?_);refine⟨_,rfl,_,rfl,a,_,_,_,rfl,rfl,Ac0 hA,qDZ (x:=.ref r) k0 (by show(rs.map V.ref)[j]?=_;rw[B6,a4];rfl),?_⟩
 refine b4 _ _ (cut λN3 b9=>?_);have ag:∀(r2:Addr) (u:List Int) (t':Int) (ns':List Int) (H':Hp),StAt H' d c t' ns'->t<=t'->t'<=t+10->Keep d c H2 H'->H' r2=some (.tup (u.map V.int))->Rise (j:Int) u->N3 [some (.ref d),some (.ref a),some (.int (j:Int)),some (.int b7),some (.ref r2)] H':=λr2 u t' ns' H' S' b1 b2 K' g2 ay=>by
  have ap:=K' _ _ hA (S2.tup hA).1 (S2.tup hA).2;have ax:=NL.keep (λr u e=>S2.tup e) K';refine b9 _ _ ?_;refine⟨_,rfl,_,rfl,_,rfl,a,_,rfl,Ac0 ap,λz=>by have:=z.2;rw[HT.sIx_nat,A0] at this;lia,λp1 n=>?_⟩
  rw[qb1];have s1:=qA2 n (.tup ((rs.map V.ref).take j));refine⟨_,rfl,(by show 1<=B77;decide),λp2 a7=>?_⟩
  have s2:=qA2 a7 (.tup [.ref r2]);refine⟨p1,p2,_,_,rfl,rfl,s2 _ _ qA1,qA1,qLY (by rw[C5,A0];show _+1<=_;lia),λp3 H3 s3 g3=>?_⟩
  have a0:=(s1.trans s2).trans s3;refine⟨_,rfl,_,rfl,_,_,rfl,rfl,_,rfl,a,_,rfl,Ac0 (a0 _ _ ap),λz=>by have:=z.1;rw[show(j:Int)+1=((j+1:Nat):Int) by lia,HT.sIx_nat,A0] at this;lia,λp4 ba=>?_⟩
  rw[show(j:Int)+1=((j+1:Nat):Int) by lia,qNX]
  have s4:=qA2 ba (.tup ((rs.map V.ref).drop (j+1)));refine⟨p3,p4,_,_,rfl,rfl,s4 _ _ g3,qA1,qLY (by rw[A8,C5,G0,A0];show _+1+_<=_;lia),λp5 H5 s5 g5=>?_⟩
  have g:=(a0.trans s4).trans s5;have am:=ax.same λr u e=>g _ _ e;refine q p5 (Ae.take j++[u]++Ae.drop (j+1)) t' ns' H5 (S'.same g) b1 b2 ((a3.trans K').trans (.of_same g)) ⟨rs.take j++[r2]++rs.drop (j+1),?_,?_⟩ (wf.put hj ay) ?_ ?_
  ·rw[g5,B3,B3,B65,A99]
   rfl
  ·exact Paired.app (Paired.app (qIX j am) (.cons (g _ _ g2) .nil)) (qIY (j+1) am)
  ·rw[A8,A8,C5,G0];show 1<=_+1+_;lia
  ·rw[A8,A8,C5,G0];show _+1+_<=_;lia
 refine nmA λZ bc bd=>?_;have af:Z false H2:=by
  refine bd _ ?_;refine⟨_,rfl,rfl,_,rfl,?_⟩;refine ite2 (λ_=>?_) (λ_=>?_)
  ·refine⟨_,rfl,_,rfl,r,_,rfl,gr,λp H3 s3 g3=>?_⟩;rw[show(1:Int)=((1:Nat):Int) from rfl,qNX,<- A99] at g3;exact ag p _ (t+1+1) a2 H3 (S2.same s3) (by lia) (by lia) (.of_same s3) g3 (rz.sub (V4 _ _))
  refine⟨_,rfl,rfl,_,rfl,?_⟩;refine ite2 (λ_=>?_) (λ_=>?_)
  ·refine⟨_,rfl,_,rfl,_,rfl,_,rfl,a,_,rfl,.inr (Ac0 hA),d,c,t+1+1,a2,_,rfl,S2,(by show t+1+1<=1000000000;lia),by rw[l];lia,by rw[l];lia,λk2 a5 H3 b0 b1 S3 K3=>?_⟩
   rw[l] at b1;refine⟨(by show 2<=B77;decide),λp1 n=>?_⟩
   have s1:=qA2 n (.lst [.int (j:Int),.int k2]);refine⟨p1,[(j:Int),k2],rfl,Ab2 qA1,(by show 2<=4000;decide),λe he=>?_⟩
   have s2:=qA2 he (SetM w e (dedI [(j:Int),k2]));refine⟨e,dedI [(j:Int),k2],rfl,qA1,λb o hb a8 hs=>?_⟩;have s3:=qA2 hb (.lst (o.map V.int));refine⟨b,_,rfl,.inl ⟨Ab2 qA1,λr3 a9=>?_⟩⟩;have s4:=qA2 a9 (.tup (o.map V.int));refine⟨(by show 1<=B77;decide),λp5 au=>?_⟩
   have s5:=qA2 au (.tup [.ref r3]);have be:=((s1.trans s2).trans s3).trans s4;have g:=be.trans s5;have b3:=K3 _ _ hA (S2.tup hA).1 (S2.tup hA).2;refine⟨a,p5,_,_,rfl,rfl,g _ _ b3,qA1,qLY (by rw[A0];show _+1<=_;lia),λp6 H6 s6 g6=>?_⟩
   have a6:=g.trans s6;have b5:=(NL.keep (λr u e=>S2.tup e) K3).same λr u e=>a6 _ _ e;refine q p6 (Ae++[o]) (t+1+1+1) a5 H6 (S3.same a6) (by lia) (by lia) ((a3.trans K3).trans (.of_same a6)) ⟨rs++[r3],?_,?_⟩ (wf.snoc (qGD a8 hs ?_)) ?_ ?_
   ·rw[g6,B3]
    rfl
   ·exact Paired.app b5 (.cons (s6 _ _ (s5 _ _ qA1)) .nil)
   ·intro x hx;rcases B7.mp hx with rfl|hx
    ·lia
    ·rw[A7.mp hx];lia
   ·rw[A8];show 1<=_+1;lia
   ·rw[A8];show _+1<=_;lia
  ·refine⟨_,rfl,a,rfl,⟨_,Ac0 hA⟩,λp hp=>?_⟩;refine qDL (p:=p) (a:=a) (xs:=rs.map V.ref) (λi σ Hc=>∃(v:Option V) (qs:List Addr),σ=[v,some (.int (j:Int))]/\Same H2 Hc/\Hc p=some (.lst (qs.map V.ref))/\NetL Hc qs ((Ae.take i).map λns=>ns.filter λx=>decide (x≠(j:Int)))) ?_ ?_ ?_ ?_
   ·exact⟨none,[],rfl,qA2 hp _,qA1,.nil⟩
   ·rintro i σ Hc hi ⟨v,qs,rfl,sm,_⟩;exact Ac0 (sm _ _ hA)
   ·refineλi x σ Hc hx ah=>opq λbj ac=>?_;obtain⟨v,qs,rfl,sm,aa,NQ⟩:=ah;obtain⟨rx,bb,rfl⟩:=qCI hx;obtain⟨o,ey,gy⟩:=qAU NL bb;refine ac ?_;have hi:=(A5.mp ey).1;have bl:qs.length=i:=by rw[C2 NQ,A0,C5];lia
    have ly:=(wf i _ ey).len;refine⟨_,rfl,rx,rfl,⟨_,Ac0 (sm _ _ gy)⟩,λp1 n=>?_⟩;refine qDL (p:=p1) (a:=rx) (xs:=o.map V.int) (λm σ Hd=>∃(v1:Option V),σ=[v1,some (.int (j:Int))]/\Same Hc Hd/\Hd p1=some (.lst (((o.take m).filter λx=>decide (x≠(j:Int))).map V.int))) ?_ ?_ ?_ ?_
    ·exact⟨none,rfl,qA2 n _,qA1⟩
    ·rintro m σ Hd hm ⟨v1,rfl,sd,_⟩;exact Ac0 (sd _ _ (sm _ _ gy))
    ·refineλm x σ Hd hx ab=>opq λbi ak=>?_;obtain⟨v1,rfl,sd,hq⟩:=ab;obtain⟨y,ar,rfl⟩:=qB1 hx;refine ak ?_;have hm:=(A5.mp ar).1;refine⟨_,rfl,_,rfl,rfl,_,rfl,?_⟩;have el:o.take (m+1)=o.take m++[y]:=by rw[C9,ar];rfl
     have lf:((o.take m).filter λx=>decide (x≠(j:Int))).length<=m:=F4 (P0 _ _) (by rw[C5];lia)
     refine ite2 (λcy=>?_) (λcy=>?_)
     ·have cy:y≠(j:Int):=λz=>by rw[z] at cy;simp at cy
      refine⟨_,rfl,_,hq,qB6 (by rw[A0];lia),_,rfl,qAA sd n,?_⟩
      rw[qA1,el,c9,List.filter_cons_of_pos (by simpa using cy),B3]
      rfl
     ·have cy:y=(j:Int):=Decidable.byContradiction λz=>cy (by simpa using z)
      refine⟨_,rfl,sd,?_⟩;rw[hq,el,c9,List.filter_cons_of_neg (by simpa using cy),B43,P3]
    ·refineλσ Hd an=>opq λbg ao=>?_;obtain⟨v1,rfl,sd,hq⟩:=an;refine ao ?_;rw[A0,P6] at hq;refine⟨p1,_,rfl,.inl ⟨Ab2 hq,λp3 az=>?_⟩⟩;have s3:=qA2 az (.tup ((o.filter λx=>decide (x≠(j:Int))).map V.int));have a0:=sd.trans s3;have g1:=a0 _ _ aa;refine⟨_,g1,qB6 (by rw[A0];lia),?_⟩
     rw[qB2];refine⟨_,qs++[p3],rfl,qAA (sm.trans a0) hp,qA1,?_⟩;have et:(Ae.take (i+1)).map (λns=>ns.filter λx=>decide (x≠(j:Int)))=(Ae.take i).map (λns=>ns.filter λx=>decide (x≠(j:Int)))++[o.filter λx=>decide (x≠(j:Int))]:=by
      rw[C9,ey,D2,B3]
      rfl
     rw[et];exact qD4 (qCC (NQ.same λr' o e=>a0 _ _ e) qA1) g1
   ·refineλσ Hc al=>opq λbf ad=>?_;obtain⟨v,qs,rfl,sm,aa,NQ⟩:=al;refine ad ?_;rw[A0,ae,P6] at NQ;refine⟨p,_,rfl,.inl ⟨Ab2 aa,λp2 a7=>?_⟩⟩;have s2:=qA2 a7 (.tup (qs.map V.ref));have ai:=sm.trans s2;refine q p2 _ (t+1+1) a2 _ (S2.same ai) (by lia) (by lia) (a3.trans (.of_same ai)) ⟨qs,qA1,NQ.same λr u e=>s2 _ _ e⟩ wf.less ?_ ?_
    ·rw[A0];lia
    ·rw[A0];lia
 refine⟨_,rfl,rfl,_,rfl,?_⟩;refine ite2 (λ_=>?_) (λ_=>af);refine⟨_,rfl,_,_,rfl,rfl,_,rfl,?_⟩;by_cases c0:0<(j:Int)
 ·rw[decide_eq_true c0];refine bc _ ?_;refine⟨_,rfl,_,rfl,_,rfl,d,c,t+1+1,a2,_,rfl,S2,(by show t+1+1<=1000000000;lia),by lia,by lia,λx a5 H3 x0 x1 S3 K3=>?_⟩
  refine⟨(by show 1<=B77;decide),λp1 n=>?_⟩
  have s1:=qA2 n (.tup [.int x]);have av:=s1 _ _ (K3 _ _ gr (S2.tup gr).1 (S2.tup gr).2);refine⟨r,p1,_,_,rfl,rfl,av,qA1,qLY (by rw[A0];show _+1<=_;lia),λp2 H4 s2 g2=>?_⟩
  have g2:H4 p2=some (.tup ((u++[x]).map V.int)):=by rw[g2,B3];rfl
  refine⟨p2,u++[x],rfl,Ac0 g2,by rw[A8];show _+1<=_;lia,λe he=>?_⟩
  have s3:=qA2 he (SetM w e (dedI (u++[x])));refine⟨e,dedI (u++[x]),rfl,qA1,λb o hb a8 hs=>?_⟩;have s4:=qA2 hb (.lst (o.map V.int));refine⟨b,_,rfl,.inl ⟨Ab2 qA1,λr3 a9=>?_⟩⟩;have s5:=qA2 a9 (.tup (o.map V.int));have g:=(((s1.trans s2).trans s3).trans s4).trans s5;refine ag r3 o (t+1+1+1) a5 _ (S3.same g) (by lia) (by lia) (K3.trans (.of_same g)) qA1 (qGD a8 hs λy hy=>?_)
  rcases B0.mp hy with hy|hy
  ·exact rz.in_ y hy
  ·rw[A7.mp hy];lia
 ·rw[decide_eq_false c0];exact af
theorem sc_Lright:FnScope ["_law_case","_law_net_here","_law_asked_here","_law_least_here","_law_found","_law_told"] ["_law_case"] (qAB qI3):=qBT
theorem ok_Lright (F:Fun K "_law_right" "_law_right" qI3 f fd) (o:Clb P w K mg base 5 qE9 qK6 "never_paper" ["net","asked","rooms"] (qQ5 Pt)) (a6:Clb P w K mg base 3 qG2 qNS "_law_is_never" ["_law_net_here","_law_asked_here","_law_rooms","_law_thing"] qQ3) (ac:Clb P w K mg base 5 qM2 qVH "fewest" ["net","asked"] (qYV Pt)) (ad:Clb P w K mg base 3 qPN qYD "_law_does" ["_law_net_here","_law_rooms","_law_plan","_law_asked_here"] qTI) (aa:Clb P w K mg base 1 qPL qYB "_law_same" ["_law_found","_law_due"] qTG):FnOk P w K mg base CX0 6 f fd ["_law_case"] (qMW Pt):=by
 refine F.okA sc_Lright λap A a9 s H vs Q E u h=>?_;obtain⟨cr,rfl,b,⟨a,t,v,g,ws,ae,gc,z,n,c,⟨hT,m⟩,a1,N,LR,ar⟩,q⟩:=h;refine⟨_,(qA4 (qKH (pv 0) (qKJ rfl (qAW (qAS (i:=1) sc_Lright.nd rfl (E2 rfl)) (qAW (qAS (i:=2) sc_Lright.nd rfl (E2 rfl)) (qAW (qAS (i:=3) sc_Lright.nd rfl (E2 rfl)) qDA))))) (qA4 (qAG (i:=4) sc_Lright.nd rfl (E2 rfl) (qAT ac u rfl (qA0 (pv 1) (qA0 (pv 2) qA3)))) (qA4 (qBD (PW.pt (qHW (qCQ (qBX (qAT aa u rfl (qA0 (qB7 qB9 (pv 4) qA7 (λ_ _=>rfl)) (qA0 (pv 3) qA3))))) (qGE (qCQ (qBX (qAT ad u rfl (qA0 (pv 1) (qA0 (pv 3) (qA0 (qB7 qB9 (pv 4) qA7 (λ_ _=>rfl)) (qA0 (pv 2) qA3)))))))))) (qA5 (qAE qDD)) qAM) (qA4 (qCW (qUA F2 A34 A35 qR3 (qB7 qB9 (pv 4) qA7 (λ_ _=>rfl)))) (qA4 (qBD (qAN qET (pv 3) qA7 (qAY _)) (qA5 (qAE (qQQ (qHM (qAT o u rfl (qA0 (pv 1) (qA0 (pv 2) (qA0 qA7 qA3)))))))) qAM) (qA4 (qAG (i:=5) sc_Lright.nd rfl (E2 rfl) (qAT o u rfl (qA0 (pv 1) (qA0 (pv 2) (qA0 (qAR qD0 (pv 3) qA7) qA3))))) (qA4 (qBD (qCQ (qBX (qAT a6 u rfl (qA0 (pv 1) (qA0 (pv 2) (qA0 (qAR qD0 (pv 3) qA7) (qA0 (pv 5) qA3))))))) (qA5 (qAE qDD)) qAM) (qA4 (qCW (qUA F2 A34 A35 qR3 (qB7 qB9 (pv 5) qA7 (λ_ _=>rfl)))) (qA5 (qAE (qQQ (qHM (qAT o u rfl (qA0 (pv 1) (qA0 (pv 2) (qA0 (pv 3) qA3)))))))))))))))),?_⟩
 try dsimp only[Cx.nox,Cx.wish,cxOf]
 have la:g.length<=1000:=by have:=m.len;lia
 have ha:∀x∈g,x∈ws:=λx hx=>(N.2 x).mpr (.ask hx);have aj:qDI ws g≠[]:=λe=>by
  cases g with
  |nil=>simp at a1
  |cons x r=>
   obtain⟨j,hj⟩:=M9 (ha x F0);unfold qDI at e;rw[O5,qFE N.1.nodup hj] at e;cases e
 have lw:=N.1.len;refine cut λN0 a7=>?_;refine⟨_,rfl,cr,_,rfl,Ac0 gc,rfl,_,_,rfl,_,_,rfl,_,_,rfl,rfl,?_⟩;refine a7 _ _ (cut λN1 ah=>?_);refine⟨_,rfl,_,rfl,a,t,v,g,rfl,b,z,n,c,⟨hT,m⟩,a1,λT l r ms H1 s1 FO fl PL gT=>?_⟩;have er:=LeastR.one (FO.lr N) LR;subst er;have r1:=LR.1;obtain⟨a2,run,a4,mv,an⟩:=FO.run n m c;refine ah _ _ (cut λN2 af=>?_);refine⟨_,rfl,T,_,_,_,rfl,rfl,Ac0 gT,rfl,_,rfl,r,rfl,λH2 s2=>⟨_,rfl,?_⟩⟩;have S2:=s1.trans s2;have p:=s2 _ _ gT;have PI:PlayIn2 H2 a l v ms r:=⟨z.same S2,n,by lia,PL.same s2,by lia,mv,by lia,by lia⟩
 refine⟨_,rfl,_,rfl,_,rfl,T,_,_,_,rfl,rfl,Ac0 p,rfl,_,rfl,a,l,t,v,ms,r,g,a2,rfl,PI,run,S2 _ _ hT,la,a4,λH3 s3=>⟨_,rfl,?_⟩⟩;have S3:=S2.trans s3;have a3:=s3 _ _ p;obtain⟨ps,k,_⟩:=(PL.same s2).same s3;refine af _ _ (cut λN3 ai=>?_);refine⟨_,rfl,T,_,_,_,rfl,rfl,Ac0 a3,rfl,.inl ⟨rfl,_,Ab2 k⟩,l,_,rfl,rfl,k,?_⟩;have d:Same H (Ag H3 l (.lst [])):=qAA S3 fl;generalize Ag H3 l (.lst [])=H4 at d ⊢;clear PI a3 k s3 S3 p S2 s2 gT PL;refine ai _ _ (cut λN4 al=>?_);refine⟨_,rfl,rfl,_,rfl,?_⟩;refine ite2 (λy=>?_) (λy=>?_)
 ·have y:r=1:=by injection of_decide_eq_true y
  subst y;refine⟨_,rfl,_,rfl,a,t,v,g,ws,1,rfl,d _ _ b,z.same d,n,c,⟨d _ _ hT,m⟩,a1,N,λ_ H5 s5=>q _ (d.trans s5),λnd=>absurd LR.2.1 nd⟩
 have y:r≠1:=λe=>y (by rw[e];exact decide_eq_true rfl)
 refine al _ _ (cut λN5 ab=>?_);have nl:=LR.2.2 (r-1) (by lia) (by lia)
 refine⟨_,rfl,_,rfl,_,rfl,_,_,rfl,rfl,a,t,v,g,ws,r-1,rfl,d _ _ b,z.same d,n,c,⟨d _ _ hT,m⟩,a1,N,λdn=>absurd dn nl,λnd T2 tw l2 rs ss H5 s5 aq am PN NP no ao=>?_⟩;have S5:=d.trans s5;have NV:=NP.nev (by lia) no
 refine ab _ _ (cut λN6 a5=>?_);refine⟨_,rfl,_,rfl,_,rfl,_,_,rfl,rfl,_,rfl,a,t,T2,tw,l2,v,g,ws,r-1,rs,ss,rfl,z.same S5,n,c,⟨S5 _ _ hT,m⟩,PN,N.1,aj,by lia,NV,λH6 s6=>⟨_,rfl,?_⟩⟩
 have S6:=S5.trans s6;have a0:=s6 _ _ PN.lst;have a8:=s6 _ _ PN.tup;have ak:H l2=none:=d.free am;refine a5 _ _ (cut λN7 ag=>?_);refine⟨_,rfl,T2,_,_,_,rfl,rfl,Ac0 a8,rfl,.inl ⟨rfl,_,Ab2 a0⟩,l2,_,rfl,rfl,a0,?_⟩;have S7:Same H (Ag H6 l2 (.lst [])):=qAA S6 ak;generalize Ag H6 l2 (.lst [])=H7 at S7 ⊢;refine ag _ _ ?_;refine⟨_,rfl,_,rfl,_,rfl,a,t,v,g,ws,r,rfl,S7 _ _ b,z.same S7,n,c,⟨S7 _ _ hT,m⟩,a1,N,λ_ H8 s8=>q _ (S7.trans s8),λnd=>absurd LR.2.1 nd⟩
theorem qdC {a b:Addr} {i:Nat} {x:V} (h:[V.ref a,V.ref b,V.ref a][i]?=some x):x=.ref a\/x=.ref b:=by
 match i,h with
 |0,h=>cases h;exact .inl rfl
 |1,h=>cases h;exact .inr rfl
 |2,h=>cases h;exact .inl rfl
 |i+3,h=>simp at h
theorem sc_law:FnScope ["_law_script","_law_state","_law_one","_law_other","_law_cases","_law_net_here","_law_asked_here","_law_turn"] ["_law_script"] (qAB qK3):=qBT
theorem ok_law (F:Fun K "law" "law" qK3 f fd) (qID:Clb P w K mg base 1 qM8 qVL "_law_begin" ["_law_script"] (qTK K)) (qBB:Clb P w K mg base 1 qF2 qFK "_law_take" ["_law_state","_law_many"] qIL) (qRV:Clb P w K mg base 3 qVN qaU "_law_net" ["_law_state","_law_many"] qbP) (qMK:Clb P w K mg base 2 qPM qYC "_law_like" ["_law_state","_law_net_here"] qYT) (qIE:Clb P w K mg base 2 qM9 qVM "_law_asked" ["_law_state","_law_net_here"] qTL) (qIC:Clb P w K mg base 3 qM7 qVK "_law_least" ["_law_net_here","_law_asked_here"] qQ7) (qIB:Clb P w K mg base 6 qM5 qVJ "_law_right" ["_law_case"] (qMW Pt)) (qBI:mg "len" = none) (qAZ:mg "range" = none):FnOk P w K mg base CX0 7 f fd ["_law_script"] (qQ8 K Pt):=by
 refine F.okA sc_law λbf A av s H vs Q E hr h=>?_;obtain⟨aj,sc,ns,rfl,hS,as,q⟩:=h;refine⟨_,(qA4 (qAG (i:=1) sc_law.nd rfl (E2 rfl) (qAT qID hr rfl (qA0 (pv 0) qA3))) (qA4 (qAG (i:=2) sc_law.nd rfl (E2 rfl) (qAT qRV hr rfl (qA0 (pv 1) (qA0 (qAR qEH qA7 (qAT qBB hr rfl (qA0 (pv 1) (qA0 qA7 qA3)))) qA3)))) (qA4 (qAG (i:=3) sc_law.nd rfl (E2 rfl) (qAT qMK hr rfl (qA0 (pv 1) (qA0 (pv 2) qA3)))) (qA4 (qAG (i:=4) sc_law.nd rfl (E2 rfl) (qBU qA3)) (qA4 (qBZ D5 rfl (qCT (qBN (qA0 (pv 2) (qA0 (pv 3) (qA0 (pv 2) qA3))))) (qAS (i:=5) sc_law.nd rfl (E2 rfl)) (qA4 (qAG (i:=6) sc_law.nd rfl (E2 rfl) (qAT qIE hr rfl (qA0 (pv 1) (qA0 (pv 5) qA3)))) (qA5 (qCW (qLS F2 G8 G9 qC3 (pv 4) (qA0 (qBN (qA0 (pv 5) (qA0 (pv 6) (qA0 (qAT qIC hr rfl (qA0 (pv 5) (qA0 (pv 6) qA3))) qA3)))) qA3)))))) (qA4 (qBZ D5 rfl (qB8 rfl qAZ (qA0 qA7 qA3)) (qAS (i:=7) sc_law.nd rfl (E2 rfl)) (qA5 (qBD (qCQ (qBX (qAT qIB hr rfl (qA0 (qB7 qCD (pv 4) (qAT qBB hr rfl (qA0 (pv 1) (qA0 (qA9 qAC rfl qBI qBH (qA0 (pv 4) qA3)) qA3))) (λ_ _=>rfl)) qA3)))) (qA5 (qAE qDD)) qAM))) (qA5 (qAE qDD)))))))),?_⟩
 try dsimp only[Cx.nox,Cx.wish,cxOf]
 refine cut λN0 au=>?_;refine⟨_,rfl,sc,ns,rfl,hS,as,λd c ms H1 S1 b5 bj bg=>?_⟩;have ad:TabB H1 Pt:=b5 _ _ aj;have a5:Pt≠d:=qCA ad S1.dict (by intro z;cases z)
 have a3:Pt≠c:=qCA ad S1.list (by intro z;cases z)
 refine au _ _ (cut λN1 b6=>?_);refine⟨_,rfl,_,rfl,d,c,0,ms,7,rfl,S1,(by show(0:Int)<=1000000000;decide),by decide,by decide,λk b2 H2 a0 a1 S2 K2=>?_⟩
 refine⟨_,_,rfl,rfl,d,c,0+1,b2,_,rfl,S2,(by show(0:Int)+1<=1000000000-10000;decide),by lia,by lia,λa Ae t2 b8 H3 S3 g1 g2 K3 hN wf nk=>?_⟩
 refine b6 _ _ (cut λN2 b4=>?_);refine⟨_,rfl,_,rfl,d,c,a,t2,b8,Ae,rfl,S3,(by show t2<=1000000000-100;lia),hN,wf,by lia,by lia,λb ap t3 ay H4 S4 g3 g4 K4 hM b9 m1 m9=>?_⟩
 have l1:1<=Ae.length:=by lia
 have l7:Ae.length<=9:=by lia
 have bd:=hN.keep S3 K4;have bb:TabB H4 Pt:=K4 _ _ (K3 _ _ (K2 _ _ ad a5 a3) a5 a3) a5 a3;refine b4 _ _ (cut λN3 b7=>?_);refine⟨(by show 0<=B77;decide),λu a6=>?_⟩
 have s5:=qA2 a6 (.lst []);have g:u≠d/\u≠c:=⟨(qA6 S4.dict a6).symm,(qA6 S4.list a6).symm⟩;have g5:(Ag H4 u (.lst [])) u=some (.lst (([]:List Addr).map V.ref)):=qA1;generalize Ag H4 u (.lst [])=H5 at s5 g5 ⊢;refine b7 _ _ (cut λN4 ar=>?_);refine⟨_,rfl,_,rfl,_,rfl,(by show 3<=B77;decide),λtp ba=>?_⟩
 have s6:=qA2 ba (.tup [.ref a,.ref b,.ref a]);have g6:(Ag H5 tp (.tup [.ref a,.ref b,.ref a])) tp=some (.tup [.ref a,.ref b,.ref a]):=qA1;have al:=s6 _ _ g5;have a9:=s5.trans s6;generalize Ag H5 tp (.tup [.ref a,.ref b,.ref a])=H6 at s6 g6 al a9 ⊢;refine⟨tp,rfl,⟨_,Ac0 g6⟩,qG0 (a:=tp) (xs:=[.ref a,.ref b,.ref a]) (λi σ Hc=>∃(t:Int) (ms:List Int) (cs:List Addr) (v5 v6:Option V),σ=[some (.ref sc),some (.ref d),some (.ref a),some (.ref b),some (.ref u),v5,v6,none]/\StAt Hc d c t ms/\t<=1000+20*i/\Keep d c H4 Hc/\Hc tp=some (.tup [.ref a,.ref b,.ref a])/\Hc u=some (.lst (cs.map V.ref))/\cs.length=i/\∀r∈cs,CaseAt Hc r)
  ⟨t3,ay,[],none,none,rfl,S4.same a9,by lia,.of_same a9,g6,al,rfl,λr hr=>nomatch hr⟩ (by rintro i σ Hc _ ⟨_,_,_,_,_,_,_,_,_,z,_⟩;exact Ac0 z) ?_ ?_⟩
 ·refineλi x σ Hc hx ah=>opq λbh am=>?_;obtain⟨t,ms,cs,v5,v6,rfl,S7,tb,K7,aa,ab,a4,ae⟩:=ah;refine am ?_;have i3:i<3:=(A5.mp hx).1;obtain⟨y,nt,rfl,hY,wy,y1,y9⟩:∃(y:Addr) (nt:Aa0),x=.ref y/\NetAt H4 y nt/\WFn nt/\1<=nt.length/\nt.length<=9:=(qdC hx).elim (λe=>⟨a,Ae,e,bd,wf,l1,l7⟩) λe=>⟨b,ap,e,hM,b9,m1,m9⟩;refine cut λM0 ax=>?_;refine⟨_,rfl,_,rfl,d,c,t,ms,y,nt,rfl,S7,(by show t<=1000000000-100;lia),hY.keep S4 K7,wy,y1,by lia,λta Ad t8 b3 H8 S8 u1 u2 K8 hW rA a1=>?_⟩
  obtain⟨ws,N⟩:=qUI wy rA;obtain⟨r,LR,bl⟩:=qXS wy N a1;have ai:=hY.keep S4 (K7.trans K8);have v:=K8 _ _ ab g.1 g.2;refine ax _ _ ?_;refine⟨_,rfl,.inl ⟨rfl,_,Ab2 v⟩,_,rfl,_,rfl,_,rfl,_,rfl,y,ta,nt,Ad,ws,r,rfl,ai,wy,by lia,⟨hW,rA⟩,N,LR,λH9 s9=>?_⟩
  refine⟨(by show 3<=B77;decide),λT hT=>?_⟩
  have a7:=qA2 hT (.tup [.ref y,.ref ta,.int r]);have s8:=s9.trans a7;have l:=s8 _ _ v;have cT:CaseAt (Ag H9 T (.tup [.ref y,.ref ta,.int r])) T:=⟨y,ta,nt,Ad,ws,r,qA1,ai.same s8,wy,by lia,⟨s8 _ _ hW,rA⟩,a1,N,LR,by have:=N.1.len;lia⟩
  have a8:Keep d c Hc (Ag H9 T (.tup [.ref y,.ref ta,.int r])):=K8.trans (.of_same s8);have p:=S8.same s8;generalize Ag H9 T (.tup [.ref y,.ref ta,.int r])=ac at l cT a8 p ⊢;refine⟨u,_,_,rfl,rfl,l,qB6 (by rw[A0];lia),?_⟩
  rw[qB2];have ao:tp≠d/\tp≠c:=S7.tup aa;have a2:=a8 _ _ aa ao.1 ao.2;have put:∀r,CaseAt ac r->CaseAt (Ag ac u (.lst ((cs++[T]).map V.ref))) r:=λr h=>h.put l λxs z=>by cases z
  refine⟨t8,b3,cs++[T],_,_,rfl,⟨by rw[qA8 (F5 g.1)];exact p.dict,by rw[qA8 (F5 g.2)];exact p.list,p.ne,p.len,p.pos⟩,by lia,λz o e n m=>?_,?_,qA1,by rw[A8,a4];rfl,λr hr=>?_⟩
  ·rw[qA8 (qA6 e a6)];exact a8 _ _ (K7 _ _ e n m) n m
  ·rw[qA8 (qCA a2 l λz=>nomatch z)];exact a2
  ·rcases B0.mp hr with hr|hr
   ·exact put r ((ae r hr).keep S7 a8)
   ·rw[A7.mp hr];exact put T cT
 ·refineλσ Hc ak=>opq λbi ag=>?_;obtain⟨t,ms,cs,v5,v6,rfl,S7,tb,K7,aa,ab,a4,ae⟩:=ak;refine ag ?_;have bc:TabB Hc Pt:=K7 _ _ bb a5 a3;have l3:cs.length=3:=a4;refine ar _ _ ?_;refine⟨6,rfl,by decide,by decide,qE0 (lo:=0) (n:=6) (λi σ Hd=>∃(t:Int) (ms:List Int) (v7:Option V),σ=[some (.ref sc),some (.ref d),some (.ref a),some (.ref b),some (.ref u),v5,v6,v7]/\StAt Hd d c t ms/\t<=2000+i/\Keep d c Hc Hd)
   ⟨t,ms,none,rfl,S7,by lia,λ_ _ e _ _=>e⟩ ?_ ?_⟩
  ·refineλi σ Hd hi an=>opq λbe aq=>?_;obtain⟨t',aw,v7,rfl,S8,bk,K8⟩:=an;refine aq ?_;have v:=K8 _ _ ab g.1 g.2;refine⟨_,rfl,_,rfl,_,rfl,u,_,rfl,.inl (Ab2 v),d,c,t',aw,_,rfl,S8,(by show t'<=1000000000;lia),by rw[A0,l3];decide,by rw[A0,l3];decide,λk az H9 b0 b1 S9 K9=>?_⟩
   rw[A0,l3] at b1;obtain⟨j,rfl⟩:=A33 b0;have hj:=A4 (show j<cs.length by lia)
   have af:=K8.trans K9;refine⟨u,_,_,_,rfl,rfl,Ab2 (K9 _ _ v g.1 g.2),qDZ (x:=.ref cs[j]) b0 (by show(cs.map V.ref)[j]?=_;rw[B6,hj];rfl),?_⟩
   refine⟨cs[j],rfl,af _ _ bc a5 a3,(ae _ (T4 _)).keep S7 af,λac a7=>⟨_,rfl,?_⟩⟩;exact⟨t'+1,az,_,rfl,S9.same a7,by lia,af.trans (.of_same a7)⟩
  ·rintro σ Hd _;exact q Hd
end
theorem all_mk {l:PySem.W.OpenLaw} {K:Ab1} {h:Heap} {mg:Ab0} {fa y n bb ab aj a8 ah p aw f bc aq ap av o ae bg bf b8 am b2 b4 ba ad b0 a6 ak ac al b5 a9 ag a5 q b9 a4 aa d:Addr} (X:K.In h) (G:h.Ns B89 mg) (z:mg "law" = some (.ref fa))
  {a7 an ar g:Option Addr} {b7 a1:Array (Option Value)} {x ao t b6 a0 ax m k j b i:Value}
  {qED qG4:Addr}
  (T_all_needed:Tf K "all_needed" qDK y)
  (T_renumbered:Tf K "renumbered" qDJ n)
  (T_part_net:Tf K "part_net" qF8 bb)
  (T_fault_of_do:Tf K "fault_of_do" qD2 ab)
  (T_fault_of:Tf K "fault_of" qFA aj)
  (T_stand_behind:Tf K "stand_behind" qCK a8)
  (T_has_all:Tf K "has_all" qG8 ah)
  (T_moves_of:Tf K "moves_of" qF9 p)
  (T_stands_reached:Tf K "stands_reached" qAI aw)
  (as:A05 K B89 "best_end" = some (some (.ref f))) (r:K.lookup f=some ⟨x,a7,.func (R5 "best_end" "best_end" (qEC qCG) (qBF qCG) (qAB qCG) .none ao t b6 an (.ref qED) a0),b7⟩) (au:k5 K (.ref qED) "best_end" = true) (a3:R3 K (.ref f)=true)
  (T_plan_to:Tf K "plan_to" qG7 bc)
  (T_part_numbers:Tf K "part_numbers" qCL aq)
  (T_fewest:Tf K "fewest" qI1 ap)
  (T_never_paper:Tf K "never_paper" qD1 av)
  (T_Lbegin:Tf K "_law_begin" qI5 o)
  (T_Ltake:Tf K "_law_take" qLI ae)
  (T_Lsame:Tf K "_law_same" qLJ bg)
  (T_Lsome_needs:Tf K "_law_some_needs" qD3 bf)
  (T_Ltree_net:Tf K "_law_tree_net" qE4 b8)
  (T_Lnet:Tf K "_law_net" qQE am)
  (T_Lasked:Tf K "_law_asked" qI6 b2)
  (T_Lneeded:Tf K "_law_needed" qGB b4)
  (T_Lword:Tf K "_law_word" qLH ba)
  (T_Lbehind:Tf K "_law_behind" qGC ad)
  (T_Lplayed:Tf K "_law_played" qGA b0)
  (T_Ldoes:Tf K "_law_does" qLM a6)
  (T_Lis_move:Tf K "_law_is_move" qFB ak)
  (T_Lcome:Tf K "_law_come" qLN ac)
  (T_Lpart:Tf K "_law_part" qLK al)
  (T_Lbits:Tf K "_law_bits" qLO b5)
  (T_Ldone_in:Tf K "_law_done_in" qFC a9)
  (T_Lleast:Tf K "_law_least" qI4 ag)
  (T_Lrising:Tf K "_law_rising" qG9 a5)
  (T_Lstays:Tf K "_law_stays" qI2 q)
  (T_Lis_never:Tf K "_law_is_never" qE5 b9)
  (T_Llike:Tf K "_law_like" qLL a4)
  (T_Lright:Tf K "_law_right" qI3 aa)
  (ay:A05 K B89 "law" = some (some (.ref d))) (ai:K.lookup d=some ⟨ax,ar,.func (R5 "law" "law" (qEC qK3) (qBF qK3) (qAB qK3) .none m k j g b i),a1⟩) (be:k5 K b "law" = true) (af:R3 K (.ref d)=true)
  (qE7:hdIn K qED qG4=true)
  (Z:Zs K ["all","any","bool","dict","divmod","enumerate","int","isinstance","len","list","max","min","range","set","sorted","str","sum","tuple","zip"])
  : ∃fd:B98,(∀(s:Shared) (v:Value),BindsTo s fd ⟨[v],[]⟩ [("_law_script",v)])/\∀base:Heap,K.In base->base.Ns B89 mg->BM mg base->FnOk l.prog w K mg base CX0 7 fa fd ["_law_script"] (qQ8 K qG4):=by
 have e:=z.symm.trans (A98 X G ay);cases e;have a:=fun_mk (st:=qCG) r au a3;have a2:=a.binds (ps:=["reached","asked"]) λ_ _ _ _ _ _ us hl=>us2 us hl (λ_ _=>rfl);have u:=A98 X G as;have bd:=fun_mk (st:=qK3) ai be af;obtain⟨bm,cj,bh,bq,br,ci,c3,bo,b3,bk,c5,b1,az,cp,bv,c8,bz,c6,co,_⟩:=Z.mg X G;refine⟨R5 "law" "law" (qEC qK3) (qBF qK3) (qAB qK3) .none m k j g b i,λs v=>.of_eq rfl,λbase _ _ hBM=>?_⟩;have B:Bs l.prog w base:=⟨rfl,rfl,rfl⟩;obtain⟨_,bp⟩:=T_all_needed.c X G B λ_ F=>by apply ok_all_needed<;>assumption
 obtain⟨_,bw⟩:=T_renumbered.c X G B λ_ F=>by apply ok_renumbered<;>assumption
 obtain⟨_,cb⟩:=T_part_net.c X G B λ_ F=>by apply ok_part_net<;>assumption
 obtain⟨_,bn⟩:=T_fault_of_do.c X G B λ_ F=>by apply ok_fault_of_do<;>assumption
 obtain⟨_,cq⟩:=T_fault_of.c X G B λ_ F=>by apply ok_fault_of<;>assumption
 obtain⟨_,c4⟩:=T_stand_behind.c X G B λ_ F=>by apply ok_stand_behind<;>assumption
 obtain⟨_,qGX⟩:=T_has_all.c X G B λ_ F=>by apply ok_has_all<;>assumption
 obtain⟨_,bj⟩:=T_moves_of.c X G B λ_ F=>by apply ok_moves_of<;>assumption
 obtain⟨_,bs⟩:=T_stands_reached.c X G B λ_ F=>by apply ok_stands_reached<;>assumption
 have cn:=Clb.mk (ok_best_end (P:=l.prog) (w:=w) (mg:=mg) (base:=base) (F:=a) (qGX:=qGX) (qMM:=b1) (hcd:=rfl) (hBM:=hBM) (qE7:=qE7)) a2 a.kp u;obtain⟨_,cc⟩:=T_plan_to.c X G B λ_ F=>by apply ok_plan_to<;>assumption
 obtain⟨_,ck⟩:=T_part_numbers.c X G B λ_ F=>by apply ok_part_numbers<;>assumption
 obtain⟨_,bx⟩:=T_fewest.c X G B λ_ F=>by apply ok_fewest<;>assumption
 obtain⟨_,cd⟩:=T_never_paper.c X G B λ_ F=>by apply ok_never_paper<;>assumption
 obtain⟨_,qID⟩:=T_Lbegin.c X G B λ_ F=>by apply ok_Lbegin<;>assumption
 obtain⟨_,qBB⟩:=T_Ltake.c X G B λ_ F=>by apply ok_Ltake<;>assumption
 obtain⟨_,bt⟩:=T_Lsame.c X G B λ_ F=>by apply ok_Lsame<;>assumption
 obtain⟨_,bu⟩:=T_Lsome_needs.c X G B λ_ F=>by apply ok_Lsome_needs<;>assumption
 obtain⟨_,cl⟩:=T_Ltree_net.c X G B λ_ F=>by apply ok_Ltree_net<;>assumption
 obtain⟨_,qRV⟩:=T_Lnet.c X G B λ_ F=>by apply ok_Lnet<;>assumption
 obtain⟨_,qIE⟩:=T_Lasked.c X G B λ_ F=>by apply ok_Lasked<;>assumption
 obtain⟨_,cg⟩:=T_Lneeded.c X G B λ_ F=>by apply ok_Lneeded<;>assumption
 obtain⟨_,ch⟩:=T_Lword.c X G B λ_ F=>by apply ok_Lword<;>assumption
 obtain⟨_,cf⟩:=T_Lbehind.c X G B λ_ F=>by apply ok_Lbehind<;>assumption
 obtain⟨_,cm⟩:=T_Lplayed.c X G B λ_ F=>by apply ok_Lplayed<;>assumption
 obtain⟨_,c1⟩:=T_Lis_move.c X G B λ_ F=>by apply ok_Lis_move<;>assumption
 obtain⟨_,c2⟩:=T_Ldoes.c X G B λ_ F=>by apply ok_Ldoes<;>assumption
 obtain⟨_,ca⟩:=T_Lcome.c X G B λ_ F=>by apply ok_Lcome<;>assumption
 obtain⟨_,c9⟩:=T_Lpart.c X G B λ_ F=>by apply ok_Lpart<;>assumption
 obtain⟨_,bl⟩:=T_Lbits.c X G B λ_ F=>by apply ok_Lbits<;>assumption
 obtain⟨_,ce⟩:=T_Ldone_in.c X G B λ_ F=>by apply ok_Ldone_in<;>assumption
 obtain⟨_,qIC⟩:=T_Lleast.c X G B λ_ F=>by apply ok_Lleast<;>assumption
 obtain⟨_,c0⟩:=T_Lrising.c X G B λ_ F=>by apply ok_Lrising<;>assumption
 obtain⟨_,c7⟩:=T_Lstays.c X G B λ_ F=>by apply ok_Lstays<;>assumption
 obtain⟨_,bi⟩:=T_Lis_never.c X G B λ_ F=>by apply ok_Lis_never<;>assumption
 obtain⟨_,qMK⟩:=T_Llike.c X G B λ_ F=>by apply ok_Llike<;>assumption
 obtain⟨_,qIB⟩:=T_Lright.c X G B λ_ F=>by apply ok_Lright<;>assumption
 exact ok_law (P:=l.prog) (w:=w) (mg:=mg) (base:=base) (F:=bd) (qID:=qID) (qRV:=qRV) (qBB:=qBB) (qMK:=qMK) (qIE:=qIE) (qIC:=qIC) (qIB:=qIB) (qBI:=b3) (qAZ:=az)
noncomputable def qZR:List LTab:=[⟨"best_end",71,69,"best_end.<locals>.<lambda>"⟩]
theorem walk {l:PySem.W.OpenLaw} {b:List Str} {XP:(Ab0)->Heap->Prop} {YP:World->Heap->Prop} {d:DefRec} {K:Params->Ab1} (v:l.most=some 63)(j:d.params.defaults=[])
  (y:∀(w:World) (h:Heap),YP w h->(K w.params).In h)
  (i:∀t∈qZR,((PyProof.Rows.recsOf q).find? λe=>e.name==t.x).isSome=true) (g:∀(w:World),∀t∈qZR,B63 (K w.params) t.x=some (t.c,t.P)) (o:∀w:World,A76 (K w.params)=true)
  (F:∀ (w:World) (mg:Ab0) (fa:Addr) (h:Heap),(K w.params).In h->h.Ns B89 mg->mg d.name=some (.ref fa)->
   ∃fd:B98,(∀(s:Shared) (u:Value),BindsTo s fd ⟨[u],[]⟩ [("_law_script",u)])/\∀base:Heap,(K w.params).In base->base.Ns B89 mg->BM mg base->FnOk l.prog w (K w.params) mg base CX0 7 fa fd ["_law_script"] (qQ8 (K w.params) 69)):
  PySem.W.WalkO q b XP YP l.row.toRowW d [] (λf vs=>B52 f vs):=
 L2.walk_ofT (n:=63) (k:=7) (x:="_law_script") (sp:=λw=>qQ8 (K w.params) 69) qZR v (by decide) j ⟨rfl,by decide,by decide,rfl⟩ y i g o (λt h t' r _=>by rw[A7.mp h,A7.mp r]) F λ_ _ a z p m hS=>⟨m _ F0,a,z,rfl,hS,p,λ_=>rfl⟩
end Fw
open PySem PySem.W PyProof.Rows
set_option maxRecDepth 100000 in
set_option maxHeartbeats 0 in
theorem PySem.Challenge.cw_fewrooms_k34_fewest_by_turns_holds : PySem.Challenge.rw_fewrooms_k34_fewest_by_turns.Holds := by
 w_on;refine holds_law Fw.hpSaid λsaid=>?_
 refine holds_open (q:=Fw.hpQ) (Xt:=Fw.hpX) (XP:=XL Fw.hpQ []) (YP:=(kHook Fw.hpK Fw.hpA Fw.hpE).says)
  Fw.hpLeft (kHook Fw.hpK Fw.hpA Fw.hpE).of (kHook Fw.hpK Fw.hpA Fw.hpE).keeps (λs e=>xl_of s (A71.mp e).1) XL.keeps
  (by rfl) (by rfl) (by rfl) (λs e=>recFacts_of (A71.mp e).2) (by rfl)
  (by first|assumption|decide +kernel) (by decide +kernel) ⟨rfl,rfl,rfl,rfl,rfl,by decide +kernel⟩ ?hw ?hc
 case hw=>w_witness2
 k_fill
 refine Fw.walk (l:=PySem.Challenge.rw_fewrooms_k34_fewest_by_turns) rfl rfl (λw h Y=>PySem.W.kIn_of Y) ?hrec ?htab ?hK ?F
 case hrec=>intro t ht;rw[A7.mp ht];kernel_rfl
 case htab=>intro w t ht;rw[A7.mp ht];kernel_rfl
 case hK=>intro w;kernel_rfl
 case F=>
  intro w mg fa h KX G hmg;refine' Fw.all_mk (qED:=71) (qG4:=69) KX G hmg ?_ ?_ ?_ ?_ ?_ ?_ ?_ ?_ ?_ ?_ ?_ ?_ ?_ ?_ ?_ ?_ ?_ ?_ ?_ ?_ ?_ ?_ ?_ ?_ ?_ ?_ ?_ ?_ ?_ ?_ ?_ ?_ ?_ ?_ ?_ ?_ ?_ ?_ ?_ ?_ ?_ ?_ ?_ ?_ ?_ ?_
  any_goals first|exact⟨by k_is,_,L2.fun_mk (by k_is) (by k_is) (by k_is)⟩|k_is|kernel_rfl
  any_goals (repeat (refine⟨by k_is,?_⟩))
  any_goals exact trivial

