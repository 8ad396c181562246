import PyProof.Rows.All
import Wide.All
import OpenK.AllK
import Wide.FinOn
import Lean
import PyProof.EqAt
import PyProof.EqKinds
import PyProof.TupleCall
import PySem.Challenge.RW_fewrooms_k39_bounds_by_cuts
noncomputable section
set_option compiler.extract_closed false
set_option bootstrap.genMatcherCode false
open PySem.W renaming Frag→Ab1
abbrev Aa0:=List (List Int)
abbrev Aa1:=PySem.Value->PySem.Shared->Prop
abbrev Aa2:=List (PySem.Addr × PySem.Obj)
abbrev Ab0:=PySem.Str->Option PySem.Value
open PyProof.Rows renaming wpS_bind→B91,wpS_pure→B92,pendingOf→B93,wpS_forRange→C05,IntsAre→C06,wpS_modify→C10,pairsOf→C11,wpS_mono→C17,SortKind→C25,wpS_get→C33,listUpdate_at→C45,AllBare→C46,seqEpoch_at→C56,reverseSlice'_eq→C61
open PySem renaming wpAny_bind→B87,wpAny_pure→B88,sizeLine→B89,Program→B90,sizeLine_eq→B94,starEach→B95,wpAny_mono→B96,bootBuiltins→B97,wpAny_newObj_type→B98,wpAny_field→B99,wpAny_holding→C00,mainGlobals→C01,FuncData→C02,compareOp→C03,wpAny_call_entry→C04,wpAny_seqItems→C07,wpAny_truthy_bool→C08,codeAny_builtin→C09,plainId_quiet→C12,wpAny_rule→C13,wpAny_tryCatch→C14,wpAny_setState_of→C15,SetTable→C16,codeAny→C18,wpAny_setField_rec→C19,wpAny_letGo→C20,sysModules→C21,binaryOp→C22,wpAny_pyIter_list→C23,wpAny_setField→C24,wpAny_execs_nil→C26,wpAny_passesOwn→C27,wpAny_ite_false→C28,wpAny_updateSeq→C29,behindInMarks→C30,wpAny_loadPart_at→C31,codeAny_mono→C32,wpAny_Call_Name_kw→C34,call_meets→C35,tupleKind_room_in1→C36,wpAny_of_eq→C37,intKind→C38,assignEach→C39,NameKind→C40,wpAny_askSetting→C41,wpAny_standAt→C42,wpAny_onRaise→C43,wpAny_attempt→C44,sliceBounds→C47,GenState→C48,holding→C49,Keyword→C50,getItem→C51,typeIs_int→C52,wpAny_newTuple→C53,foldedSetIterable→C54,wpAny_pyIter_enum→C55,attributeBase→C57,wpAny_execs_cons→C58,wpAny_isInstance→C59,ZipApart→C60,letOwnedTupleGo→C62,wpAny_call→C63,wpAny_loadPart'→C64,wpAny_typeOf→C65,codeAny_of_tree→C66,wpAny_updateSeq_pair→C67,codeAny_call_builtin→C68
open Array renaming length_toList→C4,getElem?_eq_getElem→D0,getD_eq_getD_getElem?→G4,toList_append→G7,getElem?_toList→G8,getElem?_eq_some_iff→V0,toList_reverse→X3,toList_push→X9,perm_iff_toList_perm→d8,getElem?_setIfInBounds_ne→p8,toList_setIfInBounds→A11,size_map→A25,getElem_toList→A84,find?_toList→B07,toList→B26,toList_zip→B35,toList_map→B36,replicate→B48
open Bool renaming false_ne_true→B8,and_eq_true→C6,false_eq_true→O8,eq_iff_iff→R8,eq_false_iff→U0,false_and→q9,and_false→t5,true_and→A00,and_true→A01,or_eq_true→A70,and_eq_true_iff→A88,not_true→B10,not_eq_true'→B20,not_false→B56,false_or→B68
open Classical renaming byContradiction→L9
open False renaming elim→V2
open ForInStep renaming yield→Q5,done→t8
open Int renaming le_refl→J9,toNat_natCast→O0,emod_lt_of_pos→W4,emod_nonneg→Y0,fdiv_eq_ediv_of_nonneg→A07,fmod_eq_emod_of_nonneg→A08,zero_add→A21,negSucc→A48,le_of_lt→A71,natCast_nonneg→B12,one_mul→B50
open List renaming length_map→A0,getElem?_eq_some_iff→A3,getElem?_eq_getElem→A5,mem_singleton→A6,mem_cons_of_mem→A7,mem_cons_self→A8,length_append→B0,map_append→B2,mem_of_getElem?→B3,size_toArray→B6,mem_cons→B9,getElem?_map→C0,mem_append→C1,length_singleton→C2,mem_map→C3,take_add_one→C5,replicate→C7,length_cons→C9,length_take→D3,map_cons→D4,getElem?_append_right→E1,getElem?_append_left→F4,all_eq_true→F5,mem_append_right→F6,take_of_length_le→F7,take_length→F8,mem_range→G3,range→G9,getLastD_eq_getLast?→J2,append_assoc→J4,length_drop→J5,nodup_cons→J6,mem_filter→K0,map_congr_left→L4,mem_append_left→L6,length_replicate→L8,pairwise_cons→M5,append_nil→M6,getElem?_of_mem→M8,getD_eq_getElem?_getD→M9,flatten_cons→O1,nodup_append→O3,length_nil→O4,pairwise_append→O6,mem_reverse→O9,pairwise_iff_getElem→P2,mem_of_mem_drop→P3,pairwise_map→P9,replicate_succ'→Q0,map_map→Q1,getElem?_eq_none→Q9,any_eq_true→R1,replicate_succ→R6,length_pos_iff→R7,lookup_cons_self→R9,take_append_drop→S0,getElem?_take_of_lt→T3,not_mem_nil→T4,getElem_toArray→T5,forIn_cons→U1,getElem_of_mem→U4,reverse_append→U5,getElem?_set_self→U8,filter_cons→V4,isEmpty_iff→V6,mem_flatten→V7,mem_filterMap→V9,sum_cons→W6,mem_of_mem_take→X4,foldl_cons→X6,find?_cons→X7,length_erase_of_mem→Y1,filterMap_cons→Y6,length→Y7,length_eq_zero_iff→Y8,flatten_append→Z0,getElem?_cons_succ→Z1,getLast?_eq_some_getLast→Z3,pairwise_lt_range→Z5,find?_cons_of_neg→Z6,pairwise_reverse→a9,eq_nil_or_concat→b7,concat_eq_append→b8,range_succ→c6,take_sublist→c8,reverse_cons→d0,drop_sublist→d5,reverse_perm→d6,getElem?_set_ne→d9,mem_iff_getElem→e7,reverse_reverse→f9,mem_erase_of_ne→g8,drop_eq_getElem_cons→i5,lookup_cons→i6,length_reverse→i7,map_nil→i9,any_cons→j8,getElem?_drop→k4,pairwise_singleton→k9,getLast?_cons_cons→l0,filter_append→l5,filter_cons_of_neg→l6,filter_cons_of_pos→l7,drop_eq_nil_of_le→m6,eraseIdxIfInBounds_toArray→n8,getElem?_inj→p9,eraseIdx_eq_take_drop_succ→q0,drop_zero→t7,length_filter_le→u9,mem_of_getLast?→y7,nil_append→A02,map_eq_nil_iff→A06,nodup_iff_pairwise_ne→A12,zip_cons_cons→A15,map_singleton→A20,drop_drop→A24,getElem_drop→A33,getElem_take→A34,find?_isSome→A37,getLast?_map→A38,eraseIdx_cons_succ→A42,pairwise_filterMap→A47,cons_append→A49,getElem_mem→A50,nodup_range→A53,perm_middle→A54,map_reverse→A56,range_succ_eq_map→A62,drop_of_length_le→A63,length_pos_of_mem→A65,find?_cons_of_pos→A66,of_mem_zip→A69,getLast?_append→A86,take_zero→A94,toList_toArray→B00,getElem?_range→B02,filterMap_map→B08,mapM_toArray→B21,ext_getElem?→B23,length_range→B25,map→B38,length_set→B41,map_id→B49,nodup_nil→B53,forIn_nil→B54,drop_take→B55,foldl_nil→B57,mapM_cons→B58,foldl→B61,all_cons→B66,findIdx?→B70,take_nil→B71,take_add→B72,map_take→B74,map_drop→B75
open List.Nodup renaming length_le_of_subset→D9
open List.Perm renaming append_left→u7
open List.cons renaming inj→R0
open Nat renaming le_refl→A9,ne_of_lt→D7,lt_of_lt_of_le→F9,zero_le→G6,le_trans→L5,lt_succ_of_lt→O2,pow_succ→T6,strongRecOn→U7,ne_of_gt→V8,le_succ→W9,pow_le_pow_right→X5,mul_comm→Y2,sub_self→Y3,lt_irrefl→Y5,mul_assoc→Y9,le_of_lt→Z8,add_comm→Z9,lt_of_le_of_lt→j9,mod_lt→o6,mul_add→p6,add_zero→u8,le_of_not_lt→w6,succ_ne_self→x6,add_assoc→z8,lt_trans→A16,add_sub_cancel→A17,one_le_two_pow→A22,mul_left_comm→A36,zero_testBit→A57,zero_add→A72,zero_div→A73,not_lt_zero→A77,testBit_and→A78,eq_of_testBit_eq→A87,add_mod→A98,mul_mod→A99,not_lt→B19,lt_trichotomy→B22,sub_zero→B28,le_add_right→B32,mod_eq_of_lt→B33,lt_succ_self→B34,add_mul→B45,one_mul→B46,two_pow_pos→B47,min_eq_left→B51
open Ne renaming symm→K9
open Option renaming toList_some→D8,isSome_map→P7,isSome_iff_exists→T0,map_some→X8,some→Y4,getD_some→x5,map_eq_some_iff→A60,getD_none→B30,none→B84
open Option.some renaming inj→G0
open Or renaming inl→G2,inr→A90
open PyProof renaming noPylong_small→m4
open PyProof.Rows renaming slot_tuple_getitem→O7,callWith_type1→P4
open PyProof.Rows.IntsAre renaming int_at→b9
open PySem renaming mem_of_lookup→R5,call→B62
open PySem.Around renaming under_plainId→L7
open PySem.AutoSeq1 renaming sub_tuple_tuple→A30
open PySem.Builtin renaming bitNot→X2,bitAnd→r8,bitOr→B06
open PySem.Builtin.Builtins renaming bindParams→U6
open PySem.Builtin.Frozenset renaming updateFrom→B37,newClass→B52,sizeOf→B63,slot0→B73
open PySem.Builtin.List renaming listTooLong→Q8,listLengthHint→A04
open PySem.Builtin.Range renaming rangeSize→G5,small→i8
open PySem.Builtin.Slice renaming slicePlaces→W8,sliceAdjust→h9,sliceApplied→A09
open PySem.Builtin.SmallTypes renaming ownedTupleIsFree→U3,nextOf→X0,newRecord→Z7,calledThroughType→i4,ownedTupleFields→A97
open PySem.Builtin.Tuple renaming tupleExact→Q7,tupleItemsOf→A10
open PySem.Calls renaming callWith_builtin→m5,spliced_cons→A13,call_function_entry→A26,evalArgs_plain→A81,spliced_nil→B16
open PySem.ClassData renaming mk→B77
open PySem.Code renaming quiet_builtin→A18
open PySem.Data renaming cell→A28,fields→A40,seq→B67
open PySem.EntryCells renaming newEntry→B01
open PySem.F renaming plainAttrs_list→C8,slot_list_append→F2,type_list_append→F3,slot_tuple_iterator_next→U9,plain_max_loop→V3,plain_min_loop→V5,slot_zip_next→a8,called_set→c5,slot_list_extend→j4,type_list_extend→j6,slot_dict_get→t9,slot_list_pop→v8,type_list_pop→w5,args_tuple_iterator_next_1→y9,entry_tuple_iterator_next→A05,args_tuple_add_2→A31,args_zip_next_1→A32,entry_tuple_add→A41,args_dict_get_3→A43,plainAttrs_dict→A44,plain_list_iadd→A45,entry_zip_next→A51,entry_max_loop→A52,entry_min_loop→A55,slot_tuple_add→A59,entry_dict_get→A61,slot_tuple_lt→A75,args_list_extend_2→A82,args_object_init_2→A83,called_tuple→A91,entry_list_extend→A96,slot_list_extend→B09,plain_tuple_new→B17
open PySem.Heap renaming get?_push_of_some→A4,lt_size→B5,get?_push_size→B7,get?_update_other→D5,get?_update_self→L0,size_push→M7,get?_push_ne→o9,size_update→x8
open PySem.Heap.IsSliceOf renaming new→B86
open PySem.Heap.SameBut renaming update→U2
open PySem.Heap.UpToSlots renaming refl→B85
open PySem.IsRange renaming new→B83
open PySem.MeetsSeq.EqGives renaming int→B80
open PySem.NameKind renaming free→P8,cell→B69
open PySem.Obj renaming data_mapFields→Q2,mapSeq→T9,isFreed_of_fields→W2,mapFields→d7,cls_mapFields→o8,mk→B59
open PySem.Paired renaming length→B4,snoc→A03
open PySem.PassesOwn renaming never→F0
open PySem.PyData renaming int→B24
open PySem.SeqAt renaming eq_tupleAt→A64,eq_listAt→B43
open PySem.SeqAt.EqAt renaming int_int→j7,int_str→B03,str_int→B04,same→B42
open PySem.SeqAt.RcNeAt renaming lists_lengths→l8,tuples→A27,lists→A35
open PySem.SetTable renaming below→G1,insertAt→J8,bits→O5,runEnd→Q6,turns→X1,sizeAbove→k6,fits→z9,fill→A46,grown→A92,layClean→B18,has→B79
open PySem.SetTable.below renaming go→o5
open PySem.SetTable.layClean renaming free→L3
open PySem.SetTable.probe renaming go→M4
open PySem.SetTable.sizeAbove renaming go→A74
open PySem.Str renaming ofString→J7,empty→Z2
open PySem.Value renaming ref→D6,none→Q3,int→R4,bool→T8,type→V1,isInt→A39,isInt_shape→B13,str→B39,isStrOf→B65
open PySem.W renaming keepIn→J1,findIn→P0,kitOne→P5,kia_one→Q4,fnOf→W1,nsIn→W5,mg_of→k7,methodObj→m7,specialIn→m8,mroIn→y8,callWith_K→A14,codeIn→A23,hasDictIn→A29,cellsFrom_some→A58,instObj→A67,takesIn→A68,kat_nil→A76,hideAll_none→A80,kas_first_eq→A85,lookIn→A89,exmOne→A93,hideAll_get→A95,of_hideAll→B05,isNs_of_in→B11,kitx_list→B14,kitx_dict→B15,plainGet→B29,kdl_call→B31,hideAll→B40,kHook→B64,isFn→B78
open PySem.W.Looks renaming ld→x9,here→A19
open PySem.W.OpenLaw renaming wellSaid→B60,row→B81
open PySem.W.OpenRow renaming toRowW→B76
open PySem.Walks renaming list→A79
open PySem.pickOrder renaming go→B27
open StateT renaming run_pure→B44
open Sum renaming inl→E9,inr→P6
open Sum.inl renaming inj→W7
open Sum.inr renaming inj→B82
open True renaming intro→Z4
set_option Elab.async false
set_option linter.all false
set_option maxRecDepth 100000
set_option maxHeartbeats 0
namespace Fw
open PySem
noncomputable def top (i:Nat):Stmt:=PySem.Challenge.pw_fewrooms_k39_bounds_by_cuts.main.body.getD i (.Pass ⟨0,0,0,0⟩)
abbrev qEQ:Stmt:=top 4
abbrev qFY:Stmt:=top 5
abbrev qDE:Stmt:=top 10
abbrev qEU:Stmt:=top 11
abbrev qEO:Stmt:=top 12
abbrev qER:Stmt:=top 13
abbrev qFW:Stmt:=top 14
abbrev qE3:Stmt:=top 15
abbrev qH8:Stmt:=top 16
abbrev qFX:Stmt:=top 17
abbrev qH9:Stmt:=top 18
abbrev qDD:Stmt:=top 19
abbrev qES:Stmt:=top 21
abbrev qET:Stmt:=top 22
abbrev qE4:Stmt:=top 24
abbrev qEP:Stmt:=top 25
abbrev qJD:Stmt:=top 27
abbrev qLZ:Stmt:=top 28
abbrev qJQ:Stmt:=top 29
abbrev qDF:Stmt:=top 30
abbrev qEV:Stmt:=top 31
abbrev qQ1:Stmt:=top 32
abbrev qM0:Stmt:=top 33
abbrev qDG:Stmt:=top 34
abbrev qJC:Stmt:=top 35
abbrev qQ2:Stmt:=top 36
abbrev qG0:Stmt:=top 37
abbrev qE6:Stmt:=top 38
abbrev qDH:Stmt:=top 39
abbrev qE5:Stmt:=top 40
abbrev qQ3:Stmt:=top 41
abbrev qFZ:Stmt:=top 42
abbrev qJB:Stmt:=top 43
abbrev qKR:Stmt:=top 44
noncomputable def dA (s:Stmt):Arguments:=match s with
 |.FunctionDef _ a _ _ _ _ _ _ _ _=>a
 |_=>{posonlyargs:=[],args:=[],vararg:=none,kwonlyargs:=[],kw_defaults:=[],kwarg:=none,defaults:=[]}
def dB (s:Stmt):List Stmt:=match s with
 |.FunctionDef _ _ b _ _ _ _ _ _ _=>b
 |_=>[]
noncomputable def dS (s:Stmt):Scope:=match s with
 |.FunctionDef _ _ _ _ _ _ sc _ _ _=>sc
 |_=>{kind:=.function,names:=[],isGenerator:=false,isCoroutine:=false}
abbrev so (s:String):Str:=PySem.Str.ofString s
abbrev kh (P:Params)(s:Str):Int:=PySem.PyData.keyHash P s
abbrev hde (P:Params)(s:String)(n:Nat)(v:Value):DictEntry:=⟨kh P (so s),.str (so s) n,v⟩
abbrev hvs (s:String)(n:Nat):Value:=.str (so s) n
abbrev hcut (n:Nat):Value:=hvs "/claim/cut.py" n
noncomputable abbrev hfd (x q:String)(s:Stmt)(a b c d:Value)(e:Option Addr)(f g:Value)(i:Addr):C02:=⟨so x,so q,dA s,.stmts (dB s),dS s,3,[],a,b,c,d,e,f,g,i⟩
abbrev htp (d:Data) (s:Array (Option Value)):Obj:=⟨.type "tuple",none,d,s⟩
abbrev hcd (d:Data) (s:Array (Option Value)):Obj:=⟨.type "code",none,d,s⟩
abbrev hfn (d:Data) (s:Array (Option Value)):Obj:=⟨.type "function",none,d,s⟩
abbrev ht0:Obj:=htp (.seq #[]) #[]
def hvl:List String->Nat->List Value
 |[],_=>[]
 |x::r,n=>hvs x n::hvl r (n+1)
abbrev hts (l:List String)(n:Nat):Obj:=htp (.seq (hvl l n).toArray) #[]
noncomputable abbrev hco (x:String)(t:Nat)(ln ac fl:Int)(b:Nat)(md e:Int)(n:Nat):Obj:=hcd (.fields #[hvs x t,hvs x (t+1),hcut (t+2),.int ln 0,.int ac 0,.int 0 0,.int 0 0,.int fl 0,.ref b,.bool .true,.int md 0,.ref (b+1),.none,.ref (b+2),.ref (b+3),.ref (b+4),.int e 0,.int ln 0,hcut n]) #[]
noncomputable abbrev hcp (x:String)(t:Nat)(ln ac:Int)(b:Nat)(md e:Int):Obj:=hcd (.fields #[hvs x t,hvs x (t+1),hcut (t+2),.int ln 0,.int ac 0,.int 0 0,.int 0 0,.int 3 0,.ref b,.bool .true,.int md 0,.ref (b+1),.none,.none,.none,.ref (b+2),.int e 0,.int ln 0,hcut (t+4)]) #[]
noncomputable abbrev hfo (x:String)(s:Stmt)(m:String)(t c:Nat):Obj:=hfn (.func (hfd x x s .none .none .none (hvs m t) .none (.ref c) .none 0)) #[]
noncomputable def hpK:Params->Ab1:=λP=>
 (nat_lit 2,B59 .none .none (.dict #[]) #[])::
 (nat_lit 3,B59 (.type "dict") .none (.dict #[hde P "__name__" 165 (hvs "law_fewrooms_k39_bounds_by_cuts" 389),hde P "__doc__" 166 .none,hde P "__package__" 167 .none,hde P "__loader__" 168 (.builtin "__main__.__loader__#opaque"),hde P "__spec__" 169 .none,hde P "__annotations__" 170 (.ref 6),hde P "__builtins__" 171 (.ref 4),hde P "__file__" 173 (hcut 172),hde P "__cached__" 174 .none,hde P "RoomError" 206 (.ref 24),hde P "TooMany" 222 (.ref 37),hde P "is_number" 231 (.ref 46),hde P "is_below" 239 (.ref 53),hde P "MOST_PATHS" 243 (.int 300 242),hde P "SOURCE" 246 (.int (-1) 245),hde P "GOAL" 249 (.int (-2) 248),hde P "count_paths" 255 (.ref 58),hde P "all_paths" 268 (.ref 65),hde P "side_ends" 279 (.ref 72),hde P "free_ways" 292 (.ref 79),hde P "way_back" 304 (.ref 86),hde P "turn_round" 314 (.ref 93),hde P "side_to" 324 (.ref 100),hde P "sides_of" 330 (.ref 105),hde P "is_path" 336 (.ref 110),hde P "shows_sides" 349 (.ref 117),hde P "cut_paper" 357 (.ref 122),hde P "cut_bound" 363 (.ref 127),hde P "shows_pair" 375 (.ref 134),hde P "shows_cut" 388 (.ref 141),hde P "_law_begin" 398 (.ref 148),hde P "_law_take" 411 (.ref 155),hde P "_law_same" 417 (.ref 160),hde P "_law_some_needs" 428 (.ref 167),hde P "_law_tree_net" 440 (.ref 174),hde P "_law_net" 446 (.ref 179),hde P "_law_many" 455 (.ref 186),hde P "_law_path_count" 461 (.ref 191),hde P "_law_paths" 467 (.ref 196),hde P "_law_hit" 473 (.ref 201),hde P "_law_is_side" 479 (.ref 206),hde P "_law_are_sides" 485 (.ref 211),hde P "_law_most_sides" 491 (.ref 216),hde P "_law_full_tree" 502 (.ref 223),hde P "_law_due" 508 (.ref 228),hde P "_law_refused" 518 (.ref 235),hde P "_law_right" 524 (.ref 240),hde P "law" 536 (.ref 247)] 48) #[])::
 (nat_lit 15,htp (.seq #[.type "ValueError"]) #[])::
 (nat_lit 22,ht0)::
 (nat_lit 23,B59 (.type "dict") .none (.dict #[hde P "__module__" 196 (hvs "fewrooms.errors" 187),hde P "__firstlineno__" 200 (.int 2 199),hde P "__static_attributes__" 201 (.ref 22),hde P "__weakref__" 203 (.ref 25),hde P "__doc__" 204 .none] 3) #[])::
 (nat_lit 24,B59 (.type "type") .none (.cls (B77 (so "RoomError") [.type "ValueError"] [.ref 24,.type "ValueError",.type "Exception",.type "BaseException",.type "object"] 23 (so "RoomError") .true [] [.ref 37] .false .none .false)) #[Y4 (.ref 15),.none,Y4 (hvs "RoomError" 189),Y4 (hvs "RoomError" 197),Y4 (.builtin "ValueError.__new__"),Y4 (.bool .true)])::
 (nat_lit 25,B59 (.type "getset_descriptor") .none (.fields #[hvs "__weakref__" 202,.ref 24,.builtin "ExceptionGroup.__weakref__",.none]) #[])::
 (nat_lit 28,htp (.seq #[.ref 24]) #[])::
 (nat_lit 35,ht0)::
 (nat_lit 36,B59 (.type "dict") .none (.dict #[hde P "__module__" 214 (hvs "fewrooms.errors" 187),hde P "__firstlineno__" 218 (.int 4 217),hde P "__static_attributes__" 219 (.ref 35),hde P "__doc__" 220 .none] 2) #[])::
 (nat_lit 37,B59 (.type "type") .none (.cls (B77 (so "TooMany") [.ref 24] [.ref 37,.ref 24,.type "ValueError",.type "Exception",.type "BaseException",.type "object"] 36 (so "TooMany") .true [] [] .false .none .false)) #[Y4 (.ref 28),.none,Y4 (hvs "TooMany" 207),Y4 (hvs "TooMany" 215),Y4 (.builtin "ValueError.__new__"),Y4 (.bool .true)])::
 (nat_lit 40,ht0)::
 (nat_lit 42,hts ["thing"] 228)::
 (nat_lit 43,ht0)::
 (nat_lit 45,hco "is_number" 225 7 1 3 40 181 229 230)::
 (nat_lit 46,hfo "is_number" qEQ "fewrooms.kinds" 223 45)::
 (nat_lit 47,ht0)::
 (nat_lit 49,hts ["thing","end"] 235)::
 (nat_lit 50,ht0)::
 (nat_lit 52,hco "is_below" 232 9 2 3 47 181 237 238)::
 (nat_lit 53,hfo "is_below" qFY "fewrooms.kinds" 223 52)::
 (nat_lit 54,ht0)::
 (nat_lit 57,hcp "count_paths" 250 15 2 54 181 253)::
 (nat_lit 58,hfo "count_paths" qDE "fewrooms.paths" 240 57)::
 (nat_lit 59,ht0)::
 (nat_lit 61,hts ["net","work","paths","begun","path","needs","need"] 259)::
 (nat_lit 62,ht0)::
 (nat_lit 64,hco "all_paths" 256 21 2 3 59 181 266 267)::
 (nat_lit 65,hfo "all_paths" qEU "fewrooms.paths" 240 64)::
 (nat_lit 66,ht0)::
 (nat_lit 68,hts ["net","path","ends","work","need"] 272)::
 (nat_lit 69,ht0)::
 (nat_lit 71,hco "side_ends" 269 34 2 3 66 181 277 278)::
 (nat_lit 72,hfo "side_ends" qEO "fewrooms.paths" 240 71)::
 (nat_lit 73,ht0)::
 (nat_lit 75,hts ["net","path","ends","ways","work","needs","need"] 283)::
 (nat_lit 76,ht0)::
 (nat_lit 78,hco "free_ways" 280 41 2 3 73 181 290 291)::
 (nat_lit 79,hfo "free_ways" qER "fewrooms.paths" 240 78)::
 (nat_lit 80,ht0)::
 (nat_lit 82,hts ["ways","came_from","due","stop","further","stops"] 296)::
 (nat_lit 83,ht0)::
 (nat_lit 85,hco "way_back" 293 55 1 3 80 181 302 303)::
 (nat_lit 86,hfo "way_back" qFW "fewrooms.paths" 240 85)::
 (nat_lit 87,ht0)::
 (nat_lit 89,hts ["ways","stops","further","stop"] 308)::
 (nat_lit 90,ht0)::
 (nat_lit 92,hco "turn_round" 305 70 2 3 87 181 312 313)::
 (nat_lit 93,hfo "turn_round" qE3 "fewrooms.paths" 240 92)::
 (nat_lit 94,ht0)::
 (nat_lit 96,hts ["ways","work","side","stop"] 318)::
 (nat_lit 97,ht0)::
 (nat_lit 99,hco "side_to" 315 74 2 3 94 181 322 323)::
 (nat_lit 100,hfo "side_to" qH8 "fewrooms.paths" 240 99)::
 (nat_lit 101,ht0)::
 (nat_lit 104,hcp "sides_of" 325 81 2 101 181 328)::
 (nat_lit 105,hfo "sides_of" qFX "fewrooms.paths" 240 104)::
 (nat_lit 106,ht0)::
 (nat_lit 109,hcp "is_path" 331 88 2 106 181 334)::
 (nat_lit 110,hfo "is_path" qH9 "fewrooms.paths" 240 109)::
 (nat_lit 111,ht0)::
 (nat_lit 113,hts ["net","path","thing","ends","taken","work","side"] 340)::
 (nat_lit 114,ht0)::
 (nat_lit 116,hco "shows_sides" 337 97 3 3 111 181 347 348)::
 (nat_lit 117,hfo "shows_sides" qDD "fewrooms.paths" 240 116)::
 (nat_lit 118,ht0)::
 (nat_lit 121,hcp "cut_paper" 352 113 2 118 181 355)::
 (nat_lit 122,hfo "cut_paper" qES "fewrooms.cuts" 350 121)::
 (nat_lit 123,ht0)::
 (nat_lit 126,hcp "cut_bound" 358 115 2 123 181 361)::
 (nat_lit 127,hfo "cut_bound" qET "fewrooms.cuts" 350 126)::
 (nat_lit 128,ht0)::
 (nat_lit 130,hts ["net","work","many","thing"] 369)::
 (nat_lit 131,ht0)::
 (nat_lit 133,hco "shows_pair" 366 120 4 3 128 181 373 374)::
 (nat_lit 134,hfo "shows_pair" qE4 "fewrooms.cutcheck" 364 133)::
 (nat_lit 135,ht0)::
 (nat_lit 137,hts ["net","work","rooms","thing","paths","seen","pair"] 379)::
 (nat_lit 138,ht0)::
 (nat_lit 140,hco "shows_cut" 376 126 4 3 135 181 386 387)::
 (nat_lit 141,hfo "shows_cut" qEP "fewrooms.cutcheck" 364 140)::
 (nat_lit 142,ht0)::
 (nat_lit 144,hts ["_law_script","_law_cells"] 394)::
 (nat_lit 145,ht0)::
 (nat_lit 147,hco "_law_begin" 391 139 1 3 142 181 396 397)::
 (nat_lit 148,hfo "_law_begin" qJD "law_fewrooms_k39_bounds_by_cuts" 389 147)::
 (nat_lit 149,ht0)::
 (nat_lit 151,hts ["_law_state","_law_many_here","_law_turn","_law_place","_law_cell","_law_digit","_law_mixed"] 402)::
 (nat_lit 152,ht0)::
 (nat_lit 154,hco "_law_take" 399 144 2 3 149 181 409 410)::
 (nat_lit 155,hfo "_law_take" qLZ "law_fewrooms_k39_bounds_by_cuts" 389 154)::
 (nat_lit 156,ht0)::
 (nat_lit 159,hcp "_law_same" 412 155 2 156 181 415)::
 (nat_lit 160,hfo "_law_same" qJQ "law_fewrooms_k39_bounds_by_cuts" 389 159)::
 (nat_lit 161,ht0)::
 (nat_lit 163,hts ["_law_state","_law_k","_law_found","_law_turn","_law_far"] 421)::
 (nat_lit 164,ht0)::
 (nat_lit 166,hco "_law_some_needs" 418 167 2 3 161 181 426 427)::
 (nat_lit 167,hfo "_law_some_needs" qDF "law_fewrooms_k39_bounds_by_cuts" 389 166)::
 (nat_lit 168,ht0)::
 (nat_lit 170,hts ["_law_state","_law_many_here","_law_open_ones","_law_found","_law_k","_law_so_many"] 432)::
 (nat_lit 171,ht0)::
 (nat_lit 173,hco "_law_tree_net" 429 174 2 3 168 181 438 439)::
 (nat_lit 174,hfo "_law_tree_net" qEV "law_fewrooms_k39_bounds_by_cuts" 389 173)::
 (nat_lit 175,ht0)::
 (nat_lit 178,hcp "_law_net" 441 182 2 175 181 444)::
 (nat_lit 179,hfo "_law_net" qQ1 "law_fewrooms_k39_bounds_by_cuts" 389 178)::
 (nat_lit 180,ht0)::
 (nat_lit 182,hts ["_law_state","_law_most","_law_way"] 450)::
 (nat_lit 183,ht0)::
 (nat_lit 185,hco "_law_many" 447 197 2 3 180 181 453 454)::
 (nat_lit 186,hfo "_law_many" qM0 "law_fewrooms_k39_bounds_by_cuts" 389 185)::
 (nat_lit 187,ht0)::
 (nat_lit 190,hcp "_law_path_count" 456 202 2 187 181 459)::
 (nat_lit 191,hfo "_law_path_count" qDG "law_fewrooms_k39_bounds_by_cuts" 389 190)::
 (nat_lit 192,ht0)::
 (nat_lit 195,hcp "_law_paths" 462 207 2 192 181 465)::
 (nat_lit 196,hfo "_law_paths" qJC "law_fewrooms_k39_bounds_by_cuts" 389 195)::
 (nat_lit 197,ht0)::
 (nat_lit 200,hcp "_law_hit" 468 216 2 197 181 471)::
 (nat_lit 201,hfo "_law_hit" qQ2 "law_fewrooms_k39_bounds_by_cuts" 389 200)::
 (nat_lit 202,ht0)::
 (nat_lit 205,hcp "_law_is_side" 474 221 3 202 181 477)::
 (nat_lit 206,hfo "_law_is_side" qG0 "law_fewrooms_k39_bounds_by_cuts" 389 205)::
 (nat_lit 207,ht0)::
 (nat_lit 210,hcp "_law_are_sides" 480 229 3 207 181 483)::
 (nat_lit 211,hfo "_law_are_sides" qE6 "law_fewrooms_k39_bounds_by_cuts" 389 210)::
 (nat_lit 212,ht0)::
 (nat_lit 215,hcp "_law_most_sides" 486 236 2 212 181 489)::
 (nat_lit 216,hfo "_law_most_sides" qDH "law_fewrooms_k39_bounds_by_cuts" 389 215)::
 (nat_lit 217,ht0)::
 (nat_lit 219,hts ["_law_deep","_law_found","_law_ahead","_law_now","_law_k"] 495)::
 (nat_lit 220,ht0)::
 (nat_lit 222,hco "_law_full_tree" 492 246 1 3 217 181 500 501)::
 (nat_lit 223,hfo "_law_full_tree" qE5 "law_fewrooms_k39_bounds_by_cuts" 389 222)::
 (nat_lit 224,ht0)::
 (nat_lit 227,hcp "_law_due" 503 256 2 224 181 506)::
 (nat_lit 228,hfo "_law_due" qQ3 "law_fewrooms_k39_bounds_by_cuts" 389 227)::
 (nat_lit 229,ht0)::
 (nat_lit 231,hts ["_law_net_here","_law_work","_law_told","_law_which"] 512)::
 (nat_lit 232,ht0)::
 (nat_lit 234,hco "_law_refused" 509 262 2 3 229 181 516 517)::
 (nat_lit 235,hfo "_law_refused" qFZ "law_fewrooms_k39_bounds_by_cuts" 389 234)::
 (nat_lit 236,ht0)::
 (nat_lit 239,hcp "_law_right" 519 275 2 236 181 522)::
 (nat_lit 240,hfo "_law_right" qJB "law_fewrooms_k39_bounds_by_cuts" 389 239)::
 (nat_lit 241,ht0)::
 (nat_lit 243,hts ["_law_script","_law_state","_law_turn","_law_net_here","_law_work","_law_many_here"] 528)::
 (nat_lit 244,ht0)::
 (nat_lit 246,hco "law" 525 295 1 3 241 181 534 535)::
 (nat_lit 247,hfo "law" qKR "law_fewrooms_k39_bounds_by_cuts" 389 246)::
 []
noncomputable def hpA:List Addr:=[2,3,15,22,23,24,25,28,35,36,37,40,42,43,45,46,47,49,50,52,53,54,57,58,59,61,62,64,65,66,68,69,71,72,73,75,76,78,79,80,82,83,85,86,87,89,90,92,93,94,96,97,99,100,101,104,105,106,109,110,111,113,114,116,117,118,121,122,123,126,127,128,130,131,133,134,135,137,138,140,141,142,144,145,147,148,149,151,152,154,155,156,159,160,161,163,164,166,167,168,170,171,173,174,175,178,179,180,182,183,185,186,187,190,191,192,195,196,197,200,201,202,205,206,207,210,211,212,215,216,217,219,220,222,223,224,227,228,229,231,232,234,235,236,239,240,241,243,244,246,247]
noncomputable def hpQ:B90:=PySem.W.view PySem.Challenge.pw_fewrooms_k39_bounds_by_cuts [1,2,4,5,7,8,9,10,11,12,13,14,15,16,17,18,19,21,22,24,25,27,28,29,30,31,32,33,34,35,36,37,38,39,40,41,42,43,44]
def hpN:Nat:=3134
theorem hpE (P:Params):hpA=(hpK P).map (·.1):=by kernel_rfl
noncomputable def hpX (s:Shared):Bool:=PySem.W.xlAt hpQ [] s&&PySem.W.recOk (PySem.W.RowW.records (B76 (B81 PySem.Challenge.rw_fewrooms_k39_bounds_by_cuts))) s
theorem hpLeft:PySem.W.LeftO PySem.Challenge.pw_fewrooms_k39_bounds_by_cuts hpQ [] hpX (B64 hpK hpA hpE).obs (B64 hpK hpA hpE).val hpN:=λw=>by kernel_rfl
theorem hpSaid:B60 PySem.Challenge.rw_fewrooms_k39_bounds_by_cuts=true:=by kernel_rfl
end Fw
namespace L2
open PySem PySem.Spec PyProof.Rows
inductive E2 {A B:Type}(p:A->B->Prop):Prop|mk (a) (b) (h:p a b):E2 p
inductive E3 {A B C:Type}(p:A->B->C->Prop):Prop|mk (a) (b) (c) (h:p a b c):E3 p
inductive E4 {A B C D:Type}(p:A->B->C->D->Prop):Prop|mk (a) (b) (c) (d) (h:p a b c d):E4 p
inductive E5 {A B C D E:Type}(p:A->B->C->D->E->Prop):Prop|mk (a) (b) (c) (d) (e) (h:p a b c d e):E5 p
inductive E6 {A B C D E F:Type}(p:A->B->C->D->E->F->Prop):Prop|mk (a) (b) (c) (d) (e) (f) (h:p a b c d e f):E6 p
inductive E7 {A B C D E F G:Type}(p:A->B->C->D->E->F->G->Prop):Prop|mk (a) (b) (c) (d) (e) (f) (g) (h:p a b c d e f g):E7 p
inductive E8 {A B C D E F G H:Type}(p:A->B->C->D->E->F->G->H->Prop):Prop|mk (a) (b) (c) (d) (e) (f) (g) (h) (h:p a b c d e f g h):E8 p
abbrev Key:=Sum Int Str
def qRR:Key->Value->Bool
 |.inl k,v=>A39 k v
 |.inr x,v=>B65 x v
def keyH (w:World):Key->Int
 |.inl k=>hashInt k
 |.inr x=>hashStr w x
theorem qBQ:∀{k:Key} {v:Value},qRR k v=true->(∃i t,k=E9 i/\v=R4 i t)\/(∃x t,k=P6 x/\v=B39 x t)
 |.inl i,v,h=>by
  obtain⟨t,e⟩:=B13 (k:=i) (v:=v) h;exact .inl ⟨i,t,rfl,e⟩
 |.inr x,v,h=>by
  obtain⟨t,e⟩:=Value.isStrOf_shape (x:=x) (v:=v) h;exact .inr ⟨x,t,rfl,e⟩
theorem qU8 (i:Int)(t:Tok):qRR (.inl i) (.int i t)=true:=by simp[qRR,A39]
theorem qU7 (x:Str)(t:Tok):qRR (.inr x) (.str x t)=true:=by simp[qRR,B65]
theorem qcE (a b:Int):decide ((E9 a:Key)=E9 b)=(a==b):=by
 by_cases e:a=b
 ·subst e;simp
 ·have h:¬(E9 a:Key)=E9 b:=λq=>e (W7 q);rw[decide_eq_false h];exact(beq_eq_false_iff_ne.mpr e).symm
theorem qcB (a b:Str):decide ((P6 a:Key)=P6 b)=decide (a=b):=by
 by_cases e:a=b
 ·subst e;simp
 ·have h:¬(P6 a:Key)=P6 b:=λq=>e (B82 q);rw[decide_eq_false h,decide_eq_false e]
def qcD (a:Int)(b:Str):decide ((E9 a:Key)=P6 b)=false:=decide_eq_false (λq=>nomatch q)
def qcC (a:Str)(b:Int):decide ((P6 a:Key)=E9 b)=false:=decide_eq_false (λq=>nomatch q)
noncomputable def qBN (prog:B90)(w:World):PySem.KeyKind prog w Key where
 is:=qRR
 hash:=keyH w
 inj:=λv a b f d=>by
  rcases qBQ f with⟨i,t,rfl,rfl⟩|⟨x,t,rfl,rfl⟩
  ·rcases qBQ d with⟨j,u,rfl,e⟩|⟨y,u,rfl,e⟩
   ·injection e with e1 _;rw[e1]
   ·exact nomatch e
  ·rcases qBQ d with⟨j,u,rfl,e⟩|⟨y,u,rfl,e⟩
   ·exact nomatch e
   ·injection e with e1 _;rw[e1]
 byValue:=λk v h=>by
  rcases qBQ h with⟨i,t,rfl,rfl⟩|⟨x,t,rfl,rfl⟩<;>rfl
 pyHash:=λc h=>by
  rcases qBQ c with⟨i,t,rfl,rfl⟩|⟨x,t,rfl,rfl⟩
  ·exact wpAny_pyHash_int h
  ·exact wpAny_pyHash_str h
 eqBool:=λg c h=>by
  rcases qBQ g with⟨i,t,rfl,rfl⟩|⟨x,t,rfl,rfl⟩
  ·rcases qBQ c with⟨j,u,rfl,rfl⟩|⟨y,u,rfl,rfl⟩
   ·rw[qcE] at h;exact wpAny_eqBool_int h
   ·rw[qcD] at h;exact B03 i t y u _ _ _ _ h
  ·rcases qBQ c with⟨j,u,rfl,rfl⟩|⟨y,u,rfl,rfl⟩
   ·rw[qcC] at h;exact B04 x t j u _ _ _ _ h
   ·rw[qcB] at h;exact wpAny_eqBool_str h
 «strs»:=λk x t v h=>by
  rcases qBQ h with⟨i,u,rfl,e⟩|⟨y,u,rfl,e⟩
  ·exact nomatch e
  ·injection e with e1 _
   subst e1;cases v<;>rfl
def qP1 (prog:B90)(w:World)(i:Int)(t:Tok):(qBN prog w).is (.inl i) (.int i t)=true:=qU8 i t
def qP0 (prog:B90)(w:World)(x:Str)(t:Tok):(qBN prog w).is (.inr x) (.str x t)=true:=qU7 x t
inductive V where
 |non|bl (b:Bool)|int (i:Int)|str (x:Str)|byt (b:Array UInt8)|flt (b:UInt64)|ref (a:Addr)|ty (n:String)
 deriving DecidableEq
def RelV:V->Value->Prop
 |.non,u=>u=Q3
 |.bl b,u=>u=T8 b
 |.int i,u=>∃t,u=R4 i t
 |.str x,u=>∃t,u=B39 x t
 |.byt b,u=>∃t,u=Value.bytes b t
 |.flt b,u=>∃t,u=Value.float b t
 |.ref a,u=>u=D6 a
 |.ty n,u=>u=V1 n
abbrev Vals:List V->List Value->Prop:=Paired RelV
def Vals.length {xs:List V} {a:List Value} (r:Vals xs a):xs.length=a.length:=B4 r
theorem Vals.get:∀{xs:List V} {us:List Value} {i:Nat} {x:V},Vals xs us->xs[i]?=some x->∃u,us[i]?=some u/\RelV x u
 |_,_,_,_,.nil,e=>by simp at e
 |_,_,0,_,.cons r _,e=>by simp at e;subst e;exact⟨_,rfl,r⟩
 |_,_,i+1,x,.cons _ t,e=>by
  obtain⟨u,h1,h2⟩:=Vals.get (i:=i) (x:=x) t (by simpa using e)
  exact⟨u,by simpa using h1,h2⟩
def Vals.set {x:V} {u:Value} (r:RelV x u):∀{xs:List V} {us:List Value} (i:Nat),Vals xs us->Vals (xs.set i x) (us.set i u)
 |_,_,_,.nil=>.nil
 |_,_,0,.cons _ t=>.cons r t
 |_,_,i+1,.cons q t=>.cons q (Vals.set r i t)
def Vals.append:∀{xs ys:List V} {us ws:List Value},Vals xs us->Vals ys ws->Vals (xs++ys) (us++ws)
 |_,_,_,_,.nil,s=>s
 |_,_,_,_,.cons r t,s=>.cons r (Vals.append t s)
def Vals.take:∀{xs:List V} {us:List Value} (n:Nat),Vals xs us->Vals (xs.take n) (us.take n)
 |_,_,0,_=>.nil
 |_,_,_+1,.nil=>.nil
 |_,_,n+1,.cons r t=>.cons r (Vals.take n t)
def Vals.drop:∀{xs:List V} {us:List Value} (n:Nat),Vals xs us->Vals (xs.drop n) (us.drop n)
 |_,_,0,r=>r
 |_,_,_+1,.nil=>.nil
 |_,_,n+1,.cons _ t=>Vals.drop n t
def RelO:Option V->Option Value->Prop
 |some v,some u=>RelV v u
 |none,none=>True
 |_,_=>False
def KV {κ:Type}:List (κ×V)->List (κ×Value)->Prop:=Paired λ(p:κ×V) (q:κ×Value)=>p.1=q.1/\RelV p.2 q.2
inductive CTb where
 |tab (q:Str)
 |cod (q:Str)
def kV:Key->V
 |.inl i=>.int i
 |.inr x=>.str x
inductive HO where
 |lst (xs:List V)
 |tup (xs:List V)
 |dK (Af:List (Key×V))|dT (Af:List (List Key×V))
 |set (S:Int->Bool) (n:Nat)
 |ins (C dx:Addr) (fs:List (Str×V))
 |own (x:Addr)
 |xd (fs:List (Str×V))
 |met (f x:Addr)
 |rng (lo hi:Int)
 |frz (o:Obj) (u:HO)
 |tbl (t:CTb)
 |ext (φ:Heap->Prop)
abbrev Hp:=Addr->Option HO
def Ag (H:Hp)(a:Addr)(o:HO):Hp:=λb=>if b=a then some o else H b
theorem qA1 {H:Hp} {a:Addr} {o:HO} :Ag H a o a=some o:=by unfold Ag;rw[if_pos rfl]
theorem qA8 {H:Hp} {a b:Addr} {o:HO} (h:b≠a):Ag H a o b=H b:=by unfold Ag;rw[if_neg h]
theorem qI2 {H:Hp} {a:Addr} {o u:HO} :Ag (Ag H a o) a u=Ag H a u:=by
 funext b;unfold Ag;split<;>rfl
theorem qCK {H:Hp} {a b:Addr} {o u:HO} (h:H a=some o)(h':H b=some u)(d:o≠u):a≠b:=by
 intro e;subst e;rw[h] at h';exact d (G0 h')
theorem qA9 {H:Hp} {a b:Addr} {o:HO} (h:H a=some o)(h':H b=none):a≠b:=by
 intro e;subst e;rw[h] at h';cases h'
section
variable(P:B90)(w:World)
def ObjOk (H:Hp)(h:Heap)(a:Addr):HO->Prop
 |.lst xs=>xs.length<=B89/\∃(its:List Value) (n:Nat),Vals xs its/\h.get? a=some {cls:=.type "list",data:=.seq its.toArray n}
 |.tup xs=>xs.length<=B89/\∃its:List Value,Vals xs its/\IsTup h a its.toArray
 |.dK Af=>Af.length<=B89/\(a==C21)=false/\∃vs,KV Af vs/\h.DictOf (qBN P w) a vs
 |.dT Af=>Af.length<=B89/\(a==C21)=false/\∃xs:List (List Key×Addr×Value),
   Paired (λ(p:List Key×V) (q:List Key×Addr×Value)=>p.1=q.1/\H q.2.1=some (.tup (p.1.map kV))/\RelV p.2 q.2.2) Af xs/\
   ∃o es ep,h.get? a=some o/\o.ExactDict/\o.data=.dict es ep/\es.toList=xs.map (entryOfKey (tupleKind (qBN P w)))/\(xs.map (·.1)).Nodup
 |.set S n=>h.SetOf (C38 P w) a S n
 |.ins C dx fs=>H dx=some (.own a)/\fs.length<=1000/\dx≠a/\h.get? a=some (A67 C dx)/\
   ∃mA,h.Ns1 dx mA/\(∀f,RelO (fs.lookup f) (mA f))/\PySem.Within mA (fs.map (·.1))
 |.own _=>∃o,h.get? a=some o
 |.xd fs=>∃mA,h.Ns1 a mA/\∀f,RelO (fs.lookup f) (mA f)
 |.rng lo hi=>∃t u v,h.get? a=some {cls:=.type "range",data:=.fields #[.int lo t,.int hi u,.int 1 v]}
 |.frz o u=>h.get? a=some o/\ObjOk H h a u
 |.tbl (.tab q)=>∃more:Array Value,h.get? a=some {cls:=.none,data:=.fields more}/\TriplesOk more.toList/\∀pos cv,codeAmong pos more.toList=some cv->∃c,cv=.ref c/\H c=some (.tbl (.cod q))
 |.tbl (.cod q)=>h.CodeRec (.ref a) q
 |.met f x=>h.get? a=some (m7 (.ref f) (.ref x))
 |.ext φ=>φ h/\(∃o,h.get? a=some o)/\∀h1 h2:Heap,φ h1->(∀o,h1.get? a=some o->h2.get? a=some o)->φ h2
def HOk (H:Hp)(h:Heap):Prop:=∀a o,H a=some o->ObjOk P w H h a o
end
section
variable{P:B90}{w:World}{H H':Hp}{h h':Heap}{a:Addr}{o:HO}
theorem ObjOk.lt (x:ObjOk P w H h a o):a<h.objs.size:=by
 cases o with
 |lst xs=>obtain⟨_,_,_,_,e⟩:=x;exact B5 e
 |tup xs=>obtain⟨_,_,_,p⟩:=x;exact p.lt
 |dK Af=>obtain⟨_,_,_,_,o,_,_,e,_⟩:=x;exact B5 e
 |dT Af=>obtain⟨_,_,_,_,o,_,_,e,_⟩:=x;exact B5 e
 |set S n=>obtain⟨o,_,_,_,e,_⟩:=x;exact B5 e
 |ins C dx fs=>obtain⟨_,_,_,e,_⟩:=x;exact B5 e
 |own y=>obtain⟨_,e⟩:=x;exact B5 e
 |xd fs=>obtain⟨_,⟨_,_,_,e,_⟩,_⟩:=x;exact B5 e
 |rng lo hi=>obtain⟨_,_,_,e⟩:=x;exact B5 e
 |frz ob u=>obtain⟨e,_⟩:=x;exact B5 e
 |tbl t=>
  cases t with
  |tab q=>obtain⟨_,e,_⟩:=x;exact B5 e
  |cod q=>obtain⟨c,o,_,_,e,g,_⟩:=x;cases e;exact B5 g
 |met f y=>exact B5 (show h.get? a=some _ from x)
 |ext φ=>obtain⟨_,⟨_,e⟩,_⟩:=x;exact B5 e
def Paired.mapP {α β:Type} {F G:α->β->Prop} :∀{l₁:List α} {l₂:List β},Paired F l₁ l₂->(∀a b,F a b->G a b)->Paired G l₁ l₂
 |_,_,.nil,_=>.nil
 |_,_,.cons r t,f=>.cons (f _ _ r) (Paired.mapP t f)
theorem ObjOk.stay (x:ObjOk P w H h a o)(k:∀b u,(b=a\/H b=some (.own a))->h.get? b=some u->h'.get? b=some u)
  (ho:∀b,H b=some (.own a)->H' b=some (.own a)) (ht:∀b xs,H b=some (.tup xs)->H' b=some (.tup xs)) (hb:∀b t,H b=some (.tbl t)->H' b=some (.tbl t):=by exactλ_ _ q=>q):ObjOk P w H' h' a o:=by
 induction o with
 |lst xs=>obtain⟨z,s,n,r,e⟩:=x;exact⟨z,s,n,r,k _ _ (.inl rfl) e⟩
 |tup xs=>obtain⟨z,s,r,i,e,c⟩:=x;exact⟨z,s,r,i,k _ _ (.inl rfl) e,c⟩
 |dK Af=>obtain⟨z,y,vs,r,i,j,l,e,c⟩:=x;exact⟨z,y,vs,r,i,j,l,k _ _ (.inl rfl) e,c⟩
 |dT Af=>
  obtain⟨z,y,xs,r,i,j,l,e,c⟩:=x;exact⟨z,y,xs,Paired.mapP r λp q z=>⟨z.1,ht _ _ z.2.1,z.2.2⟩,i,j,l,k _ _ (.inl rfl) e,c⟩
 |set S n=>obtain⟨i,j,l,t,e,c⟩:=x;exact⟨i,j,l,t,k _ _ (.inl rfl) e,c⟩
 |ins C dx fs=>
  obtain⟨d,z,ne,e,mA,⟨od,j,l,e2,c⟩,r⟩:=x;exact⟨ho _ d,z,ne,k _ _ (.inl rfl) e,mA,⟨od,j,l,k _ _ (.inr d) e2,c⟩,r⟩
 |own y=>obtain⟨i,e⟩:=x;exact⟨i,k _ _ (.inl rfl) e⟩
 |xd fs=>obtain⟨mA,⟨od,j,l,e,c⟩,r⟩:=x;exact⟨mA,⟨od,j,l,k _ _ (.inl rfl) e,c⟩,r⟩
 |rng lo hi=>obtain⟨t,u,v,e⟩:=x;exact⟨t,u,v,k _ _ (.inl rfl) e⟩
 |frz i u ih=>obtain⟨e,q⟩:=x;exact⟨k _ _ (.inl rfl) e,ih q⟩
 |tbl t=>
  cases t with
  |tab q=>obtain⟨m,e,tr,c⟩:=x;exact⟨m,k a _ (.inl rfl) e,tr,λa0 cv z=>let⟨c',e1,e2⟩:=c a0 cv z;⟨c',e1,hb _ _ e2⟩⟩
  |cod q=>obtain⟨c,o,vs,t,e,g,r⟩:=x;cases e;exact⟨a,o,vs,t,rfl,k a _ (.inl rfl) g,r⟩
 |met f y=>
  have e:h.get? a=some (m7 (.ref f) (.ref y)):=x;show h'.get? a=some (m7 (.ref f) (.ref y));exact k a _ (.inl rfl) e
 |ext φ=>obtain⟨p,⟨o,e⟩,st⟩:=x;exact⟨st _ _ p λo q=>k _ _ (.inl rfl) q,⟨o,k _ _ (.inl rfl) e⟩,st⟩
def HOk.lt (x:HOk P w H h)(e:H a=some o):a<h.objs.size:=(x a o e).lt
theorem HOk.fresh (x:HOk P w H h)(e:h.objs.size<=a):H a=none:=by
 cases q:H a with
 |none=>rfl
 |some u=>exact absurd (F9 (x.lt q) e) (Y5 _)
def HOk.kept (x:HOk P w H h)(k:∀b u,h.get? b=some u->h'.get? b=some u):HOk P w H h':=λa o e=>
 (x a o e).stay (λb u _ q=>k b u q) (λ_ q=>q) λ_ _ q=>q
theorem HOk.laid (x:HOk P w H h)(k:∀b u,h.get? b=some u->h'.get? b=some u)(i:h.objs.size<=a)(d:ObjOk P w (Ag H a o) h' a o):HOk P w (Ag H a o) h':=λb u e=>by
 have f:=x.fresh i;by_cases g:b=a
 ·subst g;rw[qA1] at e;cases e;exact d
 ·rw[qA8 g] at e;exact(x b u e).stay (λc v _ q=>k c v q) (λc q=>by rw[qA8 (qA9 q f)];exact q) (λc j q=>by rw[qA8 (qA9 q f)];exact q) λc t q=>by rw[qA8 (qA9 q f)];exact q
end
def Rd (H:Hp)(a:Addr)(u:HO):Prop:=H a=some u\/∃o,H a=some (.frz o u)
theorem Rd.ok {H:Hp} {h:Heap} {a:Addr} {u:HO} (r:Rd H a u)(x:HOk P w H h):ObjOk P w H h a u:=by
 rcases r with r|⟨o,r⟩
 ·exact x a u r
 ·obtain⟨_,q⟩:=x a _ r;exact q
def Mut:Option HO->Prop
 |some (.lst _)=>True
 |some (.dK _)=>True
 |some (.dT _)=>True
 |some (.set _ _)=>True
 |some (.ins _ _ _)=>True
 |some (.ext _)=>True
 |_=>False
section
variable{P:B90}{w:World}{H:Hp}{h h':Heap}{x e:Addr}{o':HO}
theorem HOk.write (p:HOk P w H h)(f:Mut (H x))(m:e=x\/H e=some (.own x))(k:∀b u,b≠e->h.get? b=some u->h'.get? b=some u)(l:∃u,h'.get? e=some u)
  (j:ObjOk P w (Ag H x o') h' x o'):HOk P w (Ag H x o') h':=λb u q=>by
 have d:∀c y,H c=some (.own y)->c≠x:=λc y r z=>by subst z;rw[r] at f;exact f
 have g:∀c xs,H c=some (.tup xs)->c≠x:=λc xs r z=>by subst z;rw[r] at f;exact f
 by_cases i:b=x
 ·subst i;rw[qA1] at q;cases q;exact j
 ·rw[qA8 i] at q;by_cases a:b=e
  ·have n:H b=some (.own x):=by
    rcases m with z|z
    ·exact absurd (a.trans z) i
    ·rw[a];exact z
   rw[q] at n;cases n;obtain⟨v,o⟩:=l;exact⟨v,by rw[a];exact o⟩
  ·refine(p b u q).stay (λc v hc r=>k c v ?_ r) (λc r=>by rw[qA8 (d c b r)];exact r) (λc xs r=>by rw[qA8 (g c xs r)];exact r) λc t r=>by rw[qA8 (λz=>by subst z;rw[r] at f;exact f)];exact r
   rcases hc with rfl|hc
   ·exact a
   ·rintro rfl;rcases m with z|z
    ·exact d c b hc z
    ·rw[hc] at z;cases z;exact i rfl
end
structure Un (fs ex:List Addr)(H H':Hp)(h h':Heap):Prop where
 keep:∀b o,h.get? b=some o->H b=none->b∉fs->b∉ex->h'.get? b=some o
 slot:∀b o,h.get? b=some o->H b=none->b∈fs->b∉ex->∃sl,h'.get? b=some {o with slots:=sl}
 free:∀b o,h.get? b=some o->H b=none->b∉ex->H' b=none
 there:∀b o,h.get? b=some o->b∉ex->∃o',h'.get? b=some o'
 tups:∀b xs,H b=some (.tup xs)->H' b=some (.tup xs)
 frzs:∀b o u,H b=some (.frz o u)->H' b=some (.frz o u)
 tbls:∀b ps,H b=some (.tbl ps)->H' b=some (.tbl ps)
section
variable{fs fs' ex ex':List Addr}{H H1 H2:Hp}{h h1 h2 h':Heap}{a x e:Addr}{o:HO}
theorem Un.any (u:Un fs ex H H1 h h1){b:Addr}{a:Obj}(q:h.get? b=some a)(n:H b=none)(d:b∉ex):∃sl,h1.get? b=some {a with slots:=sl}:=by
 by_cases c:b∈fs
 ·exact u.slot b a q n c d
 ·exact⟨a.slots,u.keep b a q n c d⟩
def Un.kept (k:∀b u,h.get? b=some u->h'.get? b=some u):Un fs ex H H h h':=
 ⟨λb a q _ _ _=>k b a q,λb a q _ _ _=>⟨a.slots,k b a q⟩,λ_ _ _ n _=>n,λb a q _=>⟨a,k b a q⟩,λ_ _ q=>q,λ_ _ _ q=>q,λ_ _ q=>q⟩
def Un.refl:Un fs ex H H h h:=Un.kept λ_ _ q=>q
theorem Un.laid (k:∀b u,h.get? b=some u->h'.get? b=some u)(d:h.objs.size<=a)(c:H a=none):Un fs ex H (Ag H a o) h h' where
 keep:=λb u q _ _ _=>k b u q
 slot:=λb u q _ _ _=>⟨u.slots,k b u q⟩
 free:=λb u q n _=>by rw[qA8 (D7 (F9 (B5 q) d))];exact n
 there:=λb u q _=>⟨u,k b u q⟩
 tups:=λb e q=>by rw[qA8 (qA9 q c)];exact q
 frzs:=λb u e q=>by rw[qA8 (qA9 q c)];exact q
 tbls:=λb f q=>by rw[qA8 (qA9 q c)];exact q
theorem Un.write (c:Mut (H x))(l:e=x\/H e=some (.own x))(k:∀b u,b≠e->h.get? b=some u->h'.get? b=some u)(f:∃u,h'.get? e=some u):Un fs ex H (Ag H x o) h h':=by
 have i:∀b,H b=none->b≠x:=λb n z=>by subst z;rw[n] at c;exact c
 have g:∀b,H b=none->b≠e:=λb n z=>by
  subst z;rcases l with r|r
  ·exact i b n r
  ·rw[n] at r;cases r
 have d:∀b u,H b=some u->¬Mut (some u)->b≠x:=λb u q m z=>by subst z;rw[q] at c;exact m c
 refine⟨λb u q n _ _=>k b u (g b n) q,λb u q n _ _=>⟨u.slots,k b u (g b n) q⟩,λb u q n _=>by rw[qA8 (i b n)];exact n,λb u q _=>?_,
  λb j q=>by rw[qA8 (d b _ q λz=>z)];exact q,λb u j q=>by rw[qA8 (d b _ q λz=>z)];exact q,λb p q=>by rw[qA8 (d b _ q λz=>z)];exact q⟩
 by_cases a:b=e
 ·subst a;exact f
 ·exact⟨u,k b u a q⟩
end
def trk (h:Heap)(H:Hp):List Addr:=(G9 h.objs.size).filter λa=>(H a).isSome
def hidT (h:Heap)(H:Hp):Heap:=B40 h (trk h H)
def qUG (h:Heap)(H:Hp):(hidT h H).objs.size=h.objs.size:=PySem.W.hideAll_size _ _
theorem qWO {h:Heap} {H:Hp} {b:Addr} {o:Obj} (e:h.get? b=some o)(n:H b=none):(hidT h H).get? b=some o:=
 A95 _ e λa=>by
  have q:(H b).isSome=true:=(K0.mp a).2;rw[n] at q;simp at q
theorem qZD {h:Heap} {H:Hp} {b:Addr} {o:Obj} (e:(hidT h H).get? b=some o):h.get? b=some o/\H b=none:=by
 have c:h.get? b=some o:=B05 (trk h H) e;refine⟨c,?_⟩;cases q:H b with
 |none=>rfl
 |some x=>
  have f:b∈trk h H:=K0.mpr ⟨G3.mpr (B5 c),by simp[q]⟩
  have z:(hidT h H).get? b=none:=A80 (trk h H) f;rw[z] at e;cases e
noncomputable def qaH (g h:Heap)(L:Addr):Aa2:=(G9 h.objs.size).filterMap λa=>if a=L\/(g.get? a).isSome=true then none else(h.get? a).map λo=>(a,o)
def rest (g h:Heap)(L d:Addr):Aa2:=(qaH g h L).filter λp=>decide (p.1≠d)
structure Mod (K:Ab1)(mg:Ab0)(base:Heap):Prop where
 kin:K.In base
 glob:base.Ns C01 mg
 blt:∃mb,base.Ns builtinsNs mb/\∀x:Str,x ≠ "__name__"->mb x=B97 x
 nolimit:base.NoLimit
structure Cx where
 prog:B90
 w:World
 K:Ab1
 mg:Ab0
 base:Heap
 A:Around
 N:List Str
 s₀:Shared
 H₀:Hp
 env:Env
 outer:List Env
 stack:List Env
 ex:List Addr
 fn:Str->Bool
 calm:Bool
 pn:Aa2
 xe:Aa1
def frs (l:List Env):List Addr:=l.filterMap (·.frame)
abbrev Cx.fs (X:Cx):List Addr:=frs X.outer
def Vis (sc:Scope)(x:Str):Prop:=sc.names.lookup x=some .local\/sc.names.lookup x=some .cell\/sc.names.lookup x=some .free
def Loc (sc:Scope)(x:Str):Prop:=sc.names.lookup x=some .local\/sc.names.lookup x=some .cell
def Look (env:Env)(h:Heap)(m:Ab0)(x:Str)(u:Value):Prop:=
 (env.kindOf x=some .local/\m x=some u)\/((env.kindOf x=some .cell\/env.kindOf x=some .free)/\∃c,env.cells.lookup x=some c/\h.IsCell c (some u))
structure Cx.Ok (X:Cx):Prop where
 mod:Mod X.K X.mg X.base
 kind:X.env.scope.kind=.function
 glob:X.env.globals=C01
 blt:X.env.builtins=builtinsNs
 above:X.s₀.heap.objs.size<=X.env.locals
 inj:∀x y c,X.env.cells.lookup x=some c->X.env.cells.lookup y=some c->x=y
 has:∀x,(X.env.kindOf x=some .cell\/X.env.kindOf x=some .free)->∃c,X.env.cells.lookup x=some c
 cab:∀x c,X.fn x=true->X.env.cells.lookup x=some c->X.s₀.heap.objs.size<=c
 hd:X.calm=true->X.A.handled=none
 frames:X.A.frames=some X.stack
 stk:X.stack=X.outer\/(X.stack=X.env::X.outer/\X.env.frame=some X.env.locals)
 exf:∀b∈X.ex,b≠X.env.locals/\∀x c,X.env.cells.lookup x=some c->c≠b
 bs:∀b o,X.base.get? b=some o->X.s₀.heap.get? b=some o/\X.H₀ b=none
 bsz:X.base.objs.size<=X.s₀.heap.objs.size
 noex:∀b o,X.base.get? b=some o->b∉X.ex
 exfs:∀b∈X.ex,b∉X.fs
 funs:X.s₀.heap.FunFrames X.base X.outer
 frf:∀b∈X.fs,X.H₀ b=none
structure Inv (X:Cx)(Ab:Aa2)(σ:List (Option V))(H:Hp)(s:Shared):Prop where
 ok:X.Ok
 os:s.os=X.s₀.os
 bare:C46 s.gens
 base:Un X.fs X.ex X.H₀ H X.s₀.heap s.heap
 loc:∃m,s.heap.Ns X.env.locals m/\∀(i:Nat) (x:Str) (v:V),X.N[i]?=some x->σ[i]?=some (some v)->Vis X.env.scope x->∃u,RelV v u/\Look X.env s.heap m x u
 cell:∀x c,X.env.cells.lookup x=some c->∃v,s.heap.IsCell c v
 free:H X.env.locals=none
 freeC:∀x c,X.env.cells.lookup x=some c->H c=none
 pin:∀p∈X.pn++Ab,s.heap.get? p.1=some p.2/\H p.1=none/\p.1≠X.env.locals/\p.1∉X.fs/\∀v,p.2.data≠.cell v
 hok:HOk X.prog X.w H s.heap
 len:σ.length=X.N.length
section
variable{X:Cx}{Ab:Aa2}{σ:List (Option V)}{H H':Hp}{s:Shared}{h':Heap}
theorem Cx.Ok.nofr (c:X.Ok){b:Addr}{o:Obj}(e:X.base.get? b=some o):b∉X.fs:=λa=>by
 have:=(c.funs.mem a).1;rw[e] at this;cases this
def Inv.bs (I:Inv X Ab σ H s):∀b o,X.base.get? b=some o->s.heap.get? b=some o/\H b=none:=λb o e=>
 ⟨I.base.keep b o (I.ok.bs b o e).1 (I.ok.bs b o e).2 (I.ok.nofr e) (I.ok.noex b o e),I.base.free b o (I.ok.bs b o e).1 (I.ok.bs b o e).2 (I.ok.noex b o e)⟩
def Inv.bk (I:Inv X Ab σ H s):∀b o,X.base.get? b=some o->s.heap.get? b=some o:=λb o e=>(I.bs b o e).1
def Inv.mod (I:Inv X Ab σ H s):Mod X.K X.mg X.base:=I.ok.mod
def Inv.kIn (I:Inv X Ab σ H s):X.K.In s.heap:=I.ok.mod.kin.keeps I.bk
def Inv.lt (I:Inv X Ab σ H s):X.env.locals<s.heap.objs.size:=let⟨_,hn,_⟩:=I.loc;hn.lt
def Inv.sz (I:Inv X Ab σ H s):X.s₀.heap.objs.size<=s.heap.objs.size:=L5 I.ok.above (Z8 I.lt)
theorem Inv.nofs (I:Inv X Ab σ H s){a:Addr}(h:s.heap.objs.size<=a):a∉X.fs:=λb=>by
 obtain⟨_,o,c,_⟩:=I.ok.funs.mem b;exact absurd (F9 (B5 c) (L5 I.sz h)) (Y5 _)
theorem Inv.cne (I:Inv X Ab σ H s):∀x c,X.env.cells.lookup x=some c->c≠X.env.locals:=λx c e z=>by
 obtain⟨v,o,f,d⟩:=I.cell x c e;obtain⟨m,⟨i,g,h,a,b,_⟩,_⟩:=I.loc;rw[z,a] at f;cases f;rw[b] at d;cases d
theorem Inv.funs (I:Inv X Ab σ H s):s.heap.FunFrames X.base X.outer:=by
 have a:∀(l:List Env),(∀b∈frs l,b∈X.fs)->X.s₀.heap.FunFrames X.base l->s.heap.FunFrames X.base l:=by
  intro l
  induction l with
  |nil=>intro _ _;trivial
  |cons env r ih=>
   intro g i;obtain⟨n,⟨L,o,f,j,m,k⟩,h⟩:=i;have c:L∈X.fs:=g L (by unfold frs;rw[Y6,f];exact A8)
   obtain⟨p,e⟩:=I.base.slot L o m (I.ok.frf L c) c λz=>I.ok.exfs L z c;exact⟨n,⟨L,_,f,j,e,k⟩,ih (λb d=>g b (by unfold frs;rw[Y6,f];exact A7 _ d)) h⟩
 exact a X.outer (λ_ d=>d) I.ok.funs
theorem Inv.stack (I:Inv X Ab σ H s):s.heap.FunFrames X.base X.stack:=by
 rcases I.ok.stk with e|⟨e,hf⟩
 ·rw[e];exact I.funs
 ·rw[e];obtain⟨m,a,_⟩:=I.loc;refine .cons (by rw[I.ok.kind];decide) hf a ?_ I.funs
  exact Heap.get?_none_of_le (L5 I.ok.bsz I.ok.above)
theorem Inv.stkSub (I:Inv X Ab σ H s):∀b∈frs X.stack,b∈X.env.locals::X.fs:=λb a=>by
 rcases I.ok.stk with e|⟨e,hf⟩
 ·rw[e] at a;exact A7 _ a
 ·rw[e] at a;unfold frs at a;rw[Y6,hf] at a;exact a
theorem Inv.stkFree (I:Inv X Ab σ H s):∀b∈frs X.stack,H b=none:=λb hb=>by
 rcases B9.mp (I.stkSub b hb) with e|hb
 ·rw[e];exact I.free
 ·obtain⟨_,o,a,_⟩:=I.ok.funs.mem hb;exact I.base.free b o a (I.ok.frf b hb) λz=>I.ok.exfs b z hb
theorem Inv.step {g':Array C48} {t':Nat} {d':Drawn} {ch:List Addr} (I:Inv X Ab σ H s)
  (h:∀b∈ch,(b∈X.ex\/X.s₀.heap.objs.size<=b)/\b≠X.env.locals/\(∀x c,X.env.cells.lookup x=some c->c≠b)/\∀p∈X.pn++Ab,p.1≠b)
  (keep:∀b o,b≠X.env.locals->b∉X.fs->b∉ch->s.heap.get? b=some o->H b=none->h'.get? b=some o)
  (slot:∀b o,b≠X.env.locals->b∈X.fs->b∉ch->s.heap.get? b=some o->H b=none->∃sl,h'.get? b=some {o with slots:=sl}) (free:∀b o,b∉ch->s.heap.get? b=some o->H b=none->H' b=none)
  (there:∀b o,b∉ch->s.heap.get? b=some o->∃o',h'.get? b=some o')
  (tups:∀b xs,H b=some (.tup xs)->H' b=some (.tup xs)) (frzs:∀b o u,H b=some (.frz o u)->H' b=some (.frz o u)) (tbls:∀b ps,H b=some (.tbl ps)->H' b=some (.tbl ps))
  (ns:∀m,s.heap.Ns X.env.locals m->h'.Ns X.env.locals m) (a2:HOk X.prog X.w H' h') (hg:C46 g'):
  Inv X Ab σ H' {s with heap:=h',gens:=g',drawn:=d',toks:=t'}:=by
 have a0:∀b o,X.s₀.heap.get? b=some o->b≠X.env.locals:=λb o e=>D7 (F9 (B5 e) I.ok.above);have j:∀b o,X.s₀.heap.get? b=some o->b∉X.ex->b∉ch:=λb o e a t=>by
  rcases(h b t).1 with z|z
  ·exact a z
  ·exact absurd (F9 (B5 e) z) (Y5 _)
 have g:∀x c,X.env.cells.lookup x=some c->∀v,s.heap.IsCell c v->h'.IsCell c v:=λx c e v ⟨o,ho,hd⟩=>by
  have f:c∉ch:=λz=>(h c z).2.2.1 x c e rfl;by_cases hc:c∈X.fs
  ·obtain⟨sl,q⟩:=slot c o (I.cne x c e) hc f ho (I.freeC x c e);exact⟨_,q,hd⟩
  ·exact⟨o,keep c o (I.cne x c e) hc f ho (I.freeC x c e),hd⟩
 refine⟨I.ok,I.os,hg,⟨λb o e n t a=>?_,λb o e n t a=>?_,λb o e n a=>?_,λb o e a=>?_,λb xs e=>tups b xs (I.base.tups b xs e),λb o xs e=>frzs b o xs (I.base.frzs b o xs e),λb ps e=>?_⟩,?_,λx c e=>?_,?_,λx c e=>?_,λp hp=>?_,a2,I.len⟩
 ·exact keep b o (a0 b o e) t (j b o e a) (I.base.keep b o e n t a) (I.base.free b o e n a)
 ·obtain⟨sl,y⟩:=I.base.slot b o e n t a;obtain⟨a1,e2⟩:=slot b _ (a0 b o e) t (j b o e a) y (I.base.free b o e n a);exact⟨a1,e2⟩
 ·obtain⟨o',y⟩:=I.base.there b o e a;exact free b o' (j b o e a) y (I.base.free b o e n a)
 ·obtain⟨o',y⟩:=I.base.there b o e a;exact there b o' (j b o e a) y
 ·exact tbls b ps (I.base.tbls b ps e)
 ·obtain⟨m,hn,hl⟩:=I.loc;refine⟨m,ns m hn,λi x v y e2 e3=>?_⟩;obtain⟨u,r,l⟩:=hl i x v y e2 e3;refine⟨u,r,?_⟩;rcases l with l|⟨k,c,e,z⟩
  ·exact .inl l
  ·exact .inr ⟨k,c,e,g x c e _ z⟩
 ·obtain⟨v,z⟩:=I.cell x c e;exact⟨v,g x c e v z⟩
 ·obtain⟨m,⟨o,_,_,ho,_⟩,_⟩:=I.loc;exact free _ o (λz=>(h _ z).2.1 rfl) ho I.free
 ·obtain⟨v,o,ho,hd⟩:=I.cell x c e;exact free c o (λz=>(h c z).2.2.1 x c e rfl) ho (I.freeC x c e)
 ·obtain⟨e,n,ne,nf,d⟩:=I.pin p hp;have f:p.1∉ch:=λz=>(h p.1 z).2.2.2 p hp rfl;exact⟨keep p.1 p.2 ne nf f e n,free p.1 p.2 f e n,ne,nf,d⟩
theorem Inv.un {t':Nat} (I:Inv X Ab σ H s)(u:Un X.fs [] H H' s.heap h')(c:HOk X.prog X.w H' h'):Inv X Ab σ H' {s with heap:=h',toks:=t'}:=by
 obtain⟨m,⟨o,v,t,h,r⟩,_⟩:=id I.loc;obtain⟨p,j⟩:=u.any h I.free (by simp)
 exact I.step (g':=s.gens) (d':=s.drawn) (ch:=[]) (fun _ z=>nomatch z) (fun b o _ g _ e n=>u.keep b o e n g (by simp)) (fun b o _ g _ e n=>u.slot b o e n g (by simp)) (fun b o _ e n=>u.free b o e n (by simp)) (fun b o _ e=>u.there b o e (by simp)) u.tups u.frzs u.tbls (fun q k=>by
  obtain⟨l,f,d,a,i⟩:=k;rw[h] at a;cases a;exact⟨_,f,d,j,i⟩) c I.bare
theorem Inv.call {g':Array C48} {t':Nat} {d':Drawn} {ch:List Addr} (I:Inv X Ab σ H s)(u:Un (frs X.stack) ch H H' s.heap h')(h:HOk X.prog X.w H' h')(l:C46 g')
  (d:∀b∈ch,(b∈X.ex\/X.s₀.heap.objs.size<=b)/\b≠X.env.locals/\(∀x c,X.env.cells.lookup x=some c->c≠b)/\∀p∈X.pn++Ab,p.1≠b):
  Inv X Ab σ H' {s with heap:=h',gens:=g',drawn:=d',toks:=t'}:=by
 obtain ⟨m,⟨o,es,ep,k,r⟩,_⟩:=id I.loc;obtain ⟨sl,g⟩:=u.any k I.free fun z=>(d _ z).2.1 rfl;exact I.step (ch:=ch) d (fun b o g t a e n=>u.keep b o e n (fun z=>(B9.mp (I.stkSub b z)).elim g t) a) (fun b o _ _ a e n=>u.any e n a) (fun b o a e n=>u.free b o e n a) (fun b o a e=>u.there b o e a) u.tups u.frzs u.tbls (fun m' v=>by
  obtain⟨y,j,i,f,q⟩:=v;rw[k] at f;cases f;exact⟨_,j,i,g,q⟩) h l
theorem Inv.turned {t':Nat} {a:Addr} (I:Inv X Ab σ H s)(k:∀b o,b≠a->s.heap.get? b=some o->h'.get? b=some o)(i:H a=none)(g:a≠X.env.locals)
  (l:a∈X.ex\/X.s₀.heap.objs.size<=a) (h:∀x c,X.env.cells.lookup x=some c->c≠a) (j:∀p∈X.pn++Ab,p.1≠a):Inv X Ab σ H {s with heap:=h',toks:=t'}:=by
 have f:∀b u,H b=some u->b≠a:=λb u e z=>by rw[z,i] at e;cases e
 refine I.step (g':=s.gens) (d':=s.drawn) (ch:=[a]) (λb y=>?_) (λb o _ _ d e _=>k b o (λz=>d (by simp[z])) e) (λb o _ _ d e _=>⟨o.slots,k b o (λz=>d (by simp[z])) e⟩) (λ_ _ _ _ n=>n)
  (λb o d e=>⟨o,k b o (λz=>d (by simp[z])) e⟩) (λ_ _ e=>e) (λ_ _ _ e=>e) (λ_ _ e=>e) (λm hm=>?_) (λb u e=>?_) I.bare
 ·have e:b=a:=by simpa using y
  subst e;exact⟨l,g,h,j⟩
 ·obtain⟨o,t,w,ho,r⟩:=hm;exact⟨o,t,w,k _ o (K9 g) ho,r⟩
 ·refine(I.hok b u e).stay (λc v d q=>k c v ?_ q) (λ_ q=>q) λ_ _ q=>q;rcases d with z|z
  ·rw[z];exact f b u e
  ·exact f c _ z
def Inv.tok (I:Inv X Ab σ H s)(t:Nat):Inv X Ab σ H {s with toks:=t}:=I.un (h':=s.heap) (t':=t) Un.refl I.hok
def Inv.kept {t':Nat} (I:Inv X Ab σ H s)(k:∀b u,s.heap.get? b=some u->h'.get? b=some u):Inv X Ab σ H {s with heap:=h',toks:=t'}:=I.un (Un.kept k) (I.hok.kept k)
def Inv.laid {a:Addr} {o:HO} {t':Nat} (I:Inv X Ab σ H s)(k:∀b u,s.heap.get? b=some u->h'.get? b=some u)(c:s.heap.objs.size<=a)(d:ObjOk X.prog X.w (Ag H a o) h' a o):
  Inv X Ab σ (Ag H a o) {s with heap:=h',toks:=t'}:=I.un (Un.laid k c (I.hok.fresh c)) (I.hok.laid k c d)
def Inv.write {x e:Addr} {o:HO} {t':Nat} (I:Inv X Ab σ H s)(d:Mut (H x))(f:e=x\/H e=some (.own x))(k:∀b u,b≠e->s.heap.get? b=some u->h'.get? b=some u)(a:∃u,h'.get? e=some u)
  (c:ObjOk X.prog X.w (Ag H x o) h' x o):Inv X Ab σ (Ag H x o) {s with heap:=h',toks:=t'}:=I.un (Un.write d f k a) (I.hok.write d f k a c)
def Inv.pins_of {a:Aa2} (I:Inv X Ab σ H s)(h:∀p∈a,s.heap.get? p.1=some p.2/\H p.1=none/\p.1≠X.env.locals/\p.1∉X.fs/\∀v,p.2.data≠.cell v):Inv X a σ H s:=
 ⟨I.ok,I.os,I.bare,I.base,I.loc,I.cell,I.free,I.freeC,λp b=>(C1.mp b).elim (λz=>I.pin p (L6 _ z)) (h p),I.hok,I.len⟩
theorem qQI {N:List Str} (c:N.Nodup){i j:Nat}{x:Str}(a:N[i]?=some x)(b:N[j]?=some x):i=j:=by
 obtain⟨g,e⟩:=A3.mp a;obtain⟨f,d⟩:=A3.mp b;exact(List.getElem_inj c).mp (e.trans d.symm)
theorem qMY {M:Model} {i:Nat} {x:Str} {v:V} {u:Value} {Q:Unit->Shared->Prop} (I:Inv X Ab σ H s)(hN:X.N.Nodup)(hi:X.N[i]?=some x)(t:Loc X.env.scope x)(r:RelV v u)
  (h:∀s',Inv X Ab (σ.set i (some v)) H s'->(∃a,Heap.SameBut a s.heap s'.heap/\(a=X.env.locals\/X.env.cells.lookup x=some a))->Q () s') (hf:X.fn x=true\/X.env.scope.names.lookup x=some .local:=by first|exact .inl rfl|exact .inr rfl|assumption):wpAny M A (storeName X.env x u) Q E s:=by
 obtain⟨m,hn,hl⟩:=id I.loc;have a6:(X.env.scope.kind == .class||(X.env.scope.kind == .module&&X.env.locals != X.env.globals))=false:=by rw[I.ok.kind];rfl
 have a5:i<σ.length:=by rw[I.len];exact(A3.mp hi).1
 have cne:=I.cne;have g:∀{a:Addr} {h':Heap},(∃o,s.heap.get? a=some o/\H a=none)->Heap.SameBut a s.heap h'->HOk X.prog X.w H h':=λ{a h'} ha f b ob e=>by
  obtain⟨_,_,a0⟩:=ha;refine(I.hok b ob e).stay (λc w' hc q=>(f.2 c ?_).trans q) (λ_ q=>q) λ_ _ q=>q;rintro rfl;rcases hc with rfl|hc
  ·rw[a0] at e;cases e
  ·rw[a0] at hc;cases hc
 rcases t with hk|hk
 ·refine wpAny_storeName_local hk hn (λh' a9 f=>?_) a6;obtain⟨oL,_,_,a8,_⟩:=id hn;refine h _ ⟨I.ok,I.os,I.bare,⟨λb o e n hb t=>?_,λb o e n hb t=>?_,I.base.free,λb o e t=>?_,I.base.tups,I.base.frzs,I.base.tbls⟩,⟨_,a9,λj y v' l e2 e3=>?_⟩,λy c e=>?_,I.free,I.freeC,λp hp=>?_,g ⟨oL,a8,I.free⟩ f,by simpa using I.len⟩ ⟨_,f,.inl rfl⟩
  ·exact(f.2 b (D7 (F9 (B5 e) I.ok.above))).trans (I.base.keep b o e n hb t)
  ·obtain⟨sl,l⟩:=I.base.slot b o e n hb t;exact⟨sl,(f.2 b (D7 (F9 (B5 e) I.ok.above))).trans l⟩
  ·obtain⟨o',l⟩:=I.base.there b o e t;exact⟨o',(f.2 b (D7 (F9 (B5 e) I.ok.above))).trans l⟩
  ·by_cases hj:j=i
   ·subst hj;rw[hi] at l;cases l;rw[U8 a5] at e2;cases e2;exact⟨u,r,.inl ⟨hk,by simp⟩⟩
   ·rw[d9 (K9 hj)] at e2;obtain⟨u',r',q⟩:=hl j y v' l e2 e3;refine⟨u',r',?_⟩;rcases q with⟨k,e⟩|⟨k,c,e,z⟩
    ·refine .inl ⟨k,?_⟩;have:y≠x:=λe=>hj (qQI hN l (e▸hi));simp[this,e]
    ·exact .inr ⟨k,c,e,z.sameBut f (cne y c e)⟩
  ·obtain⟨w',z⟩:=I.cell y c e;exact⟨w',z.sameBut f (cne y c e)⟩
  ·obtain⟨e,n,ne,nf,d⟩:=I.pin p hp;exact⟨(f.2 p.1 ne).trans e,n,ne,nf,d⟩
 ·have a1:X.fn x=true:=by
   rcases hf with z|z
   ·exact z
   ·rw[z] at hk;cases hk
  obtain⟨c,hc⟩:=I.ok.has x (.inl hk);obtain⟨w',z⟩:=I.cell x c hc;refine wpAny_storeName_cell I.ok.kind hk hc z (λh' a2 f=>?_);obtain⟨oc,a3,a4⟩:=id z;refine h {s with heap:=h'} ⟨I.ok,I.os,I.bare,⟨λb o e n hb t=>?_,λb o e n hb t=>?_,I.base.free,λb o e t=>?_,I.base.tups,I.base.frzs,I.base.tbls⟩,⟨m,hn.sameBut f (K9 (cne x c hc)),λj y v' l e2 e3=>?_⟩,λy c' e=>?_,I.free,I.freeC,λp hp=>?_,g ⟨oc,a3,I.freeC x c hc⟩ f,by simpa using I.len⟩ ⟨c,f,.inr hc⟩
  ·exact(f.2 b (D7 (F9 (B5 e) (I.ok.cab x c a1 hc)))).trans (I.base.keep b o e n hb t)
  ·obtain⟨sl,l⟩:=I.base.slot b o e n hb t;exact⟨sl,(f.2 b (D7 (F9 (B5 e) (I.ok.cab x c a1 hc)))).trans l⟩
  ·obtain⟨o',l⟩:=I.base.there b o e t;exact⟨o',(f.2 b (D7 (F9 (B5 e) (I.ok.cab x c a1 hc)))).trans l⟩
  ·by_cases hj:j=i
   ·subst hj;rw[hi] at l;cases l;rw[U8 a5] at e2;cases e2;exact⟨u,r,.inr ⟨.inl hk,c,hc,a2⟩⟩
   ·rw[d9 (K9 hj)] at e2;obtain⟨u',r',q⟩:=hl j y v' l e2 e3;refine⟨u',r',?_⟩;rcases q with q|⟨k,c',e,z'⟩
    ·exact .inl q
    ·refine .inr ⟨k,c',e,z'.sameBut f ?_⟩;rintro rfl;exact hj (qQI hN l (I.ok.inj _ _ _ e hc▸hi))
  ·by_cases a7:c'=c
   ·subst a7;exact⟨_,a2⟩
   ·obtain⟨w2,z2⟩:=I.cell y c' e;exact⟨w2,z2.sameBut f a7⟩
  ·obtain⟨e,n,ne,nf,d⟩:=I.pin p hp;refine⟨(f.2 p.1 ?_).trans e,n,ne,nf,d⟩;intro q;rw[q,a3] at e;have q':oc=p.2:=G0 e;exact d w' (by rw[<- q'];exact a4)
theorem qJ7 {M:Model} {i:Nat} {x:Str} {v:V} {u:Value} {Q:Unit->Shared->Prop} (I:Inv X Ab σ H s)(a:X.N.Nodup)(hi:X.N[i]?=some x)(c:Loc X.env.scope x)(r:RelV v u)
  (h:∀s',Inv X Ab (σ.set i (some v)) H s'->Q () s') (d:X.fn x=true\/X.env.scope.names.lookup x=some .local:=by first|exact .inl rfl|exact .inr rfl|assumption):wpAny M A (storeName X.env x u) Q E s:=
 qMY I a hi c r (λs' b _=>h s' b) d
theorem Inv.call' {ch:List Addr} (I:Inv X Ab σ H s)(h:s'.os=s.os)(u:Un (frs X.stack) ch H H' s.heap s'.heap)(a:HOk X.prog X.w H' s'.heap)(f:C46 s'.gens)
  (d:∀b∈ch,(b∈X.ex\/X.s₀.heap.objs.size<=b)/\b≠X.env.locals/\(∀x c,X.env.cells.lookup x=some c->c≠b)/\∀p∈X.pn++Ab,p.1≠b):Inv X Ab σ H' s':=by
 obtain⟨i,g',d',t',g⟩:=s';have e:g=s.os:=h;subst e;exact I.call (g':=g') (t':=t') (d':=d') u a f d
end
abbrev XK:=Value->Option Addr->Hp->Prop
abbrev St:=List (Option V)
abbrev VK:=V->Hp->Prop
abbrev TE:=St->Hp->VK->Prop
abbrev TT:=St->Hp->(Bool->Hp->Prop)->Prop
abbrev TA:=St->Hp->(List V->Hp->Prop)->Prop
structure Ends where
 nx:St->Hp->Prop
 rt:VK
 bk:St->Hp->Prop:=λ_ _=>False
 ct:St->Hp->Prop:=λ_ _=>False
abbrev TS:=Ends->St->Hp->Prop
def EP (X:Cx)(Ab:Aa2)(σ:St)(Q:VK)(u:Value)(s':Shared):Prop:=∃v H',Inv X Ab σ H' s'/\RelV v u/\Q v H'
def TP (X:Cx)(Ab:Aa2)(σ:St)(Q:Bool->Hp->Prop)(b:Bool)(s':Shared):Prop:=∃H',Inv X Ab σ H' s'/\Q b H'
def AP (X:Cx)(Ab:Aa2)(σ:St)(Q:List V->Hp->Prop)(us:List Value)(s':Shared):Prop:=∃vs H',Inv X Ab σ H' s'/\Vals vs us/\Q vs H'
def SP (X:Cx)(Ab:Aa2)(D:Ends)(f:Flow)(s':Shared):Prop:=
 match f with
 |.next=>∃σ' H',Inv X Ab σ' H' s'/\D.nx σ' H'
 |.brk=>∃σ' H',Inv X Ab σ' H' s'/\D.bk σ' H'
 |.cont=>∃σ' H',Inv X Ab σ' H' s'/\D.ct σ' H'
 |.ret u=>∃v σ' H',Inv X Ab σ' H' s'/\RelV v u/\D.rt v H'
def PE (X:Cx)(e:Expr)(t:TE):Prop:=
 ∀(Ab:Aa2) (s:Shared) (σ:St) (H:Hp) (Q:VK),Inv X Ab σ H s->t σ H Q->wpAny (model X.prog X.w) X.A (eval e X.env) (EP X Ab σ Q) X.xe s
def PT (X:Cx)(e:Expr)(t:TT):Prop:=
 ∀(Ab:Aa2) (s:Shared) (σ:St) (H:Hp) (Q:Bool->Hp->Prop),Inv X Ab σ H s->t σ H Q->wpAny (model X.prog X.w) X.A (isTrue e X.env (eval e X.env)) (TP X Ab σ Q) X.xe s
def PW (X:Cx)(e:Expr)(t:TT):Prop:=
 ∀(whole:Sem Value) (Ab:Aa2) (s:Shared) (σ:St) (H:Hp) (Q:Bool->Hp->Prop),Inv X Ab σ H s->t σ H Q->wpAny (model X.prog X.w) X.A (isTrue e X.env whole) (TP X Ab σ Q) X.xe s
def PW.pt {X:Cx} {e:Expr} {t:TT} (h:PW X e t):PT X e t:=h _
def PA (X:Cx)(es:List Expr)(t:TA):Prop:=
 ∀(pos:Pos) (Ab:Aa2) (s:Shared) (σ:St) (H:Hp) (Q:List V->Hp->Prop),Inv X Ab σ H s->t σ H Q->wpAny (model X.prog X.w) X.A (spliced (backTo pos (B95 es X.env))) (AP X Ab σ Q) X.xe s
def PS (X:Cx)(st:Stmt)(t:TS):Prop:=
 ∀(Ab:Aa2) (s:Shared) (σ:St) (H:Hp) (D:Ends),Inv X Ab σ H s->t D σ H->wpAny (model X.prog X.w) X.A (exec st X.env) (SP X Ab D) X.xe s
def PSs (X:Cx)(st:List Stmt)(t:TS):Prop:=
 ∀(Ab:Aa2) (s:Shared) (σ:St) (H:Hp) (D:Ends),Inv X Ab σ H s->t D σ H->wpAny (model X.prog X.w) X.A (execs st X.env) (SP X Ab D) X.xe s
def thn {α:Type} {t:Sem α} {Q Q':α->Shared->Prop} {M:Model} (h:wpAny M A t Q E s)(b:∀a s,Q a s->Q' a s):wpAny M A t Q' E s:=B96 h b λ_ _ x=>x
section
variable{X:Cx}
theorem bin {a b:Expr} {d c:TE} (e:PE X a d)(g:PE X b c){Ab:Aa2}{s:Shared}{σ:St}{H:Hp}{R:V->V->Hp->Prop}(I:Inv X Ab σ H s)(h:d σ H λx H1=>c σ H1 λy H2=>R x y H2)
  {α:Type} {Q:α->Shared->Prop} {f:Value->Value->Sem α}
  (i:∀v u s2 x y H2,Inv X Ab σ H2 s2->RelV x v->RelV y u->R x y H2->wpAny (model X.prog X.w) X.A (f v u) Q X.xe s2):
  wpAny (model X.prog X.w) X.A (eval a X.env) (λv s₁=>wpAny (model X.prog X.w) X.A (eval b X.env) (λu s₂=>wpAny (model X.prog X.w) X.A (f v u) Q X.xe s₂) X.xe s₁) X.xe s:=by
 exact thn (e Ab s σ H _ I h) λv s1 ⟨x,H1,I1,r1,q1⟩=>thn (g Ab s1 σ H1 _ I1 q1) λu s2 ⟨y,H2,I2,r2,q2⟩=>i v u s2 x y H2 I2 r1 r2 q2
def tVar (i:Nat):TE:=λσ H Q=>∃v,σ[i]?=some (some v)/\Q v H
def tC (v:V):TE:=λ_ H Q=>Q v H
theorem qbL {i:Nat} {x:Str} {d:Pos} (n:X.N[i]?=some x) (k:Vis X.env.scope x) (g:(x==("__debug__" : Str))=false:=by decide) (f:(x==("__classdict__" : Str))=false:=by decide):PE X (.Name x d) (tVar i):=by
 intro o s σ H Q I h;obtain⟨v,e,h⟩:=h;obtain⟨m,q,p⟩:=I.loc;obtain⟨u,r,l⟩:=p i x v n e k;have b:EP X o σ Q u s:=⟨v,H,I,r,h⟩;rcases l with⟨hk,t⟩|⟨hk,c,j,a⟩
 ·exact wpAny_Name (wpAny_loadName_local I.ok.kind hk q t b) g
 ·rcases hk with hk|hk
  ·exact wpAny_Name (wpAny_loadName_cell I.ok.kind hk j a b) g
  ·exact wpAny_Name (wpAny_loadName_free I.ok.kind hk j a b f) g
def qA6 :PE X (.Constant (.int i) j pos) (tC (.int i)):=λ_ _ _ H _ I h=>wpAny_Constant_int ⟨.int i,H,I.tok _,⟨_,rfl⟩,h⟩
def qCJ :PE X (.Constant (.bool b) j pos) (tC (.bl b)):=λ_ _ _ H _ I h=>Constant_bool ⟨.bl b,H,I,rfl,h⟩
def qbM :PE X (.Constant .none j pos) (tC .non):=λ_ _ _ H _ I h=>Constant_none ⟨.non,H,I,rfl,h⟩
def qJV :PE X (.Constant (.str x) j pos) (tC (.str x)):=λ_ _ _ H _ I h=>Calls.Constant_str ⟨.str x,H,I.tok _,⟨_,rfl⟩,h⟩
def Gl (X:Cx)(x:Str):Prop:=X.env.kindOf x=some .globalImplicit
theorem qK0 {Ab:Aa2} {σ:St} {H:Hp} {x:Str} {u:Value} {a:Pos} {Q:Aa1} (I:Inv X Ab σ H s)(d:Gl X x)(b:X.mg x=some u)(h:Q u s)
  (c:(x==("__debug__" : Str))=false:=by decide):wpAny (model X.prog X.w) X.A (eval (.Name x a) X.env) Q E s:=
 Calls.Name_function_global I.ok.kind d (Calls.loadGlobal_global (by rw[I.ok.glob];exact I.mod.glob.keeps I.bk) b h) c
theorem qIO {Ab:Aa2} {σ:St} {H:Hp} {x:Str} {u:Value} {a:Pos} {Q:Aa1} (I:Inv X Ab σ H s)(d:Gl X x)(i:X.mg x=none)(b:B97 x=some u)(h:Q u s)
  (e:x ≠ "__name__":=by decide) (g:(x==("__debug__" : Str))=false:=by decide):wpAny (model X.prog X.w) X.A (eval (.Name x a) X.env) Q E s:=by
 obtain⟨j,f,c⟩:=I.mod.blt;exact Calls.Name_function_global I.ok.kind d (Calls.loadGlobal_builtin (by rw[I.ok.glob];exact I.mod.glob.keeps I.bk) i (by rw[I.ok.blt];exact f.keeps I.bk) ((c x e).trans b) h) g
theorem qCO {x:Str} {v:V} {u:Value} {a:Pos} (d:Gl X x) (b:X.mg x=some u) (r:RelV v u) (c:(x==("__debug__" : Str))=false:=by decide):PE X (.Name x a) (tC v):=
 λ_ _ _ H _ I h=>qK0 I d b ⟨v,H,I,r,h⟩ c
theorem qBH {x:Str} {v:V} {u:Value} {a:Pos} (c:Gl X x) (f:X.mg x=none) (b:B97 x=some u) (r:RelV v u) (d:x ≠ "__name__":=by decide) (e:(x==("__debug__" : Str))=false:=by decide):PE X (.Name x a) (tC v):=
 λ_ _ _ H _ I h=>qIO I c f b ⟨v,H,I,r,h⟩ d e
variable{a b:Expr}{ta tb:TE}{pos:Pos}
def PC (X:Cx)(op:CmpOp)(a b:Expr)(t:TE):Prop:=
 ∀(Ab:Aa2) (s:Shared) (σ:St) (H:Hp) (Q:VK),Inv X Ab σ H s->t σ H Q->
  wpAny (model X.prog X.w) X.A (eval a X.env) (λv s₁=>wpAny (model X.prog X.w) X.A (eval b X.env) (λu s₂=>wpAny (model X.prog X.w) X.A (C03 op v u) (EP X Ab σ Q) X.xe s₂) X.xe s₁) X.xe s
theorem qQJ (b:Expr){op:CmpOp}(h:op≠.In)(c:op≠.NotIn):C30 op b=false:=by
 have d:(op==CmpOp.In)=false:=by cases op<;>first|rfl|exact absurd rfl h
 have a:(op==CmpOp.NotIn)=false:=by cases op<;>first|rfl|exact absurd rfl c
 cases b<;>simp[C30,d,a]
def tIsN (ta:TE):TE:=λσ H Q=>ta σ H λx H1=>Q (.bl (decide (x=.non))) H1
theorem RelV.none_iff {x:V} {v:Value} (r:RelV x v):(v==Q3)=decide (x=.non):=by
 cases x with
 |non=>cases r;rfl
 |bl _=>cases r;rfl
 |int _=>obtain⟨t,rfl⟩:=r;rfl
 |str _=>obtain⟨t,rfl⟩:=r;rfl
 |byt _=>obtain⟨t,rfl⟩:=r;rfl
 |flt _=>obtain⟨t,rfl⟩:=r;rfl
 |ref _=>cases r;rfl
 |ty _=>cases r;rfl
theorem qXS (b:PE X a ta):PC X .Is a (.Constant .none j pos') (tIsN ta):=by
 intro c s σ H Q I h;exact thn (b c s σ H _ I h) λv s1 ⟨x,H1,I1,r1,q1⟩=>Constant_none (is_none_gen ⟨.bl _,H1,I1,by rw[r1.none_iff];rfl,q1⟩)
def tB (t:TE):TT:=λσ H Q=>t σ H λx H1=>∃c,x=.bl c/\Q c H1
theorem qbN {op:CmpOp} {t:TE} (h:PC X op a b t)(c:C30 op b=false:=by first|exact qQJ _ (by decide) (by decide)|rfl):PE X (.Compare a [op] [b] pos) t:=λd s σ H Q I e=>wpAny_Compare1 (h d s σ H Q I e) c
theorem qIM {op:CmpOp} {t:TE} (h:PC X op a b t)(e:C30 op b=false:=by first|exact qQJ _ (by decide) (by decide)|rfl):PT X (.Compare a [op] [b] pos) (tB t):=by
 intro g s σ H Q I i;refine wpAny_isTrue_Compare1 (thn (h g s σ H _ I i) λv j e=>thn e λu k f=>thn f λc s3 ⟨x,H1,I1,r1,q1⟩=>?_) e;obtain⟨d,rfl,q⟩:=q1;cases r1;exact C08 ⟨H1,I1,q⟩
theorem qC1 {e:Expr} {t:TE} (h:PE X e t)(b:∀whole,isTrue e X.env whole=(do let v <- whole;standAt e.pos;C49 [v] (truthy v)):=by intro _;rfl):PT X e (tB t):=by
 intro a s σ H Q I c;refine isTrue_plain (thn (h a s σ H _ I c) λv s1 ⟨x,H1,I1,r1,q1⟩=>?_) (b _);obtain⟨d,rfl,q⟩:=q1;cases r1;exact C08 ⟨H1,I1,q⟩
variable{tA tB':TT}{rest:List Expr}
def tAnd (t u:TT):TT:=λσ H Q=>t σ H λc H1=>if c=true then u σ H1 Q else Q false H1
def tOr (t u:TT):TT:=λσ H Q=>t σ H λc H1=>if c=true then Q true H1 else u σ H1 Q
def tNot (t:TT):TT:=λσ H Q=>t σ H λc H1=>Q (!c) H1
theorem qM2 (b:PT X a tA):PW X (.BoolOp .And [a] pos) tA:=by
 intro g d s σ H Q I h;refine isTrue_and (thn (b d s σ H Q I h) λc f e=>?_);cases c with
 |true=>exact isTrue_and_nil e
 |false=>exact e
theorem qEG (b:PT X a tA):PW X (.BoolOp .Or [a] pos) tA:=by
 intro g d s σ H Q I h;refine isTrue_or (thn (b d s σ H Q I h) λc f e=>?_);cases c with
 |false=>exact isTrue_or_nil e
 |true=>exact e
theorem qQ8 (e:PT X a tA)(f:PW X (.BoolOp .And (b::rest) pos) tB'):PW X (.BoolOp .And (a::b::rest) pos) (tAnd tA tB'):=by
 intro g d s σ H Q I h;refine isTrue_and (thn (e d s σ H _ I h) λc s1 ⟨H1,I1,q1⟩=>?_);cases c with
 |true=>exact f g d s1 σ H1 Q I1 q1
 |false=>exact⟨H1,I1,q1⟩
theorem qHB (e:PT X a tA)(f:PW X (.BoolOp .Or (b::rest) pos) tB'):PW X (.BoolOp .Or (a::b::rest) pos) (tOr tA tB'):=by
 intro g d s σ H Q I h;refine isTrue_or (thn (e d s σ H _ I h) λc s1 ⟨H1,I1,q1⟩=>?_);cases c with
 |true=>exact⟨H1,I1,q1⟩
 |false=>exact f g d s1 σ H1 Q I1 q1
theorem qC2 (b:PT X a tA):PT X (.UnaryOp .Not a pos) (tNot tA):=by
 intro d s σ H Q I h;exact isTrue_not (b d s σ H (λc e=>Q (!c) e) I h)
def qdA (ta tb:TE):TE:=λσ H Q=>ta σ H λx H1=>∃c,x=.bl c/\if c=true then tb σ H1 Q else Q (.bl false) H1
def qd1 (ta:TE):TE:=λσ H Q=>ta σ H λx H1=>∃c,x=.bl c/\Q (.bl (!c)) H1
def qIN {t:TE} (h:PE X a t):PE X (.BoolOp op [a] pos) t:=λb s σ H Q I c=>BoolOp_one (h b s σ H Q I c)
theorem qGD (e:PE X a ta)(f:PE X (.BoolOp .And (b::rest) pos) tb):PE X (.BoolOp .And (a::b::rest) pos) (qdA ta tb):=by
 intro d s σ H Q I h;refine BoolOp_and (thn (e d s σ H _ I h) λv s1 ⟨x,H1,I1,r1,q1⟩=>?_);obtain⟨c,rfl,q1⟩:=q1;cases r1;refine C08 ?_;cases c with
 |true=>exact f d s1 σ H1 Q I1 q1
 |false=>exact⟨.bl false,H1,I1,rfl,q1⟩
theorem qTD (b:PE X a ta):PE X (.UnaryOp .Not a pos) (qd1 ta):=by
 intro d s σ H Q I h;refine UnaryOp_ (thn (b d s σ H _ I h) λv s1 ⟨x,H1,I1,r1,q1⟩=>?_);obtain⟨c,rfl,q1⟩:=q1;cases r1;exact not_of (C08 ⟨.bl (!c),H1,I1,rfl,q1⟩)
def tIf (t:TT)(ta tb:TE):TE:=λσ H Q=>t σ H λc H1=>if c=true then ta σ H1 Q else tb σ H1 Q
theorem qJE {c:Expr} (i:PT X c tA)(f:PE X a ta)(g:PE X b tb):PE X (.IfExp c a b pos) (tIf tA ta tb):=by
 intro e s σ H Q I h;refine wpAny_IfExp (thn (i e s σ H _ I h) λd s1 ⟨H1,I1,q1⟩=>?_);cases d with
 |true=>exact f e s1 σ H1 Q I1 q1
 |false=>exact g e s1 σ H1 Q I1 q1
end
def SqL (K:Ab1)(H:Hp)(a:Addr)(xs:List V):Prop:=
 Rd H a (.lst xs)\/
  ∃(o:Obj) (its:Array Value) (n:Nat),K.lookup a=some o/\o.cls=.type "list"/\o.dict=none/\o.data=.seq its n/\its.size<=B89/\Vals xs its.toList
def SqT (K:Ab1)(H:Hp)(a:Addr)(xs:List V):Prop:=
 Rd H a (.tup xs)\/
  ∃(o:Obj) (its:Array Value) (n:Nat),K.lookup a=some o/\o.cls=.type "tuple"/\o.data=.seq its n/\its.size<=B89/\Vals xs its.toList
noncomputable def absV:Value->Option V
 |.none=>some .non
 |.bool b=>some (.bl b)
 |.int i _=>some (.int i)
 |.str x _=>some (.str x)
 |.bytes b _=>some (.byt b)
 |.float b _=>some (.flt b)
 |.ref a=>some (.ref a)
 |.type n=>some (.ty n)
 |_=>none
theorem RelV.abs {x:V} {u:Value} (r:RelV x u):absV u=some x:=by
 cases x with
 |non=>cases r;rfl
 |bl _=>cases r;rfl
 |int _=>obtain⟨t,rfl⟩:=r;rfl
 |str _=>obtain⟨t,rfl⟩:=r;rfl
 |byt _=>obtain⟨t,rfl⟩:=r;rfl
 |flt _=>obtain⟨t,rfl⟩:=r;rfl
 |ref _=>cases r;rfl
 |ty _=>cases r;rfl
def RelV.inj {x y:V} {u:Value} (r:RelV x u)(q:RelV y u):x=y:=G0 (r.abs.symm.trans q.abs)
theorem Vals.inj:∀{xs ys:List V} {us:List Value},Vals xs us->Vals ys us->xs=ys
 |_,_,_,.nil,.nil=>rfl
 |_,_,_,.cons r t,.cons r' t'=>by rw[r.inj r',Vals.inj t t']
section
variable{X:Cx}{Ab:Aa2}{σ:St}{H:Hp}{s:Shared}{a:Addr}{xs ys:List V}
def Ab2 {K:Ab1} (h:H a=some (.lst xs)):SqL K H a xs:=.inl (.inl h)
def Ac0 {K:Ab1} (h:H a=some (.tup xs)):SqT K H a xs:=.inl (.inl h)
theorem Inv.list (I:Inv X Ab σ H s)(h:SqL X.K H a xs):∃its:List Value,Vals xs its/\PlainL s.heap a its.toArray/\xs.length<=B89:=by
 rcases h with h|⟨o,its,n,hk,hc,hd,hs,hz,r⟩
 ·obtain⟨z,its,n,r,e⟩:=h.ok I.hok;exact⟨its,r,⟨_,n,e,rfl,rfl,rfl⟩,z⟩
 ·refine⟨its.toList,r,⟨o,n,I.kIn a o hk,hc,hd,by simpa using hs⟩,?_⟩
  have e:=r.length;simp only[C4] at e
  lia
theorem Inv.tuple (I:Inv X Ab σ H s)(h:SqT X.K H a xs):∃its:List Value,Vals xs its/\IsTup s.heap a its.toArray/\xs.length<=B89:=by
 rcases h with h|⟨o,its,n,hk,hc,hs,hz,r⟩
 ·obtain⟨z,its,r,p⟩:=h.ok I.hok;exact⟨its,r,p,z⟩
 ·refine⟨its.toList,r,⟨o,I.kIn a o hk,hc,n,by simpa using hs⟩,?_⟩
  have e:=r.length;simp only[C4] at e
  lia
theorem Inv.list_inj (I:Inv X Ab σ H s)(h:SqL X.K H a xs)(h':SqL X.K H a ys):xs=ys:=by
 obtain⟨c,r,⟨o,n,e,_,_,d⟩,_⟩:=I.list h;obtain⟨b,i,⟨k,j,f,_,_,g⟩,_⟩:=I.list h';rw[e] at f;cases f;rw[d] at g
 injection g with d1 _
 have:c=b:=by simpa using congrArg B26 d1
 subst this;exact r.inj i
theorem Inv.tuple_inj (I:Inv X Ab σ H s)(h:SqT X.K H a xs)(h':SqT X.K H a ys):xs=ys:=by
 obtain⟨c,r,⟨o,e,_,n,d⟩,_⟩:=I.tuple h;obtain⟨b,i,⟨k,f,_,j,g⟩,_⟩:=I.tuple h';rw[e] at f;cases f;rw[d] at g
 injection g with d1 _
 have:c=b:=by simpa using congrArg B26 d1
 subst this;exact r.inj i
end
abbrev Cx.wish (X:Cx)(E:Aa1):Cx:={X with xe:=E}
abbrev Cx.nox (X:Cx):Cx:=X.wish λ_ _=>False
def Cx.Ok.wish {X:Cx} (a:X.Ok)(E:Aa1):(X.wish E).Ok:=
 ⟨a.mod,a.kind,a.glob,a.blt,a.above,a.inj,a.has,a.cab,a.hd,a.frames,a.stk,a.exf,a.bs,a.bsz,a.noex,a.exfs,a.funs,a.frf⟩
def Cx.Ok.unwish {X:Cx} (a:(X.wish E).Ok):X.Ok:=
 ⟨a.mod,a.kind,a.glob,a.blt,a.above,a.inj,a.has,a.cab,a.hd,a.frames,a.stk,a.exf,a.bs,a.bsz,a.noex,a.exfs,a.funs,a.frf⟩
section
variable{X:Cx}{Ab:Aa2}{σ:St}{H:Hp}{s:Shared}{E:Aa1}
def Inv.wish (I:Inv X Ab σ H s)(E:Aa1):Inv (X.wish E) Ab σ H s:=⟨I.ok.wish E,I.os,I.bare,I.base,I.loc,I.cell,I.free,I.freeC,I.pin,I.hok,I.len⟩
def Inv.unwish (I:Inv (X.wish E) Ab σ H s):Inv X Ab σ H s:=⟨I.ok.unwish,I.os,I.bare,I.base,I.loc,I.cell,I.free,I.freeC,I.pin,I.hok,I.len⟩
theorem SP.unwish {D:Ends} {f:Flow} (h:SP (X.wish E) Ab D f s'):SP X Ab D f s':=by
 cases f with
 |next=>obtain⟨σ',a,I,q⟩:=h;exact⟨σ',a,I.unwish,q⟩
 |brk=>obtain⟨σ',a,I,q⟩:=h;exact⟨σ',a,I.unwish,q⟩
 |cont=>obtain⟨σ',a,I,q⟩:=h;exact⟨σ',a,I.unwish,q⟩
 |ret u=>obtain⟨v,σ',a,I,r,q⟩:=h;exact⟨v,σ',a,I.unwish,r,q⟩
def PSs.nox {st:List Stmt} {t:TS} (h:PSs X.nox st t):PSs X st t:=λa s σ H D I b=>
 B96 (h a s σ H D (I.wish _) b) (λ_ _ q=>q.unwish) λ_ _ z=>V2 z
end
section
variable{X:Cx}{st:Stmt}{rest:List Stmt}{t u:TS}{e:Expr}{te:TE}{pos:Pos}
def qd2:TS:=λD σ H=>D.nx σ H
def tSeq (t u:TS):TS:=λD σ H=>t {D with nx:=u D} σ H
def qAI:PSs X [] qd2:=λ_ _ σ H _ I h=>C26 ⟨σ,H,I,h⟩
theorem qA4 (g:PS X st t)(b:PSs X rest u):PSs X (st::rest) (tSeq t u):=by
 intro a s σ H D I h;refine C58 (thn (g a s σ H {D with nx:=u D} I h) λf e q=>?_);cases f with
 |next=>
  obtain⟨σ',c,d,q⟩:=q;exact b a e σ' c D d q
 |ret v=>exact q
 |brk=>exact q
 |cont=>exact q
theorem qA5 (a:PS X st t):PSs X [st] t:=by
 intro b s σ H D I h;refine C58 (thn (a b s σ H D I h) λf c q=>?_);cases f with
 |next=>exact C26 q
 |ret v=>exact q
 |brk=>exact q
 |cont=>exact q
def qd8:TS:=λD σ H=>D.ct σ H
def qOV:PS X (.Continue pos) qd8:=λ_ _ σ H _ I h=>wpAny_Continue ⟨σ,H,I,h⟩
theorem Inv.quiet {Ab:Aa2} {σ:St} {H:Hp} (I:Inv X Ab σ H s):interactive X.env=false:=by simp[interactive,I.ok.kind]
def qd5 (te:TE):TS:=λD σ H=>te σ H λ_ H1=>D.nx σ H1
theorem qBG (c:PE X e te)(b:swapsWith e none pos.line X.env=pure false:=by rfl):PS X (.Expr e pos) (qd5 te):=by
 intro a s σ H D I h;exact wpAny_Expr_any (thn (c a s σ H _ I h) λv s1 ⟨x,H1,I1,r1,q1⟩=>⟨σ,H1,I1,q1⟩) I.quiet b
def tRet (te:TE):TS:=λD σ H=>te σ H D.rt
theorem qAG (b:PE X e te):PS X (.Return (some e) pos) (tRet te):=by
 intro a s σ H D I h;exact wpAny_Return_some (thn (b a s σ H _ I h) λv s1 ⟨x,H1,I1,r1,q1⟩=>⟨x,σ,H1,I1,r1,q1⟩)
def tIfS (c:TT)(t u:TS):TS:=λD σ H=>c σ H λb H1=>if b=true then t D σ H1 else u D σ H1
theorem qB6 {c:Expr} {a b:List Stmt} {f:TT} (j:PT X c f)(g:PSs X a t)(i:PSs X b u):PS X (.If c a b pos) (tIfS f t u):=by
 intro e s σ H D I h;refine wpAny_If (thn (j e s σ H _ I h) λd s1 ⟨H1,I1,q1⟩=>?_);cases d with
 |true=>exact g e s1 σ H1 D I1 q1
 |false=>exact i e s1 σ H1 D I1 q1
end
abbrev TG:=V->St->Hp->(St->Hp->Prop)->Prop
abbrev TGs:=List V->St->Hp->(St->Hp->Prop)->Prop
def PG (X:Cx)(target:Expr)(t:TG):Prop:=
 ∀(Ab:Aa2) (s:Shared) (σ:St) (H:Hp) (v:V) (u:Value) (Q:St->Hp->Prop),Inv X Ab σ H s->RelV v u->t v σ H Q->
  wpAny (model X.prog X.w) X.A (assign target X.env u) (λ_ s'=>∃σ' H',Inv X Ab σ' H' s'/\Q σ' H') X.xe s
def PGs (X:Cx)(ts:List Expr)(t:TGs):Prop:=
 ∀(Ab:Aa2) (s:Shared) (σ:St) (H:Hp) (vs:List V) (us:List Value) (Q:St->Hp->Prop),Inv X Ab σ H s->Vals vs us->t vs σ H Q->
  wpAny (model X.prog X.w) X.A (assignInOrder ((C39 ts X.env).map (·.2)) us) (λ_ s'=>∃σ' H',Inv X Ab σ' H' s'/\Q σ' H') X.xe s
abbrev TSet:=V->V->V->Hp->(Hp->Prop)->Prop
def PSet (X:Cx)(t:TSet):Prop:=
 ∀(Ab:Aa2) (s:Shared) (σ:St) (H:Hp) (o i v:V) (ov iv u:Value) (Q:Hp->Prop),Inv X Ab σ H s->RelV o ov->RelV i iv->RelV v u->t o i v H Q->
  wpAny (model X.prog X.w) X.A (setItem ov iv u) (λ_ s'=>∃H',Inv X Ab σ H' s'/\Q H') X.xe s
section
variable{X:Cx}{pos:Pos}
def qUL (i:Nat):TG:=λv σ H Q=>Q (σ.set i (some v)) H
theorem qAS {i:Nat} {x:Str} (a:X.N.Nodup)(hi:X.N[i]?=some x)(c:Loc X.env.scope x)(d:X.fn x=true\/X.env.scope.names.lookup x=some .local:=by first|exact .inl rfl|exact .inr rfl|assumption):PG X (.Name x pos) (qUL i):=by
 intro f s σ H v u Q I r h;exact wpAny_assign_Name (qJ7 I a hi c r (λe b=>⟨_,H,b,h⟩) d)
def gNil:TGs:=λvs σ H Q=>vs=[]/\Q σ H
def qdU (t:TG)(u:TGs):TGs:=λvs σ H Q=>∃v r,vs=v::r/\t v σ H λσ' H'=>u r σ' H' Q
theorem qEE:PGs X [] gNil:=by
 intro b s σ H c a Q I r h;obtain⟨e,h⟩:=h;subst e;cases r;exact assignInOrder_nil ⟨σ,H,I,h⟩
theorem qB2 {e:Expr} {es:List Expr} {t:TG} {u:TGs} (d:PG X e t)(b:PGs X es u)
  (c:(C39 (e::es) X.env).map (·.2)=assign e X.env::(C39 es X.env).map (·.2):=by rfl):PGs X (e::es) (qdU t u):=by
 intro a s σ H j g Q I r h;obtain⟨v,i,f,h⟩:=h;subst f;cases r with
 |cons r rr=>
  rw[c];exact assignInOrder_cons (thn (d a s σ H _ _ _ I r h) λ_ s1 ⟨σ1,H1,I1,q1⟩=>b a s1 σ1 H1 _ _ Q I1 rr q1)
def gTup (K:Ab1)(n:Nat)(t:TGs):TG:=λv σ H Q=>∃a xs,v=.ref a/\SqT K H a xs/\xs.length=n/\t xs σ H Q
theorem qL9 {es:List Expr} {k:Nat} {t:TGs} {n:Nat} (hc:X.calm=true)(h:PGs X es t)
  (m:(C39 es X.env).length=n:=by rfl) (c:(C39 es X.env).findIdx? (·.1)=none:=by rfl):PG X (.Tuple es k pos) (gTup X.K n t):=by
 intro f s σ H v u Q I r d;obtain⟨a,z,q,j,l,d⟩:=d;subst q;cases r;obtain⟨w,g,i,hz⟩:=I.tuple j;refine assign_Tuple_tuple (I.ok.hd hc) i (by simp[m,<- l,g.length]) c λx p=>?_
 have y:Inv X f σ H {s with heap:=x}:=I.kept (t':=s.toks) λb o e=>p b o (D7 (B5 e)) e;exact h f _ σ H z _ Q y (by simpa using g) d
def gSub (to ti:TE)(t:TSet):TG:=λv σ H Q=>to σ H λo H1=>ti σ H1 λi H2=>t o i v H2 λH3=>Q σ H3
theorem qbK {o i:Expr} {c b:TE} {t:TSet} (f:PE X o c)(hi:PE X i b)(d:PSet X t)
  (e:∀ v,assign (.Subscript o i pos) X.env v=(do
   let ov <- C49 [v] (eval o X.env)
   let iv <- C49 [v,ov] (eval i X.env)
   standAt pos
   C49 [v,ov,iv] (setItem ov iv v)
   release [v,ov,iv] []):=by intro _;rfl):PG X (.Subscript o i pos) (gSub c b t):=by
 intro a s σ H v u Q I r h;rw[e];exact B87 (C00 (thn (f a s σ H _ I h) λov s1 ⟨x,H1,I1,r1,q1⟩=>B87 (C00 (thn (hi a s1 σ H1 _ I1 q1) λiv s2 ⟨y,H2,I2,r2,q2⟩=>B87 (C42 (B87 (C00 (thn (d a s2 σ H2 x y v ov iv u _ I2 r1 r2 r q2) λ_ s3 ⟨H3,I3,q3⟩=>wpAny_release ⟨σ,H3,I3,q3⟩))))))))
def tAsg (te:TE)(g:TG):TS:=λD σ H=>te σ H λx H1=>g x σ H1 D.nx
theorem qbH {a e:Expr} {c:TE} {g:TG} (d:PE X e c)(f:PG X a g)(i:swapsWithSole [a] e pos.line X.env=pure false:=by rfl)(k:swappedStores [a] e X.env=pure none:=by rfl)
  (j:(C39 [a] X.env).map (·.2)=[assign a X.env]:=by rfl):PS X (.Assign [a] e pos) (tAsg c g):=by
 intro b s σ H D I h;refine wpAny_Assign_stores (thn (d b s σ H _ I h) λv s1 ⟨x,H1,I1,r1,q1⟩=>?_) i k;rw[j];exact thn (f b s1 σ H1 x v _ I1 r1 q1) λ_ l q=>q
theorem qAK {i:Nat} {x:Str} {e:Expr} {b:TE} {a:Pos} (d:X.N.Nodup)(hi:X.N[i]?=some x)(k:Loc X.env.scope x)(c:PE X e b)(g:swapsWith e (some (.Name x a)) pos.line X.env=pure false:=by rfl)(l:X.fn x=true\/X.env.scope.names.lookup x=some .local:=by first|exact .inl rfl|exact .inr rfl|assumption):
  PS X (.Assign [.Name x a] e pos) (tAsg b (qUL i)):=by
 intro f s σ H D I h;refine wpAny_Assign_Name (thn (c f s σ H _ I h) λv s1 ⟨y,H1,I1,r1,q1⟩=>?_) g;exact qJ7 I1 d hi k r1 (λm j=>⟨_,H1,j,q1⟩) l
def qaY (c:TT)(tb:TS):TS:=λD σ H=>∃W:Nat->St->Hp->Prop,(∃m,W m σ H)/\∀m σ H,W m σ H->
 c σ H λb H1=>if b=true then∃N:St->Hp->Prop,(∀σ' H',N σ' H'->∃m',m'<m/\W m' σ' H')/\tb {D with nx:=N,ct:=N,bk:=D.nx} σ H1 else D.nx σ H1
theorem qEW {c:Expr} {a:List Stmt} {q:TT} {t:TS} (r:PassesOwn (model X.prog X.w) X.A X.env X.xe)(z:PT X c q)(y:PSs X a t):PS X (.While c a [] pos) (qaY q t):=by
 intro m s σ H D I h;obtain⟨W,⟨u,w0⟩,d⟩:=h;refine wpAny_While (codeAny_whileLoop (λn x=>∃σ' H',Inv X m σ' H' x/\W n σ' H') ?_ u ⟨σ,H,I,w0⟩);rintro n s1 ⟨σ1,H1,I1,w1⟩;refine C27 r (thn (z m s1 σ1 H1 _ I1 (d n σ1 H1 w1)) λb s2 ⟨H2,I2,q2⟩=>?_);cases b with
 |true=>
  obtain⟨N,p,q2⟩:=q2;rw[if_pos rfl];refine C27 r (thn (y m s2 σ1 H2 _ I2 q2) λf s3 g=>?_);cases f with
  |next=>
   obtain⟨σ3,e,j,i⟩:=g;obtain⟨k,l,o⟩:=p σ3 e i;exact⟨k,l,σ3,e,j,o⟩
  |cont=>
   obtain⟨σ3,e,j,i⟩:=g;obtain⟨k,l,o⟩:=p σ3 e i;exact⟨k,l,σ3,e,j,o⟩
  |brk=>exact g
  |ret v=>exact g
 |false=>
  rw[if_neg B8];exact C26 ⟨σ1,H2,I2,q2⟩
end
structure It where
 go:Nat->Hp->Prop
 yld:Nat->Hp->V->Hp->Prop
 stop:Nat->Hp->Prop
def FpOk (X:Cx)(Ab:Aa2)(H:Hp)(b:Addr):Prop:=
 H b=none/\b≠X.env.locals/\b∉X.fs/\(b∈X.ex\/X.s₀.heap.objs.size<=b)/\(∀x c,X.env.cells.lookup x=some c->c≠b)/\∀p∈X.pn++Ab,p.1≠b
theorem Inv.fpOk {X:Cx} {Ab:Aa2} {σ:St} {H H':Hp} {b:Addr} (I:Inv X Ab σ H s)(a:s.heap.objs.size<=b)(f:H' b=none):FpOk X Ab H' b:=by
 refine⟨f,V8 (F9 I.lt a),I.nofs a,.inr (L5 I.sz a),λx c e z=>?_,λp d z=>?_⟩
 ·obtain⟨v,q⟩:=I.cell x c e;exact absurd (F9 q.lt (by rw[z];exact a)) (Y5 _)
 ·exact absurd (F9 (B5 (I.pin p d).1) (by rw[z];exact a)) (Y5 _)
structure Turn (P:B90)(w:World)(K:Ab1)(tg:Expr)(J:It)(fp:List Addr)(it:Addr)(tn:Nat->Heap->Prop):Prop where
 mem:it∈fp
 obj:∀i h,tn i h->∀b∈fp,∃o,h.get? b=some o/\∀v,o.data≠.cell v
 keep:∀i h h',tn i h->(∀b∈fp,∀o,h.get? b=some o->h'.get? b=some o)->tn i h'
 item:∀(X:Cx),X.prog=P->X.w=w->X.K=K->X.calm=true->∀(i:Nat) (Ab:Aa2) (s:Shared) (σ:St) (H:Hp) (E:Aa1),Inv X Ab σ H s->(∀b∈fp,FpOk X Ab H b)->tn i s.heap->J.go i H->
  wpAny (model P w) X.A (pyNext (.ref it)) (fun r s1=>∃ u,r=some u/\
   wpAny (model P w) X.A (C62 tg (.ref it) u) (λ_ s2=>∃x H',Inv X Ab σ H' s2/\RelV x u/\J.yld i H x H'/\tn (i+1) s2.heap/\∀b∈fp,H' b=none) E s1) E s
 done:∀(X:Cx),X.prog=P->X.w=w->X.K=K->X.calm=true->∀(i:Nat) (Ab:Aa2) (s:Shared) (σ:St) (H:Hp) (E:Aa1),Inv X Ab σ H s->(∀b∈fp,FpOk X Ab H b)->tn i s.heap->J.stop i H->
  wpAny (model P w) X.A (pyNext (.ref it)) (λr s1=>r=none/\Inv X Ab σ H s1) E s
 self:∀(A:Around) (i:Nat) (s:Shared) (Q:Aa1) (E:Aa1),tn i s.heap->Q (.ref it) s->wpAny (model P w) A (pyIter (.ref it)) Q E s
abbrev TI:=St->Hp->(It->Hp->Prop)->Prop
def PIE (X:Cx)(Ab:Aa2)(σ:St)(tg:Expr)(R:It->Hp->Prop)(itv:Value)(s2:Shared):Prop:=
 ∃(it:Addr) (fp:List Addr) (tn:Nat->Heap->Prop) (J:It) (H':Hp),itv=.ref it/\Inv X Ab σ H' s2/\Turn X.prog X.w X.K tg J fp it tn/\tn 0 s2.heap/\(∀b∈fp,FpOk X Ab H' b)/\R J H'
def PI (X:Cx)(tg iter:Expr)(wi:TI):Prop:=
 ∀(Ab:Aa2) (s:Shared) (σ:St) (H:Hp) (R:It->Hp->Prop),Inv X Ab σ H s->wi σ H R->
  wpAny (model X.prog X.w) X.A (eval iter X.env) (λv s1=>wpAny (model X.prog X.w) X.A (pyIter v) (PIE X Ab σ tg R) X.xe s1) X.xe s
theorem qWW {M:Model} {b:Expr} {c:Addr} {u:Value} {o:Obj} {n:String} {vs:Array Value} {Q:Unit->Shared->Prop} (f:s.heap.get? c=some o)(g:o.cls=.type n)(e:o.data=.fields vs)
  (d:["enumerate","zip","dict_itemiterator","dict_reverseitemiterator","odict_iterator","itertools.zip_longest","itertools.pairwise"].contains n=false) (a:Q () s):wpAny M A (C62 b (.ref c) u) Q E s:=by
 unfold C62;cases b<;>first
  |exact B88 a
  | (cases u <;> first
    |exact B88 a
    | (refine B87 (wpAny_load f ?_)
       rw[g,e];show wpAny M A (if(["enumerate","zip","dict_itemiterator","dict_reverseitemiterator","odict_iterator","itertools.zip_longest","itertools.pairwise"].contains n&&vs[0]? == some (rawInt _))=true then _ else _) Q E s
       rw[if_neg (by intro h;rw[d,q9] at h;cases h)]
       exact B88 a))
def Itl (K:Ab1)(a:Addr):It:=
 ⟨λi H=>∃xs x,SqL K H a xs/\xs[i]?=some x,λi H x H'=>H'=H/\∀xs,SqL K H a xs->xs[i]?=some x,λi H=>∃xs,SqL K H a xs/\xs.length<=i⟩
def Itt (K:Ab1)(a:Addr):It:=
 ⟨λi H=>∃xs x,SqT K H a xs/\xs[i]?=some x,λi H x H'=>H'=H/\∀xs,SqT K H a xs->xs[i]?=some x,λi H=>∃xs,SqT K H a xs/\xs.length<=i⟩
def Itr (lo:Int)(n:Nat):It:=⟨λi _=>i<n,λi H x H'=>H'=H/\x=.int (lo+i),λi _=>n<=i⟩
theorem qSJ {K:Ab1} {tg:Expr} (a g:Addr):Turn P w K tg (Itl K a) [g] g (λi h=>h.IsListIter g a i) where
 mem:=by simp
 obj:=λi h f b j=>by
  have e:b=g:=by simpa using j
  subst e;obtain⟨o,e,c,d⟩:=f;exact⟨o,e,λv z=>by rw[d] at z;cases z⟩
 keep:=λi h m f k=>f.at λo e=>k g (by simp) o e
 item:=by
  intro X r hw hK hc i Ab s σ H E I n f t;subst r hw hK;obtain⟨xs,x,q,hx⟩:=t;obtain⟨a0,rv,p,hz⟩:=I.list q;obtain⟨u,hu,ru⟩:=rv.get hx;obtain⟨f0,y,f2,f3,f4,f5⟩:=n g (by simp)
  refine wpAny_pyNext_list_item f p.isList (x:=u) (by simpa using hu) λm l sb=>?_
  have I1:Inv X Ab σ H {s with heap:=m}:=I.turned (t':=s.toks) (λb o j e=>(sb.2 b j).trans e) f0 y f3 f4 f5;obtain⟨o,e,c,d⟩:=id l;exact⟨u,rfl,qWW (s:={s with heap:=m}) e c d (by decide) ⟨x,H,I1,ru,⟨rfl,λys hy=>by rw[I.list_inj hy q];exact hx⟩,l,λb j=>(n b j).1⟩⟩
 done:=by
  intro X r hw hK hc i Ab s σ H E I n f t;subst r hw hK;obtain⟨xs,q,hx⟩:=t;obtain⟨a0,rv,p,hz⟩:=I.list q;obtain⟨f0,y,f2,f3,f4,f5⟩:=n g (by simp)
  have hl:=rv.length;exact wpAny_pyNext_list_end (I.ok.hd hc) f p.isList (by simp;lia) λm eb=>⟨rfl,I.turned (t':=s.toks) (λb o j e=>eb b o j e) f0 y f3 f4 f5⟩
 self:=λ_ _ _ _ _ f h=>wpAny_pyIter_listiter f h
theorem qR9 {K:Ab1} {tg:Expr} (a j:Addr):Turn P w K tg (Itt K a) [j] j (λi h=>h.IsTupleIter j a i) where
 mem:=by simp
 obj:=λi h f b l=>by
  have e:b=j:=by simpa using l
  subst e;obtain⟨o,e,c,d⟩:=f;exact⟨o,e,λv z=>by rw[d] at z;cases z⟩
 keep:=λi h n f k=>f.at λo e=>k j (by simp) o e
 item:=by
  intro X t hw hK hc i Ab s σ H E I q f y;subst t hw hK;obtain⟨xs,x,r,hx⟩:=y;obtain⟨g,rv,p,hz⟩:=I.tuple r;obtain⟨u,hu,ru⟩:=rv.get hx;obtain⟨f0,f1,f2,f3,f4,f5⟩:=q j (by simp)
  refine wpAny_pyNext_tuple_item f (show s.heap.IsTuple a g.toArray from p) (x:=u) (by simpa using hu) λn m sb=>?_
  have I1:Inv X Ab σ H {s with heap:=n}:=I.turned (t':=s.toks) (λb o l e=>(sb.2 b l).trans e) f0 f1 f3 f4 f5;obtain⟨o,e,c,d⟩:=id m;exact⟨u,rfl,qWW (s:={s with heap:=n}) e c d (by decide) ⟨x,H,I1,ru,⟨rfl,λys hy=>by rw[I.tuple_inj hy r];exact hx⟩,m,λb l=>(q b l).1⟩⟩
 done:=by
  intro X t hw hK hc i Ab s σ H E I q f y;subst t hw hK;obtain⟨xs,r,hx⟩:=y;obtain⟨g,rv,p,hz⟩:=I.tuple r;obtain⟨f0,f1,f2,f3,f4,f5⟩:=q j (by simp)
  have hl:=rv.length;exact wpAny_pyNext_tuple_end (I.ok.hd hc) f (show s.heap.IsTuple a g.toArray from p) (by simp;lia) λn eb=>⟨rfl,I.turned (t':=s.toks) (λb o l e=>eb b o l e) f0 f1 f3 f4 f5⟩
 self:=λ_ _ _ _ _ f h=>wpAny_pyIter_tupleiter f h
theorem qRA {K:Ab1} {tg:Expr} (c:Addr)(lo:Int)(n:Nat):Turn P w K tg (Itr lo n) [c] c (λi h=>IsRangeIter h c (lo+(i:Nat)*1) ((n:Int)-(i:Nat)) 1) where
 mem:=by simp
 obj:=λi h a b d=>by
  have e:b=c:=by simpa using d
  subst e;exact⟨_,a,λv z=>by
   have z':A40 _=A28 v:=z;cases z'⟩
 keep:=λi h g a k=>k c (by simp) _ a
 item:=by
  intro X l x hK y i Ab s σ H E I j a m;subst l x hK;obtain⟨r,p,f2,q,f4,u⟩:=j c (by simp)
  have W:=Walks.range (prog:=X.prog) (w:=X.w) (I.ok.hd y) c lo 1 n;refine W.item i s _ _ m a λv g tk hv f kk=>?_;obtain⟨t,rfl⟩:=hv;have I1:Inv X Ab σ H {s with heap:=g,toks:=tk}:=I.turned (λb o d e=>kk b o (by simpa using d) e) r p q f4 u
  refine⟨_,rfl,qWW (s:={s with heap:=g,toks:=tk}) (n:="range_iterator") f rfl rfl (by decide) ⟨.int (lo+i),H,I1,⟨t,?_⟩,⟨rfl,rfl⟩,f,λb d=>(j b d).1⟩⟩
  rw[Int.mul_one]
 done:=by
  intro X l x hK y i Ab s σ H E I j a m;subst l x hK;obtain⟨r,p,f2,q,f4,u⟩:=j c (by simp)
  exact wpAny_pyNext_range_end (I.ok.hd y) a (by have:n<=i:=m;lia) λg eb=>⟨rfl,I.turned (t':=s.toks) (λb o d e=>eb b o d e) r p q f4 u⟩
 self:=λ_ _ _ _ _ a h=>wpAny_pyIter_rangeiter a h
section
variable{X:Cx}{tg:Expr}
def qdS (K:Ab1)(tl:TE):TI:=λσ H R=>tl σ H λx H1=>∃a,x=.ref a/\(∃xs,SqL K H1 a xs)/\R (Itl K a) H1
def iTup (K:Ab1)(tl:TE):TI:=λσ H R=>tl σ H λx H1=>∃a,x=.ref a/\(∃xs,SqT K H1 a xs)/\R (Itt K a) H1
theorem qBV {l:Expr} {c:TE} (g:PE X l c):PI X tg l (qdS X.K c):=by
 intro f s σ H R I h;refine thn (g f s σ H _ I h) λv s1 ⟨x,H1,I1,r1,q1⟩=>?_;obtain⟨a,e,⟨n,d⟩,q⟩:=q1;subst e;cases r1;obtain⟨i,m,p,k⟩:=I1.list d;refine C23 p.isList ⟨s1.heap.objs.size,[s1.heap.objs.size],_,_,H1,rfl,I1.kept (t':=s1.toks) λb o e=>A4 _ e,qSJ a _,⟨_,B7 _ rfl,rfl,rfl⟩,λb j=>?_,q⟩;have e:b=s1.heap.objs.size:=by simpa using j
 subst e;exact I1.fpOk (A9 _) (I1.hok.fresh (A9 _))
theorem qCT {l:Expr} {d:TE} (i:PE X l d):PI X tg l (iTup X.K d):=by
 intro g s σ H R I h;refine thn (i g s σ H _ I h) λv s1 ⟨x,H1,I1,r1,q1⟩=>?_;obtain⟨a,e,⟨n,f⟩,q⟩:=q1;subst e;cases r1;obtain⟨c,m,p,k⟩:=I1.tuple f;refine wpAny_pyIter_tuple (show s1.heap.IsTuple a c.toArray from p) ⟨s1.heap.objs.size,[s1.heap.objs.size],_,_,H1,rfl,I1.kept (t':=s1.toks) λb o e=>A4 _ e,qR9 a _,⟨_,B7 _ rfl,rfl,rfl⟩,λb j=>?_,q⟩;have e:b=s1.heap.objs.size:=by simpa using j
 subst e;exact I1.fpOk (A9 _) (I1.hok.fresh (A9 _))
theorem range_it {Ab:Aa2} {σ:St} {H:Hp} {R:It->Hp->Prop} {lo hi:Int} {t u v:Tok} {a:Nat} (I:Inv X Ab σ H s)(i : -(2^62)<=lo)(d:lo<2^62)(h : -(2^62)<=hi)(f:hi<2^62)
  (q:R (Itr lo (hi-lo).toNat) H):wpAny (model X.prog X.w) X.A (pyIter (.ref s.heap.objs.size)) (PIE X Ab σ tg R) E {s with heap:=s.heap.push {cls:=.type "range",data:=.fields #[.int lo t,.int hi u,.int 1 v]},toks:=a}:=by
 refine wpAny_pyIter_range (B83 ..) (small_one i d h f) ?_;have c:Inv X Ab σ H {s with heap:=s.heap.push {cls:=.type "range",data:=.fields #[.int lo t,.int hi u,.int 1 v]},toks:=a}:=I.kept λb o e=>A4 _ e;refine⟨(s.heap.push {cls:=.type "range",data:=.fields #[.int lo t,.int hi u,.int 1 v]}).objs.size,[(s.heap.push {cls:=.type "range",data:=.fields #[.int lo t,.int hi u,.int 1 v]}).objs.size],_,_,H,rfl,
  c.kept (t':=a) λb o e=>A4 _ e,qRA _ lo (hi-lo).toNat,?_,λb k=>?_,q⟩
 ·have j:lo+((0:Nat):Int)*1=lo:=by simp
  have g:(((hi-lo).toNat:Nat):Int)-((0:Nat):Int)=G5 lo hi 1:=by rw[rangeSize_one];split<;>lia
  show IsRangeIter _ _ (lo+((0:Nat):Int)*1) ((((hi-lo).toNat:Nat):Int)-((0:Nat):Int)) 1;rw[j,g];exact B7 _ rfl
 ·have e:b=(s.heap.push {cls:=.type "range",data:=.fields #[.int lo t,.int hi u,.int 1 v]}).objs.size:=by simpa using k
  subst e;exact c.fpOk (A9 _) (c.hok.fresh (A9 _))
def qdR (ta:TA):TI:=λσ H R=>ta σ H λvs H1=>∃j:Int,vs=[.int j]/\-(2^62)<=j/\j<2^62/\R (Itr 0 j.toNat) H1
theorem qD3 {a:Expr} {c:TA} {p b:Pos} (d:Gl X "range") (l:X.mg "range" = none) (k:PA X [a] c) (g:B95 [a] X.env=[(false,eval a X.env)]:=by rfl):PI X tg (.Call (.Name "range" p) [a] [] b) (qdR c):=by
 intro f s σ H R I h;refine Call_ (qIO I d l boot_range (P4 (thn (k b f s σ H _ I h) λus s1 ⟨vs,H1,I1,r1,q1⟩=>?_) g rfl));obtain⟨j,e,q1,i,q⟩:=q1;subst e;cases r1 with
 |cons r rr=>
  cases rr;obtain⟨t,rfl⟩:=r;exact call_range_1 (range_it I1 (by lia) (by lia) q1 i (by simpa using q))
def tFor (wi:TI)(g:TG)(tb:TS):TS:=λD σ H=>wi σ H λJ H1=>∃W:Nat->Nat->St->Hp->Prop,(∃m,W 0 m σ H1)/\∀i m σ H,W i m σ H->
 (J.stop i H/\D.nx σ H)\/(J.go i H/\∃N:St->Hp->Prop,(∀σ' H',N σ' H'->∃m',m'<m/\W (i+1) m' σ' H')/\∀x H',J.yld i H x H'->g x σ H' λσ2 H2=>tb {D with nx:=N,ct:=N,bk:=D.nx} σ2 H2)
def qNF (fp:List Addr)(h:Heap):Aa2:=fp.filterMap λb=>(h.get? b).map λo=>(b,o)
theorem qG2 {a:List Addr} {h:Heap} {b:Addr} {o:Obj} (c:b∈a)(e:h.get? b=some o):(b,o)∈qNF a h:=V9.mpr ⟨b,c,by rw[e];rfl⟩
theorem qTS {a:List Addr} {h:Heap} {p:Addr×Obj} (c:p∈qNF a h):p.1∈a/\h.get? p.1=some p.2:=by
 obtain⟨b,d,e⟩:=V9.mp c;cases q:h.get? b with
 |none=>rw[q] at e;cases e
 |some o=>
  rw[q] at e;have f:(b,o)=p:=G0 e;subst f;exact⟨d,q⟩
theorem Inv.pinned {Ab:Aa2} {σ:St} {H:Hp} {a:List Addr} (I:Inv X Ab σ H s)(l:∀b∈a,FpOk X Ab H b)(k:∀b∈a,∃o,s.heap.get? b=some o/\∀v,o.data≠.cell v):Inv X (Ab++qNF a s.heap) σ H s:=
 I.pins_of λp g=>(C1.mp g).elim (λz=>I.pin p (F6 _ z)) λz=>by
  obtain⟨f,e⟩:=qTS z;obtain⟨i,h,j,_⟩:=l p.1 f;obtain⟨o,c,d⟩:=k p.1 f;rw[e] at c;cases c;exact⟨e,i,h,j,d⟩
def Inv.unpinned {Ab b:Aa2} {σ:St} {H:Hp} (I:Inv X (Ab++b) σ H s):Inv X Ab σ H s:=I.pins_of λp a=>I.pin p (F6 _ (L6 _ a))
theorem qBU {a:Expr} {p:List Stmt} {wi:TI} {g:TG} {tb:TS} {a2:Pos} (hp:PassesOwn (model X.prog X.w) X.A X.env X.xe)(hc:X.calm=true)(hi:PI X tg a wi)(hg:PG X tg g)(l:PSs X p tb)
  (hs:∀x,C54 a X.env x=pure x:=by intro _;rfl):PS X (.For tg a p [] a2) (tFor wi g tb):=by
 intro t s σ H D I h;refine wpAny_For (thn (hi t s σ H _ I h) λv s1 h1=>thn h1 λa5 s2 h2=>?_) hs;obtain⟨it,z,tn,J,H2,e,I2,T,a4,f2,W,⟨m0,w0⟩,y⟩:=h2;subst e
 -- what stays true of the iterator's objects through the loop
 have c:∀{H':Hp},(∀b∈z,H' b=none)->∀b∈z,FpOk X t H' b:=λhn b l=>⟨hn b l,(f2 b l).2⟩;refine codeAny_forLoop_any (λn s'=>∃i σ' H',Inv X t σ' H' s'/\tn i s'.heap/\(∀b∈z,H' b=none)/\W i n σ' H') ?_ m0 ⟨0,σ,H2,I2,a4,λb l=>(f2 b l).1,w0⟩;rintro n s3 ⟨i,σ3,H3,I3,st3,fr3,w3⟩;rcases y i n σ3 H3 w3 with⟨a0,qn⟩|⟨go,N,hN,a1⟩
 ·refine C27 hp (thn (T.done X rfl rfl rfl hc i t s3 σ3 H3 X.xe I3 (c fr3) st3 a0) λr s4 ⟨hr,I4⟩=>?_);subst hr;exact C26 ⟨σ3,H3,I4,qn⟩
 ·refine C27 hp (thn (T.item X rfl rfl rfl hc i t s3 σ3 H3 X.xe I3 (c fr3) st3 go) λr s4 ⟨u,hr,h4⟩=>?_);subst hr;refine C27 hp (thn h4 λ_ s5 ⟨x,H5,I5,r5,y5,st5,fr5⟩=>?_);have a3:=I5.pinned (c fr5) (T.obj _ _ st5);refine C27 hp (thn (hg _ s5 σ3 H5 x u _ a3 r5 (a1 x H5 y5)) λ_ s6 ⟨σ6,H6,I6,q6⟩=>C27 hp (thn (l _ s6 σ6 H6 _ I6 q6) λf s7 q=>?_));have j:∀{σ7:St} {H7:Hp},Inv X (t++qNF z s5.heap) σ7 H7 s7->N σ7 H7->∃m,m<n/\∃i σ' H',Inv X t σ' H' s7/\tn i s7.heap/\(∀b∈z,H' b=none)/\W i m σ' H':=λ{σ7 H7} k n7=>by
   obtain⟨m',hm,w7⟩:=hN σ7 H7 n7;refine⟨m',hm,i+1,σ7,H7,k.unpinned,T.keep _ _ _ st5 λb l o e=>(k.pin (b,o) (F6 _ (F6 _ (qG2 l e)))).1,λb l=>?_,w7⟩;obtain⟨o,e,d⟩:=T.obj _ _ st5 b l;exact(k.pin (b,o) (F6 _ (F6 _ (qG2 l e)))).2.1
  cases f with
  |next=>obtain⟨σ7,H7,k,n7⟩:=q;exact j k n7
  |cont=>obtain⟨σ7,H7,k,n7⟩:=q;exact j k n7
  |brk=>obtain⟨σ7,H7,k,q⟩:=q;exact⟨σ7,H7,k.unpinned,q⟩
  |ret v=>obtain⟨x7,σ7,H7,k,r7,q⟩:=q;exact⟨x7,σ7,H7,k.unpinned,r7,q⟩
end
abbrev ForG (I:It)(g:TG)(tb:TS)(D:Ends)(σ:St)(H:Hp):Prop:=∃W:Nat->Nat->St->Hp->Prop,(∃m,W 0 m σ H)/\∀i m σ H,W i m σ H->(I.stop i H/\D.nx σ H)\/(I.go i H/\∃N:St->Hp->Prop,(∀σ' H',N σ' H'->∃m',m'<m/\W (i+1) m' σ' H')/\∀x H',I.yld i H x H'->g x σ H' λσ2 H2=>tb {D with nx:=N,ct:=N,bk:=D.nx} σ2 H2)
theorem qF4 {K:Ab1} {a:Addr} {xs:List V} {g:TG} {c:TS} {D:Ends} {σ:St} {H:Hp} (Pv:Nat->St->Hp->Prop)(f:Pv 0 σ H)(j:∀i σ H,i<=xs.length->Pv i σ H->SqL K H a xs)
  (h:∀i x σ H,xs[i]?=some x->Pv i σ H->g x σ H λσ2 H2=>c {D with nx:=Pv (i+1),ct:=Pv (i+1),bk:=D.nx} σ2 H2) (l:∀σ H,Pv xs.length σ H->D.nx σ H):
  ForG (Itl K a) g c D σ H:=by
 refine⟨λi m σ H=>m=xs.length-i/\i<=xs.length/\Pv i σ H,⟨xs.length,by simp,G6 _,f⟩,?_⟩
 rintro i m σ H ⟨rfl,hi,p⟩;have q:=j i σ H hi p;by_cases b:i<xs.length
 ·refine .inr ⟨⟨xs,xs[i],q,by simp[b]⟩,Pv (i+1),λσ' d k=>⟨xs.length-(i+1),by lia,rfl,b,k⟩,λx d y=>?_⟩
  obtain⟨e,y⟩:=y;subst e;exact h i x σ _ (y xs q) p
 ·have e:i=xs.length:=by lia
  subst e;exact .inl ⟨⟨xs,q,A9 _⟩,l σ H p⟩
theorem qF3 {K:Ab1} {a:Addr} {xs:List V} {g:TG} {c:TS} {D:Ends} {σ:St} {H:Hp} (Pv:Nat->St->Hp->Prop)(f:Pv 0 σ H)(j:∀i σ H,i<=xs.length->Pv i σ H->SqT K H a xs)
  (h:∀i x σ H,xs[i]?=some x->Pv i σ H->g x σ H λσ2 H2=>c {D with nx:=Pv (i+1),ct:=Pv (i+1),bk:=D.nx} σ2 H2) (l:∀σ H,Pv xs.length σ H->D.nx σ H):
  ForG (Itt K a) g c D σ H:=by
 refine⟨λi m σ H=>m=xs.length-i/\i<=xs.length/\Pv i σ H,⟨xs.length,by simp,G6 _,f⟩,?_⟩
 rintro i m σ H ⟨rfl,hi,p⟩;have q:=j i σ H hi p;by_cases b:i<xs.length
 ·refine .inr ⟨⟨xs,xs[i],q,by simp[b]⟩,Pv (i+1),λσ' d k=>⟨xs.length-(i+1),by lia,rfl,b,k⟩,λx d y=>?_⟩
  obtain⟨e,y⟩:=y;subst e;exact h i x σ _ (y xs q) p
 ·have e:i=xs.length:=by lia
  subst e;exact .inl ⟨⟨xs,q,A9 _⟩,l σ H p⟩
theorem qHN {lo:Int} {n:Nat} {g:TG} {b:TS} {D:Ends} {σ:St} {H:Hp} (Pv:Nat->St->Hp->Prop)(d:Pv 0 σ H)
  (f:∀i σ H,i<n->Pv i σ H->g (.int (lo+i)) σ H λσ2 H2=>b {D with nx:=Pv (i+1),ct:=Pv (i+1),bk:=D.nx} σ2 H2) (j:∀σ H,Pv n σ H->D.nx σ H):
  ForG (Itr lo n) g b D σ H:=by
 refine⟨λi m σ H=>m=n-i/\i<=n/\Pv i σ H,⟨n,by simp,G6 _,d⟩,?_⟩
 rintro i m σ H ⟨rfl,hi,p⟩;by_cases a:i<n
 ·refine .inr ⟨a,Pv (i+1),λσ' c h=>⟨n-(i+1),by lia,rfl,a,h⟩,λx c y=>?_⟩
  obtain⟨e,y⟩:=y;subst e y;exact f i σ _ a p
 ·have e:i=n:=by lia
  subst e;exact .inl ⟨A9 _,j σ H p⟩
abbrev R2:=V->V->Hp->VK->Prop
def OpR (X:Cx)(f:Value->Value->Sem Value)(r:R2):Prop:=
 ∀(Ab:Aa2) (s:Shared) (σ:St) (H:Hp) (x y:V) (v u:Value) (Q:VK),Inv X Ab σ H s->RelV x v->RelV y u->r x y H Q->
  wpAny (model X.prog X.w) X.A (f v u) (EP X Ab σ Q) X.xe s
def UnR (X:Cx)(f:Value->Sem Value)(r:V->Hp->VK->Prop):Prop:=
 ∀(Ab:Aa2) (s:Shared) (σ:St) (H:Hp) (x:V) (v:Value) (Q:VK),Inv X Ab σ H s->RelV x v->r x H Q->
  wpAny (model X.prog X.w) X.A (f v) (EP X Ab σ Q) X.xe s
def qCQ (X:Cx)(f:Value)(r:List V->Hp->VK->Prop):Prop:=
 ∀(Ab:Aa2) (s:Shared) (σ:St) (H:Hp) (xs:List V) (us:List Value) (Q:VK),Inv X Ab σ H s->Vals xs us->r xs H Q->
  wpAny (model X.prog X.w) X.A (call f us) (EP X Ab σ Q) X.xe s
def TruR (X:Cx)(r:V->Hp->(Bool->Hp->Prop)->Prop):Prop:=
 ∀(Ab:Aa2) (s:Shared) (σ:St) (H:Hp) (x:V) (v:Value) (Q:Bool->Hp->Prop),Inv X Ab σ H s->RelV x v->r x H Q->
  wpAny (model X.prog X.w) X.A (truthy v) (TP X Ab σ Q) X.xe s
def tOp (r:R2)(ta tb:TE):TE:=λσ H Q=>ta σ H λx H1=>tb σ H1 λy H2=>r x y H2 Q
def tUn (r:V->Hp->VK->Prop)(ta:TE):TE:=λσ H Q=>ta σ H λx H1=>r x H1 Q
def rI (C:Int->Int->Prop)(g:Int->Int->V):R2:=λx y H Q=>E2 λi j=>x=.int i/\y=.int j/\C i j/\Q (g i j) H
def rI0 (g:Int->Int->V):R2:=λx y H Q=>E2 λi j=>x=.int i/\y=.int j/\Q (g i j) H
def rU (g:Int->V):V->Hp->VK->Prop:=λx H Q=>∃i,x=.int i/\Q (g i) H
section
variable{X:Cx}{a b c:Expr}{ta tb tc:TE}{pos:Pos}
theorem binT (c:PE X a ta)(d:PE X b tb){Ab:Aa2}{s:Shared}{σ:St}{H:Hp}{R:V->V->Hp->Prop}(I:Inv X Ab σ H s)
  (h:ta σ H λx H1=>tb σ H1 λy H2=>R x y H2) {Q:Aa1} {f:Value->Value->Sem Value}
  (e:∀v u s2 x y H2,Inv X Ab σ H2 s2->RelV x v->RelV y u->R x y H2->wpAny (model X.prog X.w) X.A (f v u) Q X.xe s2):
  wpAny (model X.prog X.w) X.A (eval a X.env) (λv s₁=>wpAny (model X.prog X.w) X.A (eval b X.env) (λu s₂=>wpAny (model X.prog X.w) X.A (f v u) Q X.xe s₂) X.xe s₁) X.xe s:=by
 exact thn (c Ab s σ H _ I h) λv s1 ⟨x,H1,I1,r1,q1⟩=>thn (d Ab s1 σ H1 _ I1 q1) λu s2 ⟨y,H2,I2,r2,q2⟩=>e v u s2 x y H2 I2 r1 r2 q2
theorem qAN {op:Operator} {r:R2} (l:OpR X (C22 op) r)(e:PE X a ta)(k:PE X b tb):PE X (.BinOp a op b pos) (tOp r ta tb):=by
 intro c s σ H Q I h;exact wpAny_BinOp (binT e k I h λv u j x y f d i g q=>l c j σ f x y v u Q d i g q)
theorem qTC {op:UnaryOp} {r:V->Hp->VK->Prop} (d:UnR X (unaryOp op) r)(c:PE X a ta):PE X (.UnaryOp op a pos) (tUn r ta):=by
 intro b s σ H Q I h;exact UnaryOp_ (thn (c b s σ H _ I h) λv s1 ⟨x,H1,I1,r1,q1⟩=>d b s1 σ H1 x v Q I1 r1 q1)
theorem opI {f:Value->Value->Sem Value} {C:Int->Int->Prop} {g:Int->Int->Int} 
  (a:∀(i j:Int) (t u:Tok) (s:Shared) (Q:Aa1) (E:Aa1),C i j->Q (.int (g i j) s.toks) {s with toks:=s.toks+1}->wpAny (model X.prog X.w) X.A (f (.int i t) (.int j u)) Q E s):
  OpR X f (rI C λi j=>.int (g i j)):=by
 intro k s σ H x y v u Q I d c h;obtain⟨i,j,rfl,rfl,e,q⟩:=h;obtain⟨t,rfl⟩:=d;obtain⟨b,rfl⟩:=c;exact a i j t b s _ _ e ⟨.int (g i j),H,I.tok _,⟨_,rfl⟩,q⟩
theorem opI0 {f:Value->Value->Sem Value} {g:Int->Int->Int} 
  (a:∀(i j:Int) (t u:Tok) (s:Shared) (Q:Aa1) (E:Aa1),Q (.int (g i j) s.toks) {s with toks:=s.toks+1}->wpAny (model X.prog X.w) X.A (f (.int i t) (.int j u)) Q E s):
  OpR X f (rI0 λi j=>.int (g i j)):=by
 intro e s σ H x y v u Q I d c h;obtain⟨i,j,rfl,rfl,q⟩:=h;obtain⟨t,rfl⟩:=d;obtain⟨b,rfl⟩:=c;exact a i j t b s _ _ ⟨.int (g i j),H,I.tok _,⟨_,rfl⟩,q⟩
theorem opB0 {f:Value->Value->Sem Value} {g:Int->Int->Bool} 
  (a:∀(i j:Int) (t u:Tok) (s:Shared) (Q:Aa1) (E:Aa1),Q (.bool (g i j)) s->wpAny (model X.prog X.w) X.A (f (.int i t) (.int j u)) Q E s):
  OpR X f (rI0 λi j=>.bl (g i j)):=by
 intro e s σ H x y v u Q I d c h;obtain⟨i,j,rfl,rfl,q⟩:=h;obtain⟨t,rfl⟩:=d;obtain⟨b,rfl⟩:=c;exact a i j t b s _ _ ⟨.bl (g i j),H,I,rfl,q⟩
def CDiv (i j:Int):Prop:=0<j/\j<1073741824
def CPow (i j:Int):Prop:=0<=j/\j<=1000000/\i.natAbs<2^64
def CMul (i j:Int):Prop:=(-(2^64)<i/\i<2^64)\/(-(2^64)<j/\j<2^64)
theorem CMul.ok {i j:Int} (h:CMul i j):IntMulOk i j:=by
 rcases h with⟨a,b⟩|⟨a,b⟩
 ·exact .of_left (intBits_le_64 a b)
 ·exact .of_right (intBits_le_64 a b)
def qCG:OpR X (C22 .Add) (rI0 λi j=>.int (i+j)):=opI0 λ_ _ _ _ _ _ _ q=>add_int q
def qCY:OpR X (C22 .Sub) (rI0 λi j=>.int (i-j)):=opI0 λ_ _ _ _ _ _ _ q=>sub_int q
def qE8:OpR X (C22 .Mult) (rI CMul λi j=>.int (i*j)):=opI λ_ _ _ _ _ _ _ a q=>mul_int q a.ok
theorem qI8:OpR X (C22 .FloorDiv) (rI CDiv λi j=>.int (i/j)):=opI λi j _ _ _ _ _ a q=>by
 have b:(0:Int)<j:=a.1;have c:j<1073741824:=a.2;exact floordiv_int (by lia) (by rw[A07 i (by lia)];exact q) (.inl (m4 (by lia)))
theorem qJY:OpR X (C22 .Mod) (rI (λ_ j=>0<j) λi j=>.int (i%j)):=opI λi j _ _ _ _ _ a q=>by
 have b:(0:Int)<j:=a;exact mod_int' (by lia) (by rw[A08 i (by lia)];exact q)
def qbU:OpR X (C22 .Pow) (rI CPow λi j=>.int (i^j.toNat)):=opI λ_ _ _ _ _ _ _ a q=>pow_int_small a.1 a.2.1 a.2.2 q
def qTJ:OpR X (C22 .LShift) (rI CPow λi j=>.int (i*2^j.toNat)):=opI λ_ _ _ _ _ _ _ a q=>lshift_int_small a.1 a.2.1 a.2.2 q
def qbW:OpR X (C22 .BitAnd) (rI0 λi j=>.int (r8 i j)):=opI0 λ_ _ _ _ _ _ _ q=>and_int q
def qbV:OpR X (C22 .BitOr) (rI0 λi j=>.int (B06 i j)):=opI0 λ_ _ _ _ _ _ _ q=>or_int q
theorem unI {f:Value->Sem Value} {g:Int->Int} 
  (a:∀(i:Int) (t:Tok) (s:Shared) (Q:Aa1) (E:Aa1),Q (.int (g i) s.toks) {s with toks:=s.toks+1}->wpAny (model X.prog X.w) X.A (f (.int i t)) Q E s):
  UnR X f (rU λi=>.int (g i)):=by
 intro c s σ H x v Q I b h;obtain⟨i,rfl,q⟩:=h;obtain⟨t,rfl⟩:=b;exact a i t s _ _ ⟨.int (g i),H,I.tok _,⟨_,rfl⟩,q⟩
def qMV:UnR X (unaryOp .USub) (rU λi=>.int (-i)):=unI λ_ _ _ _ _ q=>neg_int q
end
noncomputable def scal:V->V->Bool
 |.non,.non=>true|.non,.int _=>true|.int _,.non=>true|.non,.bl _=>true|.bl _,.non=>true|.non,.str _=>true|.str _,.non=>true
 |.int _,.int _=>true|.bl _,.bl _=>true|.str _,.str _=>true|.byt _,.byt _=>true
 |.int _,.str _=>true|.str _,.int _=>true|.bl _,.str _=>true|.str _,.bl _=>true
 |_,_=>false
def rEq:R2:=λx y H Q=>scal x y=true/\Q (.bl (decide (x=y))) H
def rNe:R2:=λx y H Q=>scal x y=true/\Q (.bl (!decide (x=y))) H
theorem qV1 {i j:Int} :decide (V.int i=V.int j)=(i==j):=by
 rw[R8];simp
theorem qY6 {i j:Bool} :decide (V.bl i=V.bl j)=(i==j):=by
 rw[R8];simp
theorem qV0 {i j:Str} :decide (V.str i=V.str j)=(i==j):=by
 rw[R8];simp
theorem qV2 {i j:Array UInt8} :decide (V.byt i=V.byt j)=(i.toList==j.toList):=by
 rw[R8];cases i;cases j;simp
section
variable{X:Cx}{a b c:Expr}{ta tb tc:TE}{pos:Pos}
theorem qBF {Ab:Aa2} {σ:St} {H:Hp} {Q:VK} {k a:Bool} (I:Inv X Ab σ H s)(q:Q (.bl k) H)(e:k=a):EP X Ab σ Q (.bool a) s:=by
 subst e;exact⟨.bl k,H,I,rfl,q⟩
theorem qGB:OpR X (C03 .Eq) rEq:=by
 intro e s σ H x y v u Q I d a h;obtain⟨c,q⟩:=h;cases x with
 |non=>
  cases d;cases y with
  |non=>cases a;exact PySem.EqNone.eq_none_none (qBF I q (by simp))
  |bl j=>cases a;exact PySem.EqNone.eq_none_bool (qBF I q (by simp))
  |int j=>obtain⟨b,rfl⟩:=a;exact PySem.EqNone.eq_none_int (qBF I q (by simp))
  |str j=>obtain⟨b,rfl⟩:=a;exact PySem.EqNone.eq_none_str (qBF I q (by simp))
  |_=>exact absurd (show false=true from c) B8
 |bl i=>
  cases d;cases y with
  |non=>cases a;exact PySem.EqNone.eq_bool_none (qBF I q (by simp))
  |bl j=>cases a;exact eq_bool (qBF I q qY6)
  |str j=>obtain⟨b,rfl⟩:=a;exact PySem.EqMixed.eq_bool_str (qBF I q (by simp))
  |_=>exact absurd (show false=true from c) B8
 |int i=>
  obtain⟨t,rfl⟩:=d;cases y with
  |non=>cases a;exact PySem.EqNone.eq_int_none (qBF I q (by simp))
  |int j=>obtain⟨b,rfl⟩:=a;exact eq_int (qBF I q qV1)
  |str j=>obtain⟨b,rfl⟩:=a;exact PySem.EqMixed.eq_int_str (qBF I q (by simp))
  |_=>exact absurd (show false=true from c) B8
 |str i=>
  obtain⟨t,rfl⟩:=d;cases y with
  |non=>cases a;exact PySem.EqNone.eq_str_none (qBF I q (by simp))
  |bl j=>cases a;exact PySem.EqMixed.eq_str_bool (qBF I q (by simp))
  |int j=>obtain⟨b,rfl⟩:=a;exact PySem.EqMixed.eq_str_int (qBF I q (by simp))
  |str j=>obtain⟨b,rfl⟩:=a;exact eq_str (qBF I q qV0)
  |_=>exact absurd (show false=true from c) B8
 |byt i=>
  obtain⟨t,rfl⟩:=d;cases y with
  |byt j=>obtain⟨b,rfl⟩:=a;exact PySem.W.eq_bytes (qBF I q qV2)
  |_=>exact absurd (show false=true from c) B8
 |_=>cases y<;>exact absurd (show false=true from c) B8
theorem qKS:OpR X (C03 .NotEq) rNe:=by
 intro e s σ H x y v u Q I d a h;obtain⟨c,q⟩:=h;cases x with
 |non=>
  cases d;cases y with
  |non=>cases a;exact PySem.EqNone.ne_none_none (qBF I q (by simp))
  |bl j=>cases a;exact PySem.EqNone.ne_none_bool (qBF I q (by simp))
  |int j=>obtain⟨b,rfl⟩:=a;exact PySem.EqNone.ne_none_int (qBF I q (by simp))
  |str j=>obtain⟨b,rfl⟩:=a;exact PySem.EqNone.ne_none_str (qBF I q (by simp))
  |_=>exact absurd (show false=true from c) B8
 |bl i=>
  cases d;cases y with
  |non=>cases a;exact PySem.EqNone.ne_bool_none (qBF I q (by simp))
  |bl j=>cases a;exact ne_bool (qBF I q (congrArg not qY6))
  |str j=>obtain⟨b,rfl⟩:=a;exact PySem.EqMixed.ne_bool_str (qBF I q (by simp))
  |_=>exact absurd (show false=true from c) B8
 |int i=>
  obtain⟨t,rfl⟩:=d;cases y with
  |non=>cases a;exact PySem.EqNone.ne_int_none (qBF I q (by simp))
  |int j=>obtain⟨b,rfl⟩:=a;exact ne_int (qBF I q (congrArg not qV1))
  |str j=>obtain⟨b,rfl⟩:=a;exact PySem.EqMixed.ne_int_str (qBF I q (by simp))
  |_=>exact absurd (show false=true from c) B8
 |str i=>
  obtain⟨t,rfl⟩:=d;cases y with
  |non=>cases a;exact PySem.EqNone.ne_str_none (qBF I q (by simp))
  |bl j=>cases a;exact PySem.EqMixed.ne_str_bool (qBF I q (by simp))
  |int j=>obtain⟨b,rfl⟩:=a;exact PySem.EqMixed.ne_str_int (qBF I q (by simp))
  |str j=>obtain⟨b,rfl⟩:=a;exact ne_str (qBF I q (congrArg not qV0))
  |_=>exact absurd (show false=true from c) B8
 |byt i=>
  obtain⟨t,rfl⟩:=d;cases y with
  |byt j=>obtain⟨b,rfl⟩:=a;exact PySem.W.ne_bytes (qBF I q (congrArg not qV2))
  |_=>exact absurd (show false=true from c) B8
 |_=>cases y<;>exact absurd (show false=true from c) B8
def qRJ:OpR X (C03 .Lt) (rI0 λi j=>.bl (decide (i<j))):=opB0 λ_ _ _ _ _ _ _ q=>lt_int q
def qZC:OpR X (C03 .LtE) (rI0 λi j=>.bl (decide (i<=j))):=opB0 λ_ _ _ _ _ _ _ q=>le_int q
def qTO:OpR X (C03 .Gt) (rI0 λi j=>.bl (decide (j<i))):=opB0 λ_ _ _ _ _ _ _ q=>gt_int q
def qWE:OpR X (C03 .GtE) (rI0 λi j=>.bl (decide (j<=i))):=opB0 λ_ _ _ _ _ _ _ q=>ge_int q
theorem qAQ (b:Expr){op:CmpOp}(h:op≠.In:=by decide)(c:op≠.NotIn:=by decide):C30 op b=false:=by
 have d:(op==CmpOp.In)=false:=by cases op<;>first|rfl|exact absurd rfl h
 have a:(op==CmpOp.NotIn)=false:=by cases op<;>first|rfl|exact absurd rfl c
 cases b<;>simp[C30,d,a]
theorem qCI {op:CmpOp} {r:R2} (m:OpR X (C03 op) r)(e:PE X a ta)(k:PE X b tb)(l:C30 op b=false):PE X (.Compare a [op] [b] pos) (tOp r ta tb):=by
 intro c s σ H Q I h;exact wpAny_Compare1 (binT e k I h λv u j x y f d i g q=>m c j σ f x y v u Q d i g q) l
def qcZ (t:TE):TT:=λσ H Q=>t σ H λx H'=>∃k,x=.bl k/\Q k H'
theorem qAM {op:CmpOp} {r:R2} (j:OpR X (C03 op) r)(f:PE X a ta)(g:PE X b tb)(i:C30 op b=false):PT X (.Compare a [op] [b] pos) (qcZ (tOp r ta tb)):=by
 intro d s σ H Q I h;refine wpAny_isTrue_Compare1 (thn (f d s σ H _ I h) fun v s1 ⟨x,H1,I1,r1,q1⟩=>thn (g d s1 σ H1 _ I1 q1) fun u s2 ⟨y,H2,I2,r2,q2⟩=>
  thn (j d s2 σ H2 x y v u _ I2 r1 r2 q2) λc s3 ⟨z,H3,I3,r3,k,e,q3⟩=>?_) i
 subst e;cases r3;exact C08 ⟨H3,I3,q3⟩
def qb2 (r r':R2)(ta tb tc:TE):TE:=λσ H Q=>ta σ H λx H1=>tb σ H1 λy H2=>r x y H2 λz H3=>∃k,z=.bl k/\
 (if k=true then tc σ H3 λw' H4=>r' y w' H4 Q else Q (.bl false) H3)
theorem qQC {op f:CmpOp} {r j:R2} (p:OpR X (C03 op) r)(i:OpR X (C03 f) j)(l:PE X a ta)(n:PE X b tb)(m:PE X c tc)
  (o:lastMarks [op,f] [b,c]=false:=by with_unfolding_all rfl):PE X (.Compare a [op,f] [b,c] pos) (qb2 r j ta tb tc):=by
 intro g s σ H Q I h;refine Compare_chain (thn (l g s σ H _ I h) fun v s1 ⟨x,H1,I1,r1,q1⟩=>chain_link (thn (n g s1 σ H1 _ I1 q1) fun u s2 ⟨y,H2,I2,r2,q2⟩=>
  thn (p g s2 σ H2 x y v u _ I2 r1 r2 q2) λd s3 ⟨z,H3,I3,r3,k,e,q3⟩=>?_)) o
 subst e;cases r3;refine C08 ?_;cases k with
 |false=>exact ite_ff ⟨.bl false,H3,I3,rfl,q3⟩
 |true=>exact ite_tt (chain_last (thn (m g s3 σ H3 _ I3 q3) λw' s4 ⟨z',H4,I4,r4,q4⟩=>i g s4 σ H4 y z' u w' Q I4 r2 r4 q4))
def TruV (K:Ab1)(x:V)(H:Hp)(k:Bool):Prop:=
 match x with
 |.non=>k=false
 |.bl b=>k=b
 |.int i=>k=(i != 0)
 |.str y=>y.length<=B89/\k=((y.length:Int) != 0)
 |.byt y=>y.size<=B89/\k=((y.size:Int) != 0)
 |.ref p=>(∃xs,SqL K H p xs/\k=!xs.isEmpty)\/(∃xs,SqT K H p xs/\k=!xs.isEmpty)\/∃Af,H p=some (.dK Af)/\k=!Af.isEmpty
 |_=>False
theorem qRS {κ:Type} {Af:List (κ×V)} {vs:List (κ×Value)} (r:KV Af vs):(!vs.isEmpty)=!Af.isEmpty:=by
 cases r<;>rfl
theorem qLI {xs:List V} {a:List Value} (r:Vals xs a):(!a.toArray.isEmpty)=!xs.isEmpty:=by
 cases r<;>simp
theorem qNP:(B89:Nat)<2^63:=by rw[B94];decide
theorem qaX:TruR X (λx H Q=>∃k,TruV X.K x H k/\Q k H):=by
 intro z s σ H x v Q I d h;obtain⟨k,e,q⟩:=h;have hl:=qNP;have hs:B89=16777216:=B94;cases x with
 |non=>
  cases d;have a:k=false:=e;subst a;exact truthy_none ⟨H,I,q⟩
 |bl b=>
  cases d;have a:k=b:=e;subst a;exact C08 ⟨H,I,q⟩
 |int i=>
  obtain⟨t,rfl⟩:=d;have a:k=(i != 0):=e;subst a;exact PySem.P.truthy_int ⟨H,I,q⟩
 |str y=>
  obtain⟨t,rfl⟩:=d;obtain⟨u,a⟩:y.length<=B89/\k=((y.length:Int) != 0):=e;subst a;exact PySem.P.truthy_str (by lia) ⟨H,I.tok _,q⟩
 |byt y=>
  obtain⟨t,rfl⟩:=d;obtain⟨u,a⟩:y.size<=B89/\k=((y.size:Int) != 0):=e;subst a;exact PySem.W.truthy_bytes (by lia) ⟨H,I.tok _,q⟩
 |ref p=>
  cases d;have a:(∃xs,SqL X.K H p xs/\k=!xs.isEmpty)\/(∃xs,SqT X.K H p xs/\k=!xs.isEmpty)\/∃Af,H p=some (.dK Af)/\k=!Af.isEmpty:=e;rcases a with⟨xs,f,a⟩|⟨xs,f,a⟩|⟨Af,f,a⟩
  ·subst a;obtain⟨j,r,l,n⟩:=I.list f;have c:=r.length;exact wpAny_truthy_list l.isList (by simp only[B6];lia) ⟨H,I.tok _,by rw[qLI r];exact q⟩
  ·subst a;obtain⟨j,r,l,n⟩:=I.tuple f;have c:=r.length;exact truthy_tuple l (by simp only[B6];lia) ⟨H,I.tok _,by rw[qLI r];exact q⟩
  ·subst a;obtain⟨n,o,g,r,m⟩:Af.length<=B89/\(p==C21)=false/\∃g,KV Af g/\s.heap.DictOf (qBN X.prog X.w) p g:=I.hok p _ f;have c:Af.length=g.length:=B4 r;exact wpAny_truthy_dict o m (by lia) ⟨H,I.tok _,by rw[qRS r];exact q⟩
 |_=>exact(show False from e).elim
theorem qE7 (c:PE X a ta)(d:∀whole,isTrue a X.env whole=(do let v <- whole;standAt a.pos;C49 [v] (truthy v))):
  PT X a (λσ H Q=>ta σ H λx H'=>∃k,TruV X.K x H' k/\Q k H'):=by
 intro b s σ H Q I h;exact isTrue_plain (thn (c b s σ H _ I h) λv s1 ⟨x,H1,I1,r1,q1⟩=>qaX b s1 σ H1 x v Q I1 r1 q1) (d _)
theorem qEC {x:V} {a:List Value} (r:Vals [x] a):∃u,a=[u]/\RelV x u:=by
 cases r with
 |cons r1 r2=>cases r2;exact⟨_,rfl,r1⟩
theorem qOI {x y:V} {a:List Value} (r:Vals [x,y] a):∃u w',a=[u,w']/\RelV x u/\RelV y w':=by
 cases r with
 |cons r1 r2=>
  cases r2 with
  |cons r3 r4=>cases r4;exact⟨_,_,rfl,r1,r3⟩
theorem qKI (b:X.calm=true):qCQ X (.builtin "max") (λxs H Q=>∃i j,xs=[.int i,.int j]/\Q (.int (if j>i then j else i)) H):=by
 intro e s σ H xs c Q I r h;obtain⟨i,j,rfl,q⟩:=h;obtain⟨u,d,rfl,⟨t,rfl⟩,⟨g,rfl⟩⟩:=qOI r;refine max_two_ints (I.ok.hd b) λl f k=>⟨_,H,I.kept k,?_,q⟩;by_cases a:j>i
 ·rw[if_pos a,if_pos a];exact⟨_,rfl⟩
 ·rw[if_neg a,if_neg a];exact⟨_,rfl⟩
theorem qHU (b:X.calm=true):qCQ X (.builtin "min") (λxs H Q=>∃i j,xs=[.int i,.int j]/\Q (.int (if j<i then j else i)) H):=by
 intro e s σ H xs c Q I r h;obtain⟨i,j,rfl,q⟩:=h;obtain⟨u,d,rfl,⟨t,rfl⟩,⟨g,rfl⟩⟩:=qOI r;refine min_two_ints (I.ok.hd b) λl f k=>⟨_,H,I.kept k,?_,q⟩;by_cases a:j<i
 ·rw[if_pos a,if_pos a];exact⟨_,rfl⟩
 ·rw[if_neg a,if_neg a];exact⟨_,rfl⟩
theorem qHV:qCQ X (.type "int") (λxs H Q=>(∃i,xs=[.int i]/\Q (.int i) H)\/∃k,xs=[.bl k]/\Q (.int (if k then 1 else 0)) H):=by
 intro c s σ H xs b Q I r h;rcases h with⟨i,rfl,q⟩|⟨k,rfl,q⟩
 ·obtain⟨u,rfl,t,rfl⟩:=qEC r;exact call_int_int ⟨.int i,H,I,⟨_,rfl⟩,q⟩
 ·obtain⟨u,rfl,a⟩:=qEC r;cases a;exact call_int_bool ⟨.int (if k then 1 else 0),H,I.tok _,⟨_,rfl⟩,q⟩
theorem qPK:qCQ X (.builtin "divmod") (λxs H Q=>∃i j,xs=[.int i,.int j]/\CDiv i j/\∀p,H p=none->Q (.ref p) (Ag H p (.tup [.int (i/j),.int (i%j)]))):=by
 intro g s σ H xs c Q I r h;obtain⟨i,j,rfl,⟨l,f⟩,q⟩:=h;obtain⟨u,d,rfl,⟨t,rfl⟩,⟨k,rfl⟩⟩:=qOI r;refine divmod_int (by lia) ?_ (.inl (m4 (by lia)))
 rw[A07 i (by lia),A08 i (by lia)]
 have a:H s.heap.objs.size=none:=I.hok.fresh (A9 _);refine⟨.ref s.heap.objs.size,_,?_,rfl,q _ a⟩;refine I.laid (λb o e=>A4 _ e) (A9 _) ⟨by simp only[C9,O4];rw[B94];decide,[.int (i/j) s.toks,.int (i%j) (s.toks+1)],.cons ⟨_,rfl⟩ (.cons ⟨_,rfl⟩ .nil),?_⟩
 exact⟨_,B7 s.heap rfl,rfl,0,rfl⟩
end
structure ObjM (h:Heap)(x dx C:Addr)(mA:Ab0):Prop where
 obj:h.get? x=some (A67 C dx)
 ns:h.Ns1 dx mA
 ne:dx≠x
theorem qU3 {h:Heap} {c:Addr} {f:Ab0} (n:h.Ns1 c f):∃od,h.get? c=some od/\∀name,A89 name od=some (f name):=by
 obtain⟨o,d,p,l,i,m,_,k⟩:=n;refine⟨o,l,λname=>?_⟩;have e:=k name;unfold nsFind findBy at e;rw[<- B07] at e;unfold A89;rw[i];dsimp only
 split
 ·rename_i y q
  rw[q] at e;exact congrArg some e
 ·rename_i q
  rw[q] at e;have a:d.toList.any (·.refKey)=false:=by
   rw[List.any_eq_false];intro y j;obtain⟨z,t,b⟩:=m y (Array.mem_toList_iff.mp j);simp[DictEntry.refKey,b]
  have g:¬d.toList.any (·.refKey)=true:=by rw[a];exact B8
  rw[if_neg g];exact congrArg some e
def ObjM.look {h:Heap} {x a C:Addr} {b:Ab0} (I:ObjM h x a C b):∃od,PySem.W.InstAt h x (A67 C a) C (some od)/\∀name,A89 name od=some (b name):=
 let⟨od,ho,hl⟩:=qU3 I.ns
 ⟨od,⟨I.obj,rfl,rfl,ho⟩,hl⟩
noncomputable def putF (f:Str)(v:V):List (Str×V)->List (Str×V)
 |[]=>[(f,v)]
 |(g,x)::r=>if g=f then(g,v)::r else(g,x)::putF f v r
theorem RelO.some_of {v:V} {o:Option Value} (r:RelO (some v) o):∃u,o=some u/\RelV v u:=by
 cases o with
 |none=>exact(show False from r).elim
 |some u=>exact⟨u,rfl,r⟩
section
variable{P:B90}{w:World}{H H':Hp}{h h':Heap}{a C dx:Addr}{fs fs':List (Str×V)}
theorem qZW (b:HOk P w H h)(e:H a=some (.ins C dx fs)):∃mA,ObjM h a dx C mA/\(∀f,RelO (fs.lookup f) (mA f))/\PySem.Within mA (fs.map (·.1))/\fs.length<=1000/\H dx=some (.own a):=by
 obtain⟨d,z,g,c,mA,n,r,q⟩:=(show ObjOk P w H h a (.ins C dx fs) from b a _ e);exact⟨mA,⟨c,n,g⟩,r,q,z,d⟩
end
structure Cls (K:Ab1)(C:Addr):Prop where
 pg:B29 K C Z2=true
 hd:A29 K C=true
 po:PySem.W.plainOver K C=true
 sa:P0 K (.ref C) "__setattr__" = some (some (.builtin "object.__setattr__"))
def Cls.get {K:Ab1} {C:Addr} (c:Cls K C)(f:Str):B29 K C f=true:=c.pg
def qR5 (K:Ab1)(C:Addr)(f:Str):Prop:=P0 K (.ref C) f=some none
structure Con (K:Ab1)(C:Addr)(f:Str)(v:V)(u:Value):Prop where
 at_:P0 K (.ref C) f=some (some u)
 rel:RelV v u
 get:m8 K u "__get__" = some none
 cp:PySem.W.copiedNames.contains f=false
structure Meth (K:Ab1)(C:Addr)(m:Str)(f:Addr):Prop where
 at_:P0 K (.ref C) m=some (some (.ref f))
 fn:B78 K (.ref f)=true
 kp:J1 K (.ref f)=true
section
variable{X:Cx}{Ab:Aa2}{σ:St}{H:Hp}{s:Shared}{A:Around}{E:Aa1}{Q:Aa1}{c:Value}{b:Bool}
inductive TyOf (K:Ab1)(H:Hp):V->Value->Prop where
 |non:TyOf K H .non (.type "NoneType")
 |bl (x:Bool):TyOf K H (.bl x) (.type "bool")
 |int (i:Int):TyOf K H (.int i) (.type "int")
 |str (x:Str):TyOf K H (.str x) (.type "str")
 |flt (x:UInt64):TyOf K H (.flt x) (.type "float")
 |lst {a:Addr} {xs:List V} (e:H a=some (.lst xs)):TyOf K H (.ref a) (.type "list")
 |frz {a:Addr} {o:Obj} {xs:List V} (e:H a=some (.frz o (.lst xs))):TyOf K H (.ref a) (.type "list")
 |tup {a:Addr} {xs:List V} (e:H a=some (.tup xs)):TyOf K H (.ref a) (.type "tuple")
 |dK {a:Addr} {Af:List (Key×V)} (e:H a=some (.dK Af)):TyOf K H (.ref a) (.type "dict")
 |dT {a:Addr} {Af:List (List Key×V)} (e:H a=some (.dT Af)):TyOf K H (.ref a) (.type "dict")
 |ins {a C dx:Addr} {fs:List (Str×V)} (e:H a=some (.ins C dx fs)) (cl:Cls K C) (ha:P0 K (.ref C) "__class__" = some (some (.builtin "object.__class__")))
   (hn:m8 K (.builtin "object.__class__") "__get__" = some (some (.builtin "getset_descriptor.__get__"))) (htk:A68 K (.builtin "object.__class__")=some true)
   (hm:y8 K C (.type "object")=some true):TyOf K H (.ref a) (.ref C)
theorem qUB {x:V} {u t:Value} (I:Inv X Ab σ H s)(d:RelV x u)(j:TyOf X.K H x t)(e:P5 X.K t c=some b)(h:∀tk,Q (.bool b) {s with toks:=tk}):
  wpAny (model X.prog X.w) A (call (.builtin "isinstance") [u,c]) Q E s:=by
 cases j with
 |non=>cases(show u=Q3 from d);exact Q4 PySem.W.kitx_none I.kIn Z4 e (λz=>nomatch z) h
 |bl y=>cases(show u=T8 y from d);exact Q4 PySem.W.kitx_bool I.kIn Z4 e (λz=>nomatch z) h
 |int i=>obtain⟨t,q⟩:=(show∃t,u=R4 i t from d);cases q;exact Q4 PySem.W.kitx_int I.kIn Z4 e (λz=>nomatch z) h
 |str y=>obtain⟨t,q⟩:=(show∃t,u=B39 y t from d);cases q;exact Q4 PySem.W.kitx_str I.kIn Z4 e (λz=>nomatch z) h
 |flt y=>obtain⟨t,q⟩:=(show∃t,u=Value.float y t from d);cases q;exact Q4 PySem.W.kitx_float I.kIn Z4 e (λz=>nomatch z) h
 |@lst a xs ea=>
  cases(show u=D6 a from d);obtain⟨_,_,n,_,f⟩:=(show ObjOk X.prog X.w H s.heap a (.lst xs) from I.hok a _ ea);exact Q4 B14 I.kIn ⟨_,f,rfl⟩ e (λz=>nomatch z) h
 |@frz a ob xs ea=>
  cases(show u=D6 a from d);obtain⟨_,_,_,n,_,f⟩:=(show ObjOk X.prog X.w H s.heap a (.frz ob (.lst xs)) from I.hok a _ ea);exact Q4 B14 I.kIn ⟨_,f,rfl⟩ e (λz=>nomatch z) h
 |@tup a xs ea=>
  cases(show u=D6 a from d);obtain⟨_,_,_,p⟩:=(show ObjOk X.prog X.w H s.heap a (.tup xs) from I.hok a _ ea);obtain⟨o,f,g,_⟩:=p;exact Q4 PySem.W.kitx_tuple I.kIn ⟨o,f,g⟩ e (λz=>nomatch z) h
 |@dK a Af ea=>
  cases(show u=D6 a from d);obtain⟨_,_,r,_,p⟩:=(show ObjOk X.prog X.w H s.heap a (.dK Af) from I.hok a _ ea);obtain⟨o,k,l,f,g,_⟩:=p;exact Q4 B15 I.kIn ⟨o,f,g.1⟩ e (λz=>nomatch z) h
 |@dT a Af ea=>
  cases(show u=D6 a from d);obtain⟨_,_,xs,_,o,k,l,f,g,_⟩:=(show ObjOk X.prog X.w H s.heap a (.dT Af) from I.hok a _ ea);exact Q4 B15 I.kIn ⟨o,f,g.1⟩ e (λz=>nomatch z) h
 |@ins a C dx fs ea cl ha hn htk hm=>
  cases(show u=D6 a from d);obtain⟨v,O,_⟩:=qZW I.hok ea;obtain⟨m,J,_⟩:=O.look;exact Q4 (PySem.W.kitx_own (cl.get _) cl.hd ha hn htk hm) I.kIn J e (λz=>nomatch z) h
end
structure Room (k:Nat)(A:Around):Prop where
 hd:A.handled=none
 dp:A.depth+3*k+5<recursionLimit
 un:A.units+16*k+200<cLine
 gd:A.guards=some []
theorem Room.mono {j k:Nat} (r:Room k A)(h:j<=k):Room j A:=⟨r.hd,by have:=r.dp;lia,by have:=r.un;lia,r.gd⟩
theorem Room.deeper {k:Nat} (r:Room (k+1) A)(env:Env):Room k (A.deeper env):=
 ⟨r.hd,by have:=r.dp;show A.depth+1+3*k+5<_;lia,by have:=r.un;show A.units+3+16*k+200<_;lia,r.gd⟩
theorem Room.depth {k:Nat} (r:Room k A):A.depth<recursionLimit:=by have:=r.dp;lia
theorem Room.units {k:Nat} (r:Room k A):A.units+64<cLine:=by have:=r.un;lia
theorem Room.units0 {k:Nat} (r:Room k A):A.units<cLine:=by have:=r.un;lia
def tNil:TA:=λ_ H Q=>Q [] H
def qd9 (ta:TE)(tr:TA):TA:=λσ H Q=>ta σ H λx H1=>tr σ H1 λxs H2=>Q (x::xs) H2
section
variable{X:Cx}{e:Expr}{es:List Expr}{te:TE}{t:TA}{pos:Pos}
def qA2:PA X [] tNil:=λ_ _ _ _ H Q I h=>B16 ⟨[],H,I,.nil,h⟩
theorem qA0 (f:PE X e te)(c:PA X es t)(d:B95 (e::es) X.env=(false,eval e X.env)::B95 es X.env:=by rfl):PA X (e::es) (qd9 te t):=by
 intro a b s σ H Q I h;rw[d];show wpAny _ _ (spliced ((false,eval e X.env)::backTo a (B95 es X.env))) _ _ s;exact A13 (thn (f b s σ H _ I h) λu s1 ⟨x,H1,I1,r1,q1⟩=>thn (c a b s1 σ H1 _ I1 q1) λus s2 ⟨xs,H2,I2,r2,q2⟩=>⟨x::xs,H2,I2,.cons r1 r2,q2⟩)
def tTup (t:TA):TE:=λσ H Q=>t σ H λxs H1=>xs.length<=B89/\∀p,H1 p=none->Q (.ref p) (Ag H1 p (.tup xs))
def tLst (t:TA):TE:=λσ H Q=>t σ H λxs H1=>xs.length<=B89/\∀p,H1 p=none->Q (.ref p) (Ag H1 p (.lst xs))
theorem qDQ (h:PA X es t):PE X (.Tuple es x1 pos) (tTup t):=by
 intro c s σ H Q I a;refine wpAny_Tuple_spliced (thn (h pos c s σ H _ I a) λus s1 ⟨xs,H1,I1,r,z,q⟩=>⟨by rw[<- r.length];exact z,?_⟩)
 have d:H1 s1.heap.objs.size=none:=I1.hok.fresh (A9 _);refine⟨.ref s1.heap.objs.size,Ag H1 s1.heap.objs.size (.tup xs),I1.laid (t':=s1.toks) (λb u e=>A4 _ e) (A9 _) ?_,rfl,q _ d⟩;exact⟨z,us,r,⟨_,B7 _ rfl,rfl,_,rfl⟩⟩
theorem qAY (h:PA X es t):PE X (.List es pos) (tLst t):=by
 intro c s σ H Q I a;refine wpAny_List_spliced (thn (h pos c s σ H _ I a) λus s1 ⟨xs,H1,I1,r,z,q⟩=>⟨by rw[<- r.length];exact z,?_⟩)
 have d:H1 s1.heap.objs.size=none:=I1.hok.fresh (A9 _);refine⟨.ref s1.heap.objs.size,Ag H1 s1.heap.objs.size (.lst xs),I1.laid (t':=s1.toks) (λb u e=>A4 _ e) (A9 _) ?_,rfl,q _ d⟩;exact⟨z,us,0,r,B7 _ rfl⟩
end
abbrev Sp:=List V->Hp->VK->XK->Prop
abbrev CXT:=List Env->Hp->Shared->XK->Aa1
structure Env0 (P:B90)(w:World)(K:Ab1)(mg:Ab0)(base:Heap)(A:Around)(outer:List Env)(s:Shared)(H:Hp):Prop where
 frames:A.frames=some outer
 mod:Mod K mg base
 bs:∀b o,base.get? b=some o->s.heap.get? b=some o/\H b=none
 bsz:base.objs.size<=s.heap.objs.size
 funs:s.heap.FunFrames base outer
 frf:∀b∈frs outer,H b=none
 hok:HOk P w H s.heap
 bare:C46 s.gens
def CE (outer:List Env)(P:B90)(w:World)(H:Hp)(s:Shared)(Q:VK)(u:Value)(s':Shared):Prop:=
 ∃v H',s'.os=s.os/\C46 s'.gens/\Un (frs outer) [] H H' s.heap s'.heap/\HOk P w H' s'.heap/\RelV v u/\Q v H'
def CR (CX:CXT)(outer:List Env)(P:B90)(w:World)(H:Hp)(s:Shared)(Q:VK)(E:XK)(r:Result)(s':Shared):Prop:=
 match r with
 |.ok (.ret u)=>CE outer P w H s Q u s'
 |.ok _=>False
 |.error e=>CX outer H s E e s'
structure FnOk (P:B90)(w:World)(K:Ab1)(mg:Ab0)(base:Heap)(CX:CXT)(k:Nat)(f:Addr)(fd:C02)(ps:List Str)(sp:Sp):Prop where
 len:∀vs H Q E,sp vs H Q E->vs.length=ps.length
 run:∀(A:Around) (outer:List Env) (s:Shared) (H:Hp) (args:Args) (us:List Value) (vs:List V) (Q:VK) (E:XK),Room k A->Env0 P w K mg base A outer s H->BindsTo s fd args (ps.zip us)->Vals vs us->sp vs H Q E->
  C18 (model P w) A (.call (.ref f) args) (CR CX outer P w H s Q E) s
section
variable{X:Cx}{Ab:Aa2}{σ:St}{H:Hp}{s s':Shared}
def Inv.env0 (I:Inv X Ab σ H s):Env0 X.prog X.w X.K X.mg X.base X.A X.stack s H:=
 ⟨I.ok.frames,I.ok.mod,I.bs,L5 I.ok.bsz I.sz,I.stack,I.stkFree,I.hok,I.bare⟩
theorem Inv.after {Q:VK} {u:Value} (I:Inv X Ab σ H s)(h:CE X.stack X.prog X.w H s Q u s'):EP X Ab σ Q u s':=by
 obtain⟨v,f,os,a,j,c,r,q⟩:=h;obtain⟨i,g,d,t,e⟩:=s';obtain rfl:e=s.os:=os;exact⟨v,f,I.call (h':=i) (g':=g) (d':=d) (t':=t) (ch:=[]) j c a (λb z=>absurd z (by simp)),r,q⟩
end
def qb3 (sp:Sp)(dvs:List V)(E:XK)(t:TA):TE:=λσ H Q=>t σ H λvs H1=>sp (vs++dvs) H1 Q E
def Binds (K:Ab1)(fd:C02)(ps:List Str)(ds:List Value):Prop:=
 ∀(s:Shared) (us:List Value),K.In s.heap->(us++ds).length=ps.length->BindsTo s fd ⟨us,[]⟩ (ps.zip (us++ds))
theorem Binds.all {K:Ab1} {b:C02} {ps:List Str} (h:∀us:List Value,us.length=ps.length->bindArgs b ⟨us,[]⟩=pure (ps.zip us)):Binds K b ps []:=λs us _ a=>by
 rw[M6] at a ⊢;exact .of_eq (h us a)
def qLR (CX:CXT)(X:Cx)(E:XK):Prop:=∀(Ab:Aa2) (σ:St) (H:Hp) (s:Shared) (e:Value) (s':Shared),Inv X Ab σ H s->CX X.stack H s E e s'->X.xe e s'
section
variable{X:Cx}{CX:CXT}{k:Nat}{f C:Addr}{fd:C02}{ps:List Str}{sp:Sp}{dvs:List V}{ds:List Value}{E:XK}{x m:Str}{p pos apos:Pos}{e o:Expr}{es:List Expr}{ta:TE}{t:TA}
theorem qbC {Ab:Aa2} {σ:St} {H:Hp} {Q:VK} {a:List Value} {vs:List V} (F:FnOk X.prog X.w X.K X.mg X.base CX k f fd ps sp)(d:Room k X.A)(j:Binds X.K fd ps ds)(i:Vals dvs ds)(l:qLR CX X E)
  (I:Inv X Ab σ H s) (r:Vals vs a) (h:sp (vs++dvs) H Q E):wpAny (model X.prog X.w) X.A (call (.ref f) a) (EP X Ab σ Q) X.xe s:=by
 have c:Vals (vs++dvs) (a++ds):=r.append i;have g:(a++ds).length=ps.length:=by rw[<- c.length];exact F.len _ _ _ _ h
 refine C63 (C32 (F.run X.A X.stack s H ⟨a,[]⟩ (a++ds) (vs++dvs) Q E d I.env0 (j s a I.kIn g) c h) λr m b=>?_);cases r with
 |error e=>exact l Ab σ H s e m I b
 |ok fl=>
  cases fl with
  |ret u=>exact I.after b
  |next=>exact V2 b
  |brk=>exact V2 b
  |cont=>exact V2 b
theorem qDR (F:FnOk X.prog X.w X.K X.mg X.base CX k f fd ps sp)(i:Room k X.A)(d:Gl X x)(o:X.mg x=some (.ref f))(u:J1 X.K (.ref f)=true)(n:Binds X.K fd ps ds)(m:Vals dvs ds)(l:qLR CX X E)
  (j:PA X (e::es) t) (b:(x==("__debug__" : Str))=false:=by decide) (c:B95 (e::es) X.env=(false,eval e X.env)::B95 es X.env:=by rfl) (a:(backTo pos (B95 es X.env)).any (·.1)=false:=by rfl):
  PE X (.Call (.Name x p) (e::es) [] pos) (qb3 sp dvs E t):=by
 intro g s σ H Q I h;refine C34 (qK0 I d o ?_ b);refine A14 (h₀:=X.base) I.ok.mod.kin u (thn (j pos g s σ H _ I h) λus s1 ⟨vs,H1,I1,r,q⟩=>⟨I1.kIn,?_⟩) c a;exact qbC F i n m l I1 r q
structure Mk (K:Ab1)(C f:Addr):Prop where
 makes:PySem.W.makesIn K C=true
 init:P0 K (.ref C) "__init__" = some (some (.ref f))
 fn:B78 K (.ref f)=true
 kp:J1 K (.ref C)=true
end
def PK (X:Cx)(kws:List C50)(t:TA):Prop:=
 ∀(pos:Pos) (Ab:Aa2) (s:Shared) (σ:St) (H:Hp) (Q:List V->Hp->Prop),Inv X Ab σ H s->t σ H Q->wpAny (model X.prog X.w) X.A (evalAll ((backToKw pos (keywordEach kws X.env)).map (·.2))) (AP X Ab σ Q) X.xe s
section
variable{X:Cx}{CX:CXT}{k:Nat}{f C:Addr}{fd:C02}{ps ks:List Str}{sp:Sp}{E:XK}{x m:Str}{p pos apos kpos:Pos}{e o:Expr}{es:List Expr}{kws:List C50}{te ta:TE}{t tk:TA}{nm:Option Str}
structure KBinds (K:Ab1)(fd:C02)(ps ks:List Str)(g:List Value->List Value->List Value)(gV:List V->List V->List V):Prop where
 to:∀(s:Shared) (us ws:List Value),K.In s.heap->(g us ws).length=ps.length->BindsTo s fd ⟨us,ks.zip ws⟩ (ps.zip (g us ws))
 rel:∀{vs:List V} {us:List Value} {zs:List V} {ws:List Value},Vals vs us->Vals zs ws->Vals (gV vs zs) (g us ws)
variable{g:List Value->List Value->List Value}{gV:List V->List V->List V}
end
structure FnScope (N P:List Str)(sc:Scope):Prop where
 kind:sc.kind=.function
 co:sc.isCoroutine=false
 gen:sc.isGenerator=false
 nd:N.Nodup
 pre:N.take P.length=P
 par:∀x∈P,sc.names.lookup x=some .local\/sc.names.lookup x=some .cell
 nofree:∀y∈sc.names,y.2≠.free
theorem qO9 {kindOf:Str->Option C40} {x:Str} :∀{binds:List (Str×Value)} {m:Ab0},(∀v,(x,v)∉binds)->bindL kindOf binds m x=m x
 |[],_,_=>rfl
 |(n,v)::r,m,h=>by
  unfold bindL;rw[qO9 λw hw=>h w (A7 _ hw)]
  split
  ·have:x≠n:=by rintro rfl;exact h v A8
   simp[this]
  ·rfl
theorem qOB {kindOf:Str->Option C40} {x:Str} :∀{binds:List (Str×Value)} {m:Ab0},(∀v,(x,v)∉binds)->bindC kindOf binds m x=m x
 |[],_,_=>rfl
 |(n,v)::r,m,h=>by
  unfold bindC;rw[qOB λw hw=>h w (A7 _ hw)]
  split
  ·rfl
  ·have:x≠n:=by rintro rfl;exact h v A8
   simp[this]
theorem qOA {kindOf:Str->Option C40} {x:Str} {v:Value} :∀{P:List Str} {vs:List Value} {i:Nat} {m:Ab0},P.Nodup->P[i]?=some x->vs[i]?=some v->kindOf x=some .local->
  bindL kindOf (P.zip vs) m x=some v
 |[],_,_,_,_,h,_,_=>by simp at h
 |_::_,[],_,_,_,_,h,_=>by simp at h
 |p::P,w::vs,0,m,nd,h1,h2,hk=>by
  simp at h1 h2;subst h1;subst h2;show bindL kindOf ((p,w)::P.zip vs) m p=_;unfold bindL;rw[qO9 λv hv=>(J6.mp nd).1 (A69 hv).1,if_pos hk];simp
 |p::P,w::vs,i+1,m,nd,h1,h2,hk=>by
  show bindL kindOf ((p,w)::P.zip vs) m x=_;unfold bindL;exact qOA (i:=i) (J6.mp nd).2 (by simpa using h1) (by simpa using h2) hk
theorem qOC {kindOf:Str->Option C40} {x:Str} {v:Value} :∀{P:List Str} {vs:List Value} {i:Nat} {m:Ab0},P.Nodup->P[i]?=some x->vs[i]?=some v->kindOf x≠some .local->
  bindC kindOf (P.zip vs) m x=some v
 |[],_,_,_,_,h,_,_=>by simp at h
 |_::_,[],_,_,_,_,h,_=>by simp at h
 |p::P,w::vs,0,m,nd,h1,h2,hk=>by
  simp at h1 h2;subst h1;subst h2;show bindC kindOf ((p,w)::P.zip vs) m p=_;unfold bindC;rw[qOB λv hv=>(J6.mp nd).1 (A69 hv).1,if_neg hk];simp
 |p::P,w::vs,i+1,m,nd,h1,h2,hk=>by
  show bindC kindOf ((p,w)::P.zip vs) m x=_;unfold bindC;exact qOC (i:=i) (J6.mp nd).2 (by simpa using h1) (by simpa using h2) hk
def start (N:List Str)(vs:List V):St:=vs.map some++C7 (N.length-vs.length) none
noncomputable def cxOf (CX:CXT)(P:B90)(w:World)(K:Ab1)(mg:Ab0)(base:Heap)(N:List Str)(qual:Str)(scope:Scope)(f:Addr)(cd:Value)(A:Around)(outer:List Env)(s:Shared)(H:Hp)(E:XK):Cx where
 prog:=P
 w:=w
 K:=K
 mg:=mg
 base:=base
 A:=A.deeper (envOfC qual scope s.heap.objs.size f cd)
 N:=N
 s₀:=s
 H₀:=H
 env:=envOfC qual scope s.heap.objs.size f cd
 outer:=outer
 stack:=envOfC qual scope s.heap.objs.size f cd::outer
 ex:=[]
 calm:=true
 fn:=λ_=>true
 pn:=[]
 xe:=λe s'=>wpAny (model P w) (A.deeper (envOfC qual scope s.heap.objs.size f cd)) (leaving (envOfC qual scope s.heap.objs.size f cd) e) (λ_ s''=>CX outer H s E e s'') (λe' s''=>CX outer H s E e' s'') s'
theorem qQZ {a:Scope} {n:Nat} {x:Str} (h:a.names.lookup x=some .cell):∃c,(cellsFrom n a.names []).lookup x=some c:=by
 have q:=A58 a.names n [] (.inl h);exact T0.mp q
theorem qUC {CX:CXT} {K:Ab1} {mg:Ab0} {base:Heap} {N ps:List Str} {j:Str} {d:Scope} {f:Addr} {cd:Value} {g:List Env} {H:Hp} {E:XK} {us:List Value} {vs:List V} 
  (S:FnScope N ps d) (hd:A.handled=none) (m:Env0 P w K mg base A g s H) (hl:vs.length=ps.length) (r:Vals vs us)
  (x:InCallC s s.heap.objs.size (bindL (envOfC j d s.heap.objs.size f cd).kindOf (ps.zip us) λ_=>none) (cellsFrom (s.heap.objs.size+1) d.names []) (bindC (envOfC j d s.heap.objs.size f cd).kindOf (ps.zip us) λ_=>none) s1):
  Inv (cxOf CX P w K mg base N j d f cd A g s H E) [] (start N vs) H s1:=by
 have a0:ps.length<=N.length:=by have:=congrArg Y7 S.pre;rw[D3] at this;lia
 obtain⟨h1,tk,rfl,hk⟩:=x.done;have o:∀b:Addr,b∉(cxOf CX P w K mg base N j d f cd A g s H E).ex:=λb z=>absurd (show b∈([]:List Addr) from z) (by simp)
 refine⟨⟨m.mod,S.kind,rfl,rfl,A9 _,λy z c h1 l=>?_,λy hy=>?_,λy c _ h=>?_,λ_=>hd,Around.frames_deeper m.frames,.inr ⟨rfl,rfl⟩,λb z=>absurd z (o b),m.bs,m.bsz,λb _ _=>o b,λb z=>absurd z (o b),m.funs,m.frf⟩,
  rfl,m.bare,Un.kept hk,⟨_,x.toInCall.ns,λi y v h1 l h3=>?_⟩,λy c h=>⟨_,x.cell y c h⟩,m.hok.fresh (A9 _),λy c h=>?_,λp hp=>absurd (show p∈([]:Aa2) from hp) (by simp),m.hok.kept hk,?_⟩
 ·exact name_of_addr x.apart (R5 h1) (R5 l)
 ·have hy:d.names.lookup y=some .cell\/d.names.lookup y=some .free:=hy;rcases hy with hy|hy
  ·exact qQZ hy
  ·exact absurd rfl (S.nofree _ (R5 hy))
 ·exact Z8 (x.above y c (R5 h))
 ·have hi:i<vs.length:=by
   unfold start at l;by_cases hi:i<vs.length
   ·exact hi
   ·rw[E1 (by simpa using hi)] at l
    rw[List.getElem?_replicate] at l
    split at l<;>cases l
  have ha:vs[i]?=some v:=by
   unfold start at l;rw[F4 (by simpa using hi),C0] at l
   cases e:vs[i]? with
   |none=>rw[e] at l;cases l
   |some a=>rw[e] at l;cases l;rfl
  obtain⟨u,hu,rv⟩:=r.get ha;have hp:ps[i]?=some y:=by
   rw[<- S.pre,T3 (by lia)];exact h1
  have t:ps.Nodup:=by rw[<- S.pre];exact S.nd.sublist (c8 _ _)
  refine⟨u,rv,?_⟩;rcases S.par y (B3 hp) with k|k
  ·exact .inl ⟨k,qOA t hp hu k⟩
  ·obtain⟨c,e⟩:=qQZ (n:=s.heap.objs.size+1) k;refine .inr ⟨.inl k,c,e,?_⟩;have q:=x.cell y c e;rw[qOC t hp hu (by show d.names.lookup y≠_;rw[k];decide)] at q
   exact q
 ·exact m.hok.fresh (Z8 (x.above y c (R5 h)))
 ·unfold start;show _=N.length;rw[B0,A0,L8]
  lia
theorem qcP {CX:CXT} {K:Ab1} {mg:Ab0} {base:Heap} {k:Nat} {f:Addr} {name c:Str} {g:Arguments} {h:List Stmt} {a:Scope} {dV kV m pm d ct oc:Value} {an od:Option Addr} 
  {a3:Array (Option Value)} {N ps:List Str} {sp:Sp} (lk:K.lookup f=some ⟨oc,od,.func (W1 name c g h a dV kV m pm an d ct),a3⟩) (a2:A23 K d c=true) (S:FnScope N ps a)
  (a1:∀vs H Q E,sp vs H Q E->vs.length=ps.length)
  (j:∀ (A:Around) (outer:List Env) (s:Shared) (H:Hp) (vs:List V) (Q:VK) (E:XK),Room k (A.deeper (envOfC c a s.heap.objs.size f d))->sp vs H Q E->
   ∃t,PSs (cxOf CX P w K mg base N c a f d A outer s H E) h t/\t {nx:=λ_ H'=>Q .non H',rt:=Q} (start N vs) H):
  FnOk P w K mg base CX (k+1) f (W1 name c g h a dV kV m pm an d ct) ps sp:=by
 refine⟨a1,λA outer s H a5 us vs Q E hr p hb r a0=>?_⟩;have hl:=a1 _ _ _ _ a0;have KX:K.In s.heap:=p.mod.kin.keeps λb o e=>(p.bs b o e).1;have a4:s.heap.NoLimit:=p.mod.nolimit.keeps λb o e=>(p.bs b o e).1;have i:∀y∈ps.zip us,a.names.lookup y.1=some .local\/(a.names.lookup y.1=some .cell/\((cellsFrom (s.heap.objs.size+1) a.names []).lookup y.1).isSome=true):=λ⟨n,v⟩ hy=>by
  rcases S.par n (A69 hy).1 with q|q
  ·exact .inl q
  ·exact .inr ⟨q,A58 _ _ _ (.inl q)⟩
 refine codeAny_call_function hr.depth (KX _ _ lk) rfl S.co S.gen rfl (PySem.W.codeRec_of KX a2) (hb _ _ _ _ (wpAny_newFunctionEnv_cells S.kind i λa6 he s1 x=>?_));subst he;refine⟨a4.keeps x.toInCall.keep,codeAny_func ?_⟩;obtain⟨t,ht,hq⟩:=j A outer s H vs Q E (hr.deeper _) a0;have I:Inv (cxOf CX P w K mg base N c a f d A outer s H E) [] (start N vs) H s1:=qUC S hr.hd p hl r x;refine B96 (ht [] s1 (start N vs) H _ I hq) (λfl s' l=>?_) λe s' l=>l;have z:∀{σ':St} {H':Hp} {v:V} {u:Value},Inv (cxOf CX P w K mg base N c a f d A outer s H E) [] σ' H' s'->RelV v u->Q v H'->CE outer P w H s Q u s':=
  λ{σ' H' v u} J rv q=>⟨v,H',J.os,J.bare,J.base,J.hok,rv,q⟩
 cases fl with
 |ret u=>
  obtain⟨v,σ',H',J,rv,q⟩:=l;exact z J rv q
 |next=>
  obtain⟨σ',H',J,q⟩:=l;exact z (v:=V.non) (u:=Q3) J rfl q
 |brk=>
  obtain⟨_,_,_,q⟩:=l;exact V2 q
 |cont=>
  obtain⟨_,_,_,q⟩:=l;exact V2 q
section
variable{X:Cx}{x:Str}{p pos:Pos}{e:Expr}{es:List Expr}{t:TA}{id T:String}{r:List V->Hp->VK->Prop}
def tCB (r:List V->Hp->VK->Prop)(t:TA):TE:=λσ H Q=>t σ H λvs H1=>r vs H1 Q
theorem qA7 (l:qCQ X (.builtin id) r) (g:Gl X x) (k:X.mg x=none) (d:B97 x=some (.builtin id)) (j:PA X (e::es) t) (i:x ≠ "__name__":=by decide) (b:(x==("__debug__" : Str))=false:=by decide)
  (f:B95 (e::es) X.env=(false,eval e X.env)::B95 es X.env:=by rfl) (a:(backTo pos (B95 es X.env)).any (·.1)=false:=by rfl):PE X (.Call (.Name x p) (e::es) [] pos) (tCB r t):=by
 intro c s σ H Q I h;refine C34 (qIO I g k d ?_ i b);exact PyProof.Rows.callWith_builtin1 (thn (j pos c s σ H _ I h) λus s1 ⟨vs,H1,I1,r1,q1⟩=>l c s1 σ H1 vs us Q I1 r1 q1) f a
theorem qAO (l:qCQ X (.type T) r) (g:Gl X x) (k:X.mg x=none) (d:B97 x=some (.type T)) (j:PA X (e::es) t) (i:x ≠ "__name__":=by decide) (b:(x==("__debug__" : Str))=false:=by decide)
  (f:B95 (e::es) X.env=(false,eval e X.env)::B95 es X.env:=by rfl) (a:(backTo pos (B95 es X.env)).any (·.1)=false:=by rfl):PE X (.Call (.Name x p) (e::es) [] pos) (tCB r t):=by
 intro c s σ H Q I h;refine C34 (qIO I g k d ?_ i b);exact P4 (thn (j pos c s σ H _ I h) λus s1 ⟨vs,H1,I1,r1,q1⟩=>l c s1 σ H1 vs us Q I1 r1 q1) f a
end
end L2
namespace HT
open PySem PyProof.Rows
noncomputable def lexLt:List Int->List Int->Bool
 |[],[]=>false
 |[],_::_=>true
 |_::_,[]=>false
 |x::xs,y::ys=>if x=y then lexLt xs ys else decide (x<y)
def lexLt_cons (x y:Int)(xs ys:List Int):lexLt (x::xs) (y::ys)=if x=y then lexLt xs ys else decide (x<y):=rfl
def qM8:lexLt [] []=false:=rfl
def qKT (y:Int)(ys:List Int):lexLt [] (y::ys)=true:=rfl
def qKU (x:Int)(xs:List Int):lexLt (x::xs) []=false:=rfl
theorem qX4 (A:Around)(s:Shared)(a:Int)(t:Tok)(c:Int)(u:Tok):∃e,SeqAt.EqAt A s (.int a t) (.int c u) e/\(e=true↔a=c):=
 ⟨(a==c),j7 a t c u,by simp⟩
def qW6 (A:Around)(s:Shared)(a:Int)(t:Tok)(c:Int)(u:Tok)(prog:B90)(w:World)(E:Aa1)(Q:Aa1)(h:Q (.bool (decide (a<c))) s):
  wpAny (model prog w) A (richCompare .Lt (.int a t) (.int c u)) Q E s:=
 (PyProof.Rows.lt_int h:wpAny (model prog w) A (C03 .Lt (.int a t) (.int c u)) Q E s)
section
open PySem.SeqAt
open PySem.AutoSeq1 (wpAny_loadPart')
open PySem.MeetsSeq PySem.MeetsSeq2 PySem.MeetsSeq3
theorem tuple_lt_ints (l b:Addr)(i f:Array Value)(n n2:Nat)(dd a2:Option Addr)(sl a1:Array (Option Value))(ns ms:List Int)(hi:C06 i.toList ns)(hj:C06 f.toList ms):
  Meets (Builtin.«tuple.__lt__» ⟨[.ref l,.ref b],[]⟩)
   (fun _ R s=>s.heap.get? l=some { cls:=.type "tuple",dict:=dd,data:=.seq i n,slots:=sl }/\s.heap.get? b=some { cls:=.type "tuple",dict:=a2,data:=.seq f n2,slots:=a1 }/\
    R (.ok (.ret (.bool (lexLt ns ms)))) s):=
 .of_wp λr w A R s h=>by
  obtain⟨hp,g,d,tk,os⟩:=s;obtain⟨hl,hb,h⟩:=h;have f2:=A30;have z1:i.size=ns.length:=by rw[<- hi.length];simp
  have z2:f.size=ms.length:=by rw[<- hj.length];simp
  wp_walk using C64 hl,C64 hb,wpAny_forIn_list _ (fun o b s'=>b.1=none/\s'=⟨hp,g,d,tk,os⟩/\∃ (vs ws:List Value) (ns' ms':List Int),o=vs.zip ws/\
   C06 vs ns'/\C06 ws ms'/\ns'.length+f.size=ms'.length+i.size/\R (.ok (.ret (.bool (lexLt ns' ms')))) ⟨hp,g,d,tk,os⟩) _
  case turn=>
   rintro⟨y,x⟩ o b s' ⟨z,rfl,vs,ws,ns',ms',m,a0,k,j,p⟩;cases a0 with
   |nil=>rw[List.zip_nil_left] at m;cases m
   |cons a t hvi'=>
    cases k with
    |nil=>rw[List.zip_nil_right] at m;cases m
    |cons c u hwi'=>
     rw[A15] at m
     injection m with hyx hrest
     injection hyx with hy hx
     subst hy hx;rw[lexLt_cons] at p;simp only[C9] at j;obtain⟨e,he,v⟩:=qX4 A.in1 ⟨hp,g,d,tk,os⟩ a t c u;refine B87 (he r w _ _ ?_);cases e with
     |true=>
      rw[if_pos (v.mp rfl)] at p
      wp_walk
      exact⟨rfl,rfl,_,_,_,_,hrest,hvi',hwi',by lia,p⟩
     |false=>
      rw[if_neg (λq=>absurd (v.mpr q) B8)] at p;have a3:=qW6 A.in1 ⟨hp,g,d,tk,os⟩ a t c u r w
      wp_walk using a3
      exact⟨_,rfl,by simpa using p⟩
  case fin=>
   rintro⟨b1,b2⟩ s' ⟨z,rfl,vs,ws,ns',ms',m,a0,k,j,p⟩;simp only at z;subst z;have hv:lexLt ns' ms'=decide (i.size<f.size):=by
    cases a0 with
    |nil=>
     cases k with
     |nil=>
      simp only[O4] at j;rw[qM8];exact(decide_eq_false (by lia)).symm
     |cons c u hw=>
      simp only[O4,C9] at j;rw[qKT];exact(decide_eq_true (by lia)).symm
    |cons a t hv=>
     cases k with
     |nil=>
      simp only[O4,C9] at j;rw[qKU];exact(decide_eq_false (by lia)).symm
     |cons c u hw=>
      rw[A15] at m;cases m
   rw[hv] at p
   wp_walk
   exact⟨_,rfl,by simpa[Builtin.Tuple.tupleCompareSizes] using p⟩
  case h=>
   exact⟨rfl,rfl,i.toList,f.toList,ns,ms,rfl,hi,hj,by lia,h⟩
end
section
variable{prog:B90}{w:World}{A:Around}{E:Aa1}{s:Shared}
theorem cat_tup {t b:Addr} {vs a:List Value} {Q:Aa1} (z:IsTup s.heap t vs.toArray)(hb:IsTup s.heap b a.toArray)(x:vs≠[])
  (y:a=[]->Q (.ref t) s) (h2:a≠[]->Q (.ref s.heap.objs.size) {s with heap:=s.heap.push {cls:=.type "tuple",data:=.seq (vs++a).toArray}})
  (hsz:vs.length+a.length<=B89):wpAny (model prog w) A (C22 .Add (.ref t) (.ref b)) Q E s:=by
 obtain⟨⟨cls,q,data,r⟩,j,u,n,p⟩:=id z;obtain⟨⟨o,g,l,f⟩,c,i,m,h⟩:=id hb;simp only at u p i h;subst u p i h;have e:vs.toArray++a.toArray=(vs++a).toArray:=by simp
 by_cases k:a=[]
 ·exact concat_meets ⟨_,j,rfl⟩ ⟨_,c,rfl⟩ noFill_tuple_add seq_tuple_add A59 A41 (A31 _ _)
   (tuple_addW1 t b vs.toArray a.toArray n m q g r f (by simpa using x) (by simp[k])) ⟨j,c,y k⟩
 ·refine concat_meets ⟨_,j,rfl⟩ ⟨_,c,rfl⟩ noFill_tuple_add seq_tuple_add A59 A41 (A31 _ _)
   (tuple_addW2 t b vs.toArray a.toArray n m q g r f (by simpa using x) (by simpa using k) (by rw[B6,B6];exact hsz)) ⟨j,c,?_⟩
  rw[e];exact h2 k
noncomputable def sIx (n d:Nat):Option Int->Nat
 |none=>d
 |some v=>if v<0 then(v+(n:Int)).toNat else min v.toNat n
def sIx_none (n d:Nat):sIx n d none=d:=rfl
theorem sIx_nat (n d k:Nat):sIx n d (some (k:Int))=min k n:=by
 show(if(k:Int)<0 then((k:Int)+(n:Int)).toNat else min (k:Int).toNat n)=min k n
 rw[if_neg (by lia),O0]
theorem qbB (n d:Nat)(b:d<=n)(o:Option Int):sIx n d o<=n:=by
 cases o with
 |none=>exact b
 |some v=>
  show(if v<0 then(v+(n:Int)).toNat else min v.toNat n)<=n
  by_cases a:v<0
  ·rw[if_pos a];lia
  ·rw[if_neg a];exact Nat.min_le_right _ _
theorem qV9 (v:Int)(n d:Nat):(if v<0 then max (v+(n:Int)) 0 else min v (n:Int))=((sIx n d (some v):Nat):Int):=by
 show(if v<0 then max (v+(n:Int)) 0 else min v (n:Int))=(((if v<0 then(v+(n:Int)).toNat else min v.toNat n):Nat):Int)
 by_cases a:v<0
 ·simp only[if_pos a];lia
 ·simp only[if_neg a];lia
theorem qS7 (lo hi:Option Int)(n:Nat):h9 lo hi 1 (n:Int)=(((sIx n 0 lo:Nat):Int),((sIx n n hi:Nat):Int)):=by
 have a:¬((1:Int)<0):=by lia
 unfold h9;simp only[a,if_false];refine Prod.ext ?_ ?_
 ·cases lo with
  |none=>rfl
  |some v=>exact qV9 v n 0
 ·cases hi with
  |none=>rfl
  |some v=>exact qV9 v n n
theorem qRG (i j:Nat):W8 (i:Int) (j:Int) 1=j-i:=by
 unfold W8;have a:(1:Int)>0:=by lia
 simp only[a,if_true,Int.ediv_one]
 split<;>lia
theorem qL7 {v:Value} {o:Option Int} {Q:Option Int->Shared->Prop} (p:IsPart v o)(h:Q o s):wpAny (model prog w) A (Builtin.Slice.slicePartIndex v) Q E s:=by
 cases p with
 |none=>exact slicePart_none h
 |int i t=>exact slicePart_int h
theorem qFE {e:Addr} {c d:Value} {lo hi:Option Int} {n:Nat} {Q:Int×Int×Nat->Shared->Prop} (i:s.heap.IsSliceOf e c d .none)(j:IsPart c lo)(g:IsPart d hi)
  (h:Q (((sIx n 0 lo:Nat):Int),1,sIx n n hi-sIx n 0 lo) s):wpAny (model prog w) A (A09 (.ref e) (pure (n:Int))) Q E s:=by
 obtain⟨k,b,f,a⟩:=id i;unfold A09 Builtin.Slice.sliceFields;refine B87 (B87 (B99 b a (x:=c) rfl (B87 (B99 b a (x:=d) rfl (B87 (B99 b a (x:=.none) rfl (B88 (B87 (slicePart_none ?_)))))))));show wpAny _ _ (if((1:Int)==0)=true then _ else _) _ _ s
 rw[if_neg (by decide)]
 refine B87 (qL7 j (B87 (qL7 g (B87 (B88 ?_)))));show wpAny _ _ (match h9 lo hi 1 (n:Int) with|(lo,hi)=>pure (lo,(1:Int),W8 lo hi 1)) _ _ s
 rw[qS7 lo hi n];show wpAny _ _ (pure (((sIx n 0 lo:Nat):Int),(1:Int),W8 ((sIx n 0 lo:Nat):Int) ((sIx n n hi:Nat):Int) 1)) _ _ s;rw[qRG];exact B88 h
theorem qWA (xs:Array Value)(i k:Nat):((G9 k).filterMap λ(m:Nat)=>xs[((i:Int)+(m:Int)*1).toNat]?).toArray=((xs.toList.drop i).take k).toArray:=by
 have e:(λ(m:Nat)=>xs[((i:Int)+(m:Int)*1).toNat]?)=λm=>xs[i+m]?:=by
  funext m
  have:((i:Int)+(m:Int)*1).toNat=i+m:=by lia
  rw[this]
 rw[e];have:=pick_run xs i k;rw[B08] at this;have a:((λx=>xs[x]?) ∘ λx=>i+x)=λm=>xs[i+m]?:=rfl;rw[a] at this;rw[this]
theorem getItem_tuple_cut {t e:Addr} {a:Array Value} {l k:Value} {lo hi:Option Int} {Q:Aa1} (c:IsTup s.heap t a)(j:s.heap.IsSliceOf e l k .none)(o:IsPart l lo)(n:IsPart k hi)
  (r:¬(sIx a.size 0 lo=0/\sIx a.size a.size hi=a.size))
  (h:Q (.ref s.heap.objs.size) {s with heap:=s.heap.push {cls:=.type "tuple",data:=.seq ((a.toList.drop (sIx a.size 0 lo)).take (sIx a.size a.size hi-sIx a.size 0 lo)).toArray}})
  (hsz:a.size<=B89):wpAny (model prog w) A (C51 (.ref t) (.ref e)) Q E s:=by
 have b:sizeOk (.seq ((a.toList.drop (sIx a.size 0 lo)).take (sIx a.size a.size hi-sIx a.size 0 lo)).toArray):=by
  show((a.toList.drop (sIx a.size 0 lo)).take (sIx a.size a.size hi-sIx a.size 0 lo)).toArray.size<=B89;rw[B6,D3,J5,C4]
  lia
 have v:sIx a.size a.size hi<=a.size:=qbB _ _ (A9 _) hi;obtain⟨p,i,g,u⟩:=id j;have f:s.TypeIs (.ref e) "slice":=⟨p,i,g⟩;unfold C51
 try with_reducible refine C00 ?_
 first|refine B87 (B88 ?_)|skip
 refine B87 (wpAny_sequenceKey c.typeIs (by decide) ?_)
 refine B87 (wpAny_callSpecial?_slot (name:=J7 "__getitem__") c.typeIs O7
  (C04 O7 c.typeIs entry_tuple_getitem ?_ (args_tuple_getitem _ _)))
 show wpAny _ _ (A10 (.ref t) >>= _) _ _ s;refine B87 (tupleItemsOf_ c (B87 (C65 f ?_)));rw[if_pos (by decide)]
 refine B87 (qFE j o n ?_);have d:¬((((sIx a.size 0 lo:Nat):Int)==0&&(1:Int)==1&&(sIx a.size a.size hi-sIx a.size 0 lo)==a.size)=true):=by
  intro q;rw[C6,C6] at q;have x:((sIx a.size 0 lo:Nat):Int)=0:=eq_of_beq q.1.1;have y:sIx a.size a.size hi-sIx a.size 0 lo=a.size:=eq_of_beq q.2;exact r ⟨by lia,by lia⟩
 show wpAny _ _ (if(((sIx a.size 0 lo:Nat):Int)==0&&(1:Int)==1&&(sIx a.size a.size hi-sIx a.size 0 lo)==a.size)=true then _ else _) _ _ s
 rw[if_neg d,qWA]
 first
  |exact B87 (m:=Q7 _) (B98 (B88 ⟨_,rfl,B88 h⟩) b)
  |exact B87 (m:=Q7 _) (B98 (B87 (B88 (B88 ⟨_,rfl,B88 h⟩))) b)
  |exact B87 (B87 (m:=Q7 _) (B98 (B88 (B88 ⟨_,rfl,B88 h⟩)) b))
  |exact B87 (B87 (m:=Q7 _) (B98 (B88 ⟨_,rfl,B88 h⟩) b))
end
end HT
namespace L2
open PySem PySem.Spec PyProof.Rows
abbrev TO:=St->Hp->(Option Int->Hp->Prop)->Prop
def PO (X:Cx)(e:Option Expr)(t:TO):Prop:=
 ∀(Ab:Aa2) (s:Shared) (σ:St) (H:Hp) (Q:Option Int->Hp->Prop),Inv X Ab σ H s->t σ H Q->
  wpAny (model X.prog X.w) X.A (evalPart e X.env) (λu s'=>∃o H',Inv X Ab σ H' s'/\IsPart u o/\Q o H') X.xe s
def qYP:TO:=λ_ H Q=>Q none H
def qd0 (t:TE):TO:=λσ H Q=>t σ H λx H1=>∃i,x=.int i/\Q (some i) H1
theorem qRT {ns:List Int} :∀{us:List Value},Vals (ns.map V.int) us->C06 us ns:=by
 induction ns with
 |nil=>intro us r;rw[i9] at r;cases r;exact .nil
 |cons n ns ih=>
  intro us r;rw[D4] at r;cases r with
  |cons r1 r2=>
   obtain⟨t,e⟩:=r1;subst e;exact .cons n t (ih r2)
section
variable{X:Cx}{e:Expr}{te:TE}{lo hi:Option Expr}{tl th:TO}{pos p2:Pos}
theorem qEZ:PO X none qYP:=by
 intro a s σ H Q I h;rw[evalPart_none];exact B88 ⟨none,H,I,.none,h⟩
theorem qEY (h:PE X e te):PO X (some e) (qd0 te):=by
 intro a s σ H Q I b;rw[evalPart_some];refine thn (h a s σ H _ I b) λu s1 ⟨x,H1,I1,r1,q1⟩=>?_;obtain⟨i,rfl,q⟩:=q1;obtain⟨t,rfl⟩:=r1;exact⟨some i,H1,I1,.int i t,q⟩
def SlR (X:Cx)(r:V->Option Int->Option Int->Hp->VK->Prop):Prop:=
 ∀(Ab:Aa2) (s:Shared) (σ:St) (H:Hp) (x:V) (v vl vu:Value) (lo hi:Option Int) (sl:Addr) (Q:VK),Inv X Ab σ H s->RelV x v->s.heap.IsSliceOf sl vl vu .none->IsPart vl lo->IsPart vu hi->r x lo hi H Q->
  ∃T id,typeLookup (.type T) "__getitem__" = pure (some (.builtin id))/\s.TypeIs v T/\wpAny (model X.prog X.w) X.A (C51 v (.ref sl)) (EP X Ab σ Q) X.xe s
def tSl (r:V->Option Int->Option Int->Hp->VK->Prop)(te:TE)(tl th:TO):TE:=λσ H Q=>te σ H λx H1=>tl σ H1 λl H2=>th σ H2 λu H3=>r x l u H3 Q
theorem qDI {r:V->Option Int->Option Int->Hp->VK->Prop} (g:SlR X r)(d:PE X e te)(i:PO X lo tl)(k:PO X hi th):PE X (.Subscript e (.Slice lo hi none p2) pos) (tSl r te tl th):=by
 intro a s σ H Q I h;refine Subscript_ (thn (d a s σ H _ I h) λv s1 ⟨x,H1,I1,r1,q1⟩=>wpAny_Slice (thn (i a s1 σ H1 _ I1 q1) λvl s2 ⟨l,H2,I2,pl,q2⟩=>thn (k a s2 σ H2 _ I2 q2) λvu s3 ⟨u,H3,I3,pu,q3⟩=>?_));rw[evalPart_none];refine B88 ?_;have c:Inv X a σ H3 {s3 with heap:=s3.heap.push {cls:=.type "slice",data:=.fields #[vl,vu,.none]}}:=I3.kept (t':=s3.toks) λb o q=>A4 _ q;obtain⟨T,n,m,j,f⟩:=g a {s3 with heap:=s3.heap.push {cls:=.type "slice",data:=.fields #[vl,vu,.none]}} σ H3 x v vl vu l u s3.heap.objs.size Q c r1 (B86 ..) pl pu q3;show wpAny (model X.prog X.w) X.A (subscriptTail e (.Slice lo hi none p2) v (.ref s3.heap.objs.size)) (EP X a σ Q) X.xe {s3 with heap:=s3.heap.push {cls:=.type "slice",data:=.fields #[vl,vu,.none]}};exact tail_any (ops:=[.ref s3.heap.objs.size,v]) j m f (by with_unfolding_all rfl)
noncomputable def cutV (xs:List V)(lo hi:Option Int):List V:=(xs.drop (HT.sIx xs.length 0 lo)).take (HT.sIx xs.length xs.length hi-HT.sIx xs.length 0 lo)
theorem qKC (xs:List V)(lo hi:Option Int):(cutV xs lo hi).length<=xs.length:=by
 unfold cutV;rw[D3,J5]
 lia
def rSlT (K:Ab1):V->Option Int->Option Int->Hp->VK->Prop:=λx lo hi H Q=>E2 λa xs=>x=.ref a/\SqT K H a xs/\
 ¬(HT.sIx xs.length 0 lo=0/\HT.sIx xs.length xs.length hi=xs.length)/\∀p,H p=none->Q (.ref p) (Ag H p (.tup (cutV xs lo hi)))
theorem qN3:SlR X (rSlT X.K):=by
 intro u s σ H x v w vu e g y Q I p l t k h;obtain⟨a,d,rfl,m,n,q⟩:=h;cases p;obtain⟨f,r,i,j⟩:=I.tuple m;have c:f.toArray.size=d.length:=by rw[B6];exact r.length.symm
 refine⟨"tuple",_,O7.lookup,i.typeIs,HT.getItem_tuple_cut i l t k (by rw[c];exact n) ?_ (by rw[c];exact j)⟩
 rw[c];refine⟨.ref s.heap.objs.size,_,I.laid (t':=s.toks) (o:=.tup (cutV d e g)) (λb z q=>A4 _ q) (A9 _) ?_,rfl,q _ (I.hok.fresh (A9 _))⟩;exact⟨L5 (qKC d e g) j,_,(r.drop (HT.sIx d.length 0 e)).take (HT.sIx d.length d.length g-HT.sIx d.length 0 e),IsTup.new _ _⟩
def qbG (K:Ab1):R2:=λx y H Q=>E4 λa b xs ys=>x=.ref a/\y=.ref b/\SqT K H a xs/\SqT K H b ys/\xs≠[]/\xs.length+ys.length<=B89/\
 (ys=[]->Q (.ref a) H)/\(ys≠[]->∀p,H p=none->Q (.ref p) (Ag H p (.tup (xs++ys))))
theorem Vals.nil_iff {xs:List V} {a:List Value} (r:Vals xs a):a=[]↔xs=[]:=by
 cases r with
 |nil=>simp
 |cons _ _=>simp
theorem qOY:OpR X (C22 .Add) (qbG X.K):=by
 intro Ab s σ H x y v u Q I p n h;obtain⟨a,b,xs,r,rfl,rfl,i,t,j,f,k,m⟩:=h;cases p;cases n;obtain⟨l,d,g,_⟩:=I.tuple i;obtain⟨e,c,p2,_⟩:=I.tuple t;refine HT.cat_tup g p2 (λz=>j (d.nil_iff.mp z)) (λz=>⟨.ref a,H,I,rfl,k (c.nil_iff.mp z)⟩) (λz=>?_) (by rw[<- d.length,<- c.length];exact f)
 refine⟨.ref s.heap.objs.size,_,I.laid (t':=s.toks) (o:=.tup (xs++r)) (λb ob q=>A4 _ q) (A9 _) ?_,rfl,m (λw=>z (c.nil_iff.mpr w)) _ (I.hok.fresh (A9 _))⟩;exact⟨by rw[B0];exact f,_,d.append c,IsTup.new _ _⟩
end
noncomputable def ixN (n:Nat)(i:Int):Option Nat:=if 0<=i then(if i<n then some i.toNat else none) else if -(n:Int)<=i then some (i+n).toNat else none
def atI {α:Type}(xs:List α)(i:Int):Option α:=(ixN xs.length i).bind λj=>xs[j]?
theorem qU9 {n:Nat} {i:Int} {j:Nat} (h:ixN n i=some j):seqIndex? i n=some j/\j<n/\-(n:Int)<=i/\i<n:=by
 unfold ixN at h;by_cases b:0<=i
 ·rw[if_pos b] at h;by_cases a:i<n
  ·rw[if_pos a] at h;have e:i.toNat=j:=G0 h;exact⟨by rw[seqIndex_of b a,e],by lia,by lia,a⟩
  ·rw[if_neg a] at h;cases h
 ·rw[if_neg b] at h;by_cases a : -(n:Int)<=i
  ·rw[if_pos a] at h;have e:(i+n).toNat=j:=G0 h;exact⟨by rw[seqIndex_neg (by lia) a,e],by lia,a,by lia⟩
  ·rw[if_neg a] at h;cases h
theorem qVN {α:Type} {xs:List α} {i:Int} {v:α} (h:atI xs i=some v):∃j,seqIndex? i xs.length=some j/\xs[j]?=some v/\j<xs.length/\-(xs.length:Int)<=i/\i<xs.length:=by
 unfold atI at h;cases e:ixN xs.length i with
 |none=>rw[e] at h;cases h
 |some j=>
  rw[e] at h;obtain⟨b,c,d,a⟩:=qU9 e;exact⟨j,b,h,c,d,a⟩
theorem qVM {α:Type} {xs:List α} {j:Nat} {v:α} (h:xs[j]?=some v):atI xs (j:Int)=some v:=by
 have a:j<xs.length:=(A3.mp h).1;have e:ixN xs.length (j:Int)=some j:=by
  unfold ixN;rw[if_pos (by lia),if_pos (by lia)];simp
 unfold atI;rw[e];exact h
theorem qMR {α:Type} (xs:List α)(v:α):atI (xs++[v]) (-1)=some v:=by
 have a:(xs++[v]).length=xs.length+1:=by simp
 have e:ixN (xs++[v]).length (-1)=some xs.length:=by
  unfold ixN;rw[a,if_neg (by decide),if_pos (by lia)]
  congr 1
  lia
 unfold atI;rw[e];show(xs++[v])[xs.length]?=some v;simp
def qaJ (b:Expr):Prop:=∀o i,subscripted b false o i=operate [o,i] (C51 o i)
def IxR (X:Cx)(r:R2):Prop:=
 ∀(value slice:Expr) (Ab:Aa2) (s:Shared) (σ:St) (H:Hp) (x y:V) (v u:Value) (Q:VK),Inv X Ab σ H s->RelV x v->RelV y u->r x y H Q->
  subscripted slice false v u=operate [v,u] (C51 v u)->wpAny (model X.prog X.w) X.A (subscriptTail value slice v u) (EP X Ab σ Q) X.xe s
def MtR (X:Cx)(id:String)(r:V->List V->Hp->VK->Prop):Prop:=
 ∀(Ab:Aa2) (s:Shared) (σ:St) (H:Hp) (x:V) (xs:List V) (v:Value) (us:List Value) (Q:VK),Inv X Ab σ H s->RelV x v->Vals xs us->r x xs H Q->
  wpAny (model X.prog X.w) X.A (call (.builtin id) (v::us)) (EP X Ab σ Q) X.xe s
section
variable{X:Cx}{a b:Expr}{ta tb:TE}{pos:Pos}
theorem qB7 {r:R2} (d:IxR X r)(g:PE X a ta)(m:PE X b tb)(e:qaJ b):PE X (.Subscript a b pos) (tOp r ta tb):=by
 intro c s σ H Q I h;exact Subscript_ (binT g m I h λv u l x y i f k j q=>d a b c l σ i x y v u Q f k j q (e _ _))
def rIxL (K:Ab1):R2:=λx y H Q=>E4 λp xs i v=>x=.ref p/\y=.int i/\SqL K H p xs/\atI xs i=some v/\Q v H
def rIxT (K:Ab1):R2:=λx y H Q=>E4 λp xs i v=>x=.ref p/\y=.int i/\SqT K H p xs/\atI xs i=some v/\Q v H
theorem qCL:IxR X (rIxL X.K):=by
 intro f g n s σ H x y v u Q I rx ry h m;obtain⟨p,xs,i,z,rfl,rfl,hq,he,q⟩:=h;cases rx;obtain⟨t,rfl⟩:=ry;obtain⟨e,r,d,hz⟩:=I.list hq;obtain⟨j,b,h2,h3,h4,h5⟩:=qVN he;obtain⟨w,l,k⟩:=r.get h2;have hl:=r.length;have hn:=qNP;have a:EP X n σ Q w s:=⟨z,H,I,k,q⟩;by_cases o:0<=i
 ·have c:i.toNat=j:=by
   rw[seqIndex_of o h5] at b;exact G0 b
  exact item_listR d.isList o (by lia) (by rw[c];simpa using l) a m
 ·have c:(i+(e.toArray.size:Int)).toNat=j:=by
   rw[seqIndex_neg (by lia) h4] at b
   rw[B6,<- hl];exact G0 b
  exact subscriptTail_builtinR (x:=w) d.isList.typeIs slot_list_getitem.lookup
   (wpAny_getItem_list_neg (Q:=λr s'=>r=w/\EP X n σ Q r s') d.isList (by lia) (by rw[B6]<;>lia) (by lia) (by rw[c];simpa using l) ⟨rfl,a⟩) m
theorem qBB:IxR X (rIxT X.K):=by
 intro b c f s σ H x y v u Q I rx ry h hs;obtain⟨p,xs,i,z,rfl,rfl,hq,k,q⟩:=h;cases rx;obtain⟨t,rfl⟩:=ry;obtain⟨m,r,e,hz⟩:=I.tuple hq;obtain⟨j,g,o,h3,h4,h5⟩:=qVN k;obtain⟨w,l,d⟩:=r.get o;have hl:=r.length;have hn:=qNP;have a:EP X f σ Q w s:=⟨z,H,I,d,q⟩;exact subscriptTail_builtinR (x:=w) e.typeIs slot_tuple_getitem.lookup
  (getItem_tuple (j:=j) (Q:=λr n=>r=w/\EP X f σ Q r n) e (by lia) (by lia) (by rw[B6,<- hl];exact g) (by simpa using l) ⟨rfl,a⟩) hs
theorem qRO (a:List Value) (n j:Nat) (u:Value):T9 (·.setIfInBounds j u) {cls:=.type "list",data:=.seq a.toArray n}={cls:=.type "list",data:=.seq (a.set j u).toArray n}:=by
 simp[T9]
theorem Inv.lst {Ab:Aa2} {σ:St} {H:Hp} {p:Addr} {xs:List V} (I:Inv X Ab σ H s)(h:H p=some (.lst xs)):
  ∃(its:List Value) (n:Nat),Vals xs its/\s.heap.get? p=some {cls:=.type "list",data:=.seq its.toArray n}/\xs.length<=B89:=by
 obtain⟨z,its,n,r,e⟩:=I.hok p _ h;exact⟨its,n,r,e,z⟩
theorem Inv.lstUpd {Ab:Aa2} {σ:St} {H:Hp} {p:Addr} {xs ys:List V} {a its':List Value} {n c:Nat} {f:Obj->Obj} (I:Inv X Ab σ H s)(h:H p=some (.lst xs))
  (i:s.heap.get? p=some {cls:=.type "list",data:=.seq a.toArray n}) (d:f {cls:=.type "list",data:=.seq a.toArray n}={cls:=.type "list",data:=.seq its'.toArray c}) (r:Vals ys its') (hz:ys.length<=B89) (t:Nat):
  Inv X Ab σ (Ag H p (.lst ys)) {s with heap:=s.heap.update p f,toks:=t}:=by
 have e:(s.heap.update p f).get? p=some {cls:=.type "list",data:=.seq its'.toArray c}:=by
  rw[L0 f i (by rw[d]<;>rfl),d]
 refine I.write (x:=p) (e:=p) (by rw[h];trivial) (.inl rfl) (λb u g q=>(D5 _ _ (K9 g)).trans q) ⟨_,e⟩ ?_
 exact⟨hz,its',c,r,e⟩
def qdE:V->V->V->Hp->(Hp->Prop)->Prop:=λo i v H Q=>E4 λp xs k j=>o=.ref p/\i=.int k/\H p=some (.lst xs)/\ixN xs.length k=some j/\Q (Ag H p (.lst (xs.set j v)))
theorem qW1:PSet X qdE:=by
 intro Ab s σ H o i v ov iv u Q I x ri rv h;obtain⟨p,z,k,j,rfl,rfl,l,y,q⟩:=h;cases x;obtain⟨t,rfl⟩:=ri;obtain⟨a,n,r,c,hz⟩:=I.lst l;obtain⟨b,h2,m,g⟩:=qU9 y;have d:=r.length;have hn:=qNP;have f:Inv X Ab σ (Ag H p (.lst (z.set j v))) {s with heap:=s.heap.update p (T9 (·.setIfInBounds j u))}:=
  I.lstUpd l c (qRO a n j u) (r.set rv j) (by rw[B41];exact hz) s.toks
 by_cases w:0<=k
 ·have e:k.toNat=j:=by
   rw[seqIndex_of w g] at b;exact G0 b
  exact PySem.W.ki_setAt c w (by lia) (by rw[B6,<- d];exact g) (by rw[e];exact⟨_,f,q⟩)
 ·have e:(k+(a.toArray.size:Int)).toNat=j:=by
   rw[seqIndex_neg (by lia) m] at b
   rw[B6,<- d];exact G0 b
  exact PySem.W.ki_setBack c (by lia) (by rw[B6,<- d];exact m) (by lia) (by rw[e];exact⟨_,f,q⟩)
theorem qN2 (lo hi:Option Int)(n:Nat):(C47 lo hi none n).1=((HT.sIx n 0 lo:Nat):Int)/\(C47 lo hi none n).2.1=((HT.sIx n n hi:Nat):Int)/\(C47 lo hi none n).2.2=1:=by
 refine⟨?_,?_,rfl⟩
 ·cases lo with
  |none=>simp[C47,HT.sIx]
  |some i=>
   simp only[C47,HT.sIx,B30,show(1:Int)>0 by decide,if_true]
   by_cases h:i<0
   ·simp only[h,if_true]<;>lia
   ·simp only[h,if_false]<;>lia
 ·cases hi with
  |none=>simp[C47,HT.sIx]
  |some i=>
   simp only[C47,HT.sIx,B30,show(1:Int)>0 by decide,if_true]
   by_cases h:i<0
   ·simp only[h,if_true]<;>lia
   ·simp only[h,if_false]<;>lia
theorem qLW (a:List Value)(lo hi:Option Int):slicePick a.toArray lo hi none=((a.drop (HT.sIx a.length 0 lo)).take (HT.sIx a.length a.length hi-HT.sIx a.length 0 lo)).toArray:=by
 obtain⟨b,d,c⟩:=qN2 lo hi a.toArray.size;unfold slicePick;rw[b,d,c];simp only[sliceRange_one,pick_run,B6]<;>rfl
def rSlL (K:Ab1):V->Option Int->Option Int->Hp->VK->Prop:=λx lo hi H Q=>E2 λa xs=>x=.ref a/\SqL K H a xs/\∀p,H p=none->Q (.ref p) (Ag H p (.lst (cutV xs lo hi)))
theorem qLX:SlR X (rSlL X.K):=by
 intro t s σ H x v u z e f w Q I n j p i h;obtain⟨a,c,rfl,l,q⟩:=h;cases n;obtain⟨m,r,g,k⟩:=I.list l;have d:=r.length;refine⟨"list",_,slot_list_getitem.lookup,g.isList.typeIs,?_⟩;refine wpAny_getItem_list_slice g.isList j p i .none (by simp) ?_ (by rw[B6]<;>lia)
 rw[qLW,<- d];refine⟨.ref s.heap.objs.size,_,I.laid (t':=s.toks) (o:=.lst (cutV c e f)) (λb y q=>A4 _ q) (A9 _) ?_,rfl,q _ (I.hok.fresh (A9 _))⟩;exact⟨L5 (qKC c e f) k,_,0,(r.drop (HT.sIx c.length 0 e)).take (HT.sIx c.length c.length f-HT.sIx c.length 0 e),B7 _ rfl⟩
def qMC:V->Bool
 |.non=>true
 |.bl _=>true
 |.int _=>true
 |.str _=>true
 |_=>false
noncomputable def eqV:V->V->Bool
 |.non,.non=>true
 |.bl a,.bl b=>a==b
 |.bl a,.int b=>(if a then 1 else 0)==b
 |.int a,.bl b=>a==(if b then 1 else 0)
 |.int a,.int b=>a==b
 |.str a,.str b=>a==b
 |_,_=>false
theorem qcQ {y x:V} {u v:Value} (f:RelV y u)(c:RelV x v)(g:qMC y=true)(e:qMC x=true):SeqAt.EqAt A s u v (eqV y x):=by
 cases y with
 |non=>
  cases f;cases x with
  |non=>cases c;exact B42 _
  |bl b=>cases c;exact SeqAt.EqAt.none_bool b
  |int b=>obtain⟨t,rfl⟩:=c;exact SeqAt.EqAt.none_int b t
  |str b=>obtain⟨t,rfl⟩:=c;exact SeqAt.EqAt.none_str b t
  |_=>exact absurd (show false=true from e) B8
 |bl a=>
  cases f;cases x with
  |non=>cases c;exact SeqAt.EqAt.bool_none a
  |bl b=>cases c;exact SeqAt.EqAt.bool_bool a b
  |int b=>obtain⟨t,rfl⟩:=c;exact SeqAt.EqAt.bool_int a b t
  |str b=>obtain⟨t,rfl⟩:=c;exact SeqAt.EqAt.bool_str a b t
  |_=>exact absurd (show false=true from e) B8
 |int a=>
  obtain⟨d,rfl⟩:=f;cases x with
  |non=>cases c;exact SeqAt.EqAt.int_none a d
  |bl b=>cases c;exact SeqAt.EqAt.int_bool a d b
  |int b=>obtain⟨t,rfl⟩:=c;exact j7 a d b t
  |str b=>obtain⟨t,rfl⟩:=c;exact B03 a d b t
  |_=>exact absurd (show false=true from e) B8
 |str a=>
  obtain⟨d,rfl⟩:=f;cases x with
  |non=>cases c;exact SeqAt.EqAt.str_none a d
  |bl b=>cases c;exact SeqAt.EqAt.str_bool a d b
  |int b=>obtain⟨t,rfl⟩:=c;exact B04 a d b t
  |str b=>obtain⟨t,rfl⟩:=c;exact SeqAt.EqAt.str_str a d b t
  |_=>exact absurd (show false=true from e) B8
 |_=>exact absurd (show false=true from g) B8
noncomputable def eqU (x:V)(u:Value):Bool:=match u with
 |.none=>eqV .non x
 |.bool b=>eqV (.bl b) x
 |.int i _=>eqV (.int i) x
 |.str z _=>eqV (.str z) x
 |_=>false
theorem qY3 {x y:V} {u:Value} (r:RelV y u)(f:qMC y=true):eqU x u=eqV y x:=by
 cases y with
 |non=>cases r;rfl
 |bl b=>cases r;rfl
 |int i=>obtain⟨t,rfl⟩:=r;rfl
 |str z=>obtain⟨t,rfl⟩:=r;rfl
 |_=>exact absurd (show false=true from f) B8
theorem qKM {x:V} :∀{xs:List V} {us:List Value},Vals xs us->xs.all qMC=true->us.any (eqU x)=xs.any λy=>eqV y x
 |_,_,.nil,_=>rfl
 |y::xs,u::us,.cons r t,f=>by
  rw[B66,C6] at f;rw[j8,j8,qY3 r f.1,qKM t f.2]
theorem qHE {x:V} {v:Value} (rx:RelV x v)(fx:qMC x=true):∀{xs:List V} {us:List Value},Vals xs us->xs.all qMC=true->∀u∈us,SeqAt.EqAt A s u v (eqU x u)
 |_,_,.nil,_=>λu hu=>by cases hu
 |y::xs,u::us,.cons r t,f=>λu' hu=>by
  rw[B66,C6] at f;rcases B9.mp hu with rfl|hu
  ·rw[qY3 r f.1];exact qcQ r rx f.1 fx
  ·exact qHE rx fx t f.2 u' hu
def inV (x:V)(xs:List V):Bool:=xs.any λy=>eqV y x
def rIn (K:Ab1)(neg:Bool):R2:=λx y H Q=>E2 λp xs=>y=.ref p/\(SqL K H p xs\/SqT K H p xs)/\qMC x=true/\xs.all qMC=true/\Q (.bl (if neg then !inV x xs else inV x xs)) H
theorem qNK:OpR X (C03 .In) (rIn X.K false):=by
 intro j s σ H x y v u Q I f i h;obtain⟨p,k,rfl,hq,e,b,q⟩:=h;cases i;rcases hq with hq|hq
 ·obtain⟨a,r,d,g⟩:=I.list hq;refine SeqAt.in_listAt (eqU x) d.isList (λw c=>qHE f e r b w (by simpa using c)) ⟨.bl _,H,I,rfl,?_⟩
  rw[show a.toArray.any (eqU x)=a.any (eqU x) by simp,qKM r b]
  exact q
 ·obtain⟨a,r,d,g⟩:=I.tuple hq;refine SeqAt.in_tupleAt (eqU x) d (λw c=>qHE f e r b w (by simpa using c)) ⟨.bl _,H,I,rfl,?_⟩
  rw[show a.toArray.any (eqU x)=a.any (eqU x) by simp,qKM r b]
  exact q
theorem qD4:OpR X (C03 .NotIn) (rIn X.K true):=by
 intro j s σ H x y v u Q I f i h;obtain⟨p,k,rfl,hq,e,b,q⟩:=h;cases i;rcases hq with hq|hq
 ·obtain⟨a,r,d,g⟩:=I.list hq;refine SeqAt.notIn_listAt (eqU x) d.isList (λw c=>qHE f e r b w (by simpa using c)) ⟨.bl _,H,I,rfl,?_⟩
  rw[show a.toArray.any (eqU x)=a.any (eqU x) by simp,qKM r b]
  exact q
 ·obtain⟨a,r,d,g⟩:=I.tuple hq;refine SeqAt.notIn_tupleAt (eqU x) d (λw c=>qHE f e r b w (by simpa using c)) ⟨.bl _,H,I,rfl,?_⟩
  rw[show a.toArray.any (eqU x)=a.any (eqU x) by simp,qKM r b]
  exact q
theorem qAD:qCQ X (.builtin "len") (λxs H Q=>∃p ys,xs=[.ref p]/\(SqL X.K H p ys\/SqT X.K H p ys)/\Q (.int ys.length) H):=by
 intro i s σ H xs g Q I r h;obtain⟨p,ys,rfl,hq,q⟩:=h;obtain⟨u,rfl,f⟩:=qEC r;cases f;have j:=qNP;rcases hq with hq|hq
 ·obtain⟨c,b,d,e⟩:=I.list hq;have a:=b.length;exact Calls.call_len_list d.isList (by simp only[B6]<;>lia) ⟨.int ys.length,H,I.tok _,⟨s.toks+1,by rw[B6,a]⟩,q⟩
 ·obtain⟨c,b,d,e⟩:=I.tuple hq;have a:=b.length;exact len_tuple d (by simp only[B6]<;>lia) ⟨.int ys.length,H,I.tok _,⟨s.toks+1,by rw[B6,a]⟩,q⟩
theorem qIS:qCQ X (.type "list") (λxs H Q=>∃p ys,xs=[.ref p]/\(SqL X.K H p ys\/SqT X.K H p ys)/\∀l,H l=none->Q (.ref l) (Ag H l (.lst ys))):=by
 intro t s σ H xs x Q I r h;obtain⟨p,ys,rfl,hq,q⟩:=h;obtain⟨u,rfl,v⟩:=qEC r;cases v;have d:∀(its:List Value),Vals ys its->ys.length<=B89->∀(h':Heap) (c':Nat),(∀b o',s.heap.get? b=some o'->h'.get? b=some o')->
   h'.get? s.heap.objs.size=some {cls:=.type "list",dict:=none,data:=.seq its.toArray c',slots:=#[]}->EP X t σ Q (.ref s.heap.objs.size) {s with heap:=h'}:=λits a c h' c' g e=>
  ⟨.ref s.heap.objs.size,_,I.laid (t':=s.toks) g (A9 _) (show ObjOk X.prog X.w _ h' _ (.lst ys) from⟨c,its,c',a,e⟩),rfl,q _ (I.hok.fresh (A9 _))⟩
 rcases hq with hq|hq
 ·obtain⟨its,a,i,c⟩:=I.list hq;have f:=a.length;obtain⟨o,k,m,n,j⟩:=i.isList;exact call_list_seq p (.inl rfl) k m j (λh' c' g e=>d its a c h' c' g e) (by simp only[B6]<;>lia)
 ·obtain⟨its,a,i,c⟩:=I.tuple hq;have f:=a.length;obtain⟨o,k,m,n,j⟩:=i;exact call_list_seq p (.inr rfl) k m j (λh' c' g e=>d its a c h' c' g e) (by simp only[B6]<;>lia)
theorem qAZ:qCQ X (.type "tuple") (λxs H Q=>∃p ys,xs=[.ref p]/\((SqL X.K H p ys/\∀l,H l=none->Q (.ref l) (Ag H l (.tup ys)))\/(SqT X.K H p ys/\Q (.ref p) H))):=by
 intro i s σ H xs x Q I r h;obtain⟨p,ys,rfl,h⟩:=h;obtain⟨u,rfl,t⟩:=qEC r;cases t;rcases h with⟨f,q⟩|⟨f,q⟩
 ·obtain⟨a,d,g,j⟩:=I.list f;have k:=d.length;refine call_tuple_list g.isList (λc v=>?_) (by simp only[B6]<;>lia)
  have m:Inv X i σ H {s with heap:=c}:=I.kept (t':=s.toks) v;have n:Inv X i σ (Ag H c.objs.size (.tup ys)) {s with heap:=c.push {cls:=.type "tuple",data:=.seq a.toArray}}:=
   m.laid (t':=s.toks) (λb o e=>A4 _ e) (A9 _) (show ObjOk X.prog X.w _ _ _ (.tup ys) from⟨j,a,d,IsTup.new _ _⟩)
  exact⟨.ref c.objs.size,_,n,rfl,q _ (m.hok.fresh (A9 _))⟩
 ·obtain⟨a,d,g,j⟩:=I.tuple f;exact call_tuple_same g ⟨.ref p,H,I,rfl,q⟩
def tyV (K:Ab1)(T:String)(x:V)(H:Hp):Prop:=match x with
 |.str _=>T = "str"
 |.int _=>T = "int"
 |.ref p=>(T = "list"/\∃xs,SqL K H p xs)\/(T = "tuple"/\∃o,K.lookup p=some o/\o.cls=.type "tuple"/\o.dict=none)\/
   (T = "dict"/\((∃Af,H p=some (.dK Af))\/∃Af,H p=some (.dT Af)))\/(T = "set"/\∃S n,H p=some (.set S n))
 |_=>False
theorem qXG {Ab:Aa2} {σ:St} {H:Hp} {T:String} {x:V} {v:Value} (I:Inv X Ab σ H s)(r:RelV x v)(f:tyV X.K T x H):
  s.TypeIs v T/\∀a,v=.ref a->∃ob,s.heap.get? a=some ob/\ob.dict=none:=by
 cases x with
 |str z=>
  obtain⟨t,rfl⟩:=r;cases(show T = "str" from f);exact⟨typeIs_str s z t,λ_ e=>nomatch e⟩
 |int i=>
  obtain⟨t,rfl⟩:=r;cases(show T = "int" from f);exact⟨C52 s i t,λ_ e=>nomatch e⟩
 |ref p=>
  cases r;rcases f with⟨rfl,u,l⟩|⟨rfl,o,b,q,h⟩|⟨rfl,b⟩|⟨rfl,S,n,b⟩
  ·obtain⟨m,_,j,_⟩:=I.list l;refine⟨j.isList.typeIs,λa e=>?_⟩;cases e;obtain⟨o,n,e,c,h,_⟩:=j;exact⟨o,e,h⟩
  ·refine⟨⟨o,I.kIn p o b,q⟩,λa e=>?_⟩;cases e;exact⟨o,I.kIn _ o b,h⟩
  ·have z:∃o,s.heap.get? p=some o/\o.ExactDict:=by
    rcases b with⟨k,b⟩|⟨k,b⟩
    ·obtain⟨_,_,_,_,o,_,_,e,d,_⟩:=I.hok p _ b;exact⟨o,e,d⟩
    ·obtain⟨_,_,_,_,o,_,_,e,d,_⟩:=I.hok p _ b;exact⟨o,e,d⟩
   obtain⟨o,e,d⟩:=z;refine⟨⟨o,e,d.1⟩,λa g=>?_⟩;cases g;exact⟨o,e,d.2.1⟩
  ·obtain⟨o,_,_,_,e,d,_⟩:=I.hok p _ b;refine⟨⟨o,e,d.1⟩,λa g=>?_⟩;cases g;exact⟨o,e,d.2.1⟩
 |_=>exact V2 f
def tBM0 (K:Ab1)(T:String)(r:V->List V->Hp->VK->Prop)(to:TE):TE:=λσ H Q=>to σ H λx H1=>tyV K T x H1/\r x [] H1 Q
def tBM (K:Ab1)(T:String)(r:V->List V->Hp->VK->Prop)(to:TE)(t:TA):TE:=λσ H Q=>to σ H λx H1=>tyV K T x H1/\t σ H1 λxs H2=>r x xs H2 Q
variable{o e:Expr}{es:List Expr}{to:TE}{t:TA}{name:Str}{apos cpos:Pos}{T id:String}{r:V->List V->Hp->VK->Prop}
theorem qNH (f:PlainAttrs T) (c:Slot T name id) (d:typeOf (.builtin id)=pure (.type "method_descriptor")) (j:MtR X id r) (k:PE X o to)
  (b:C57 o name X.env (eval o X.env)=eval o X.env:=by rfl) (a:(apos.endLine==cpos.line)=true:=by rfl):PE X (.Call (.Attribute o name apos) [] [] cpos) (tBM0 X.K T r to):=by
 intro e s σ H Q I h;refine wpAny_Call_method0_late b a (thn (k e s σ H _ I h) λv s1 ⟨x,H1,I1,r1,ty,q1⟩=>?_);obtain⟨i,g⟩:=qXG I1 r1 ty;exact⟨T,id,f,c,d,i,g,m5 rfl (PySem.evalArgs_none (j e s1 σ H1 x [] v [] Q I1 r1 .nil q1))⟩
theorem qEH (l:PlainAttrs T) (d:Slot T name id) (g:typeOf (.builtin id)=pure (.type "method_descriptor")) (q:MtR X id r) (u:PE X o to) (p:PA X (e::es) t)
  (c:C57 o name X.env (eval o X.env)=eval o X.env:=by rfl)
  (f:((backTo cpos (B95 (e::es) X.env)).all (fun x=>!x.1) && (backToKw cpos (keywordEach [] X.env)).all (fun x=>x.1.isSome)
   && decide ((e::es).length+([]:List C50).length+(if([]:List C50).isEmpty then 0 else 1)<30))=true:=by rfl)
  (b:(apos.endLine==cpos.line)=true:=by rfl) (m:B95 (e::es) X.env=(false,eval e X.env)::B95 es X.env:=by rfl) (a:(backTo cpos (B95 es X.env)).any (·.1)=false:=by rfl):
  PE X (.Call (.Attribute o name apos) (e::es) [] cpos) (tBM X.K T r to t):=by
 intro i s σ H Q I h;refine wpAny_Call_method_late c f b rfl (thn (u i s σ H _ I h) λv s1 ⟨x,H1,I1,r1,ty,q1⟩=>?_);obtain⟨n,k⟩:=qXG I1 r1 ty;refine⟨T,id,l,d,g,n,k,?_⟩;have j:=p cpos i s1 σ H1 _ I1 q1;rw[m] at j ⊢;refine m5 (by show(false||(backTo cpos (B95 es X.env)).any (·.1))=false;rw[a]<;>rfl) (A81 ?_)
 exact thn j λus s2 ⟨vs,H2,I2,r2,q2⟩=>q i s2 σ H2 x vs v us Q I2 r1 r2 q2
end
def MtM (X:Cx)(id:String)(r:V->List V->Hp->VK->Prop):Prop:=
 ∀(Ab:Aa2) (s:Shared) (σ:St) (H:Hp) (x:V) (xs:List V) (v:Value) (us:List Value) (Q:VK),Inv X Ab σ H s->RelV x v->Vals xs us->r x xs H Q->
  wpAny (model X.prog X.w) X.A (call (.builtin id) (v::us)) (EP X Ab σ Q) X.xe s
def Vals.one:∀{x:V} {us:List Value},Vals [x] us->∃u,us=[u]/\RelV x u
 |_,_,.cons r .nil=>⟨_,rfl,r⟩
def Vals.zero:∀{us:List Value},Vals [] us->us=[]
 |_,.nil=>rfl
theorem Vals.dropLast {xs:List V} {a:List Value} (h:Vals xs a):Vals xs.dropLast a.dropLast:=by
 induction h with
 |nil=>exact .nil
 |cons r t ih=>
  cases t with
  |nil=>exact .nil
  |cons q t'=>exact .cons r ih
def Vals.eraseIdx:∀{xs:List V} {us:List Value} (i:Nat),Vals xs us->Vals (xs.eraseIdx i) (us.eraseIdx i)
 |_,_,_,.nil=>.nil
 |_,_,0,.cons _ t=>t
 |_,_,i+1,.cons r t=>.cons r (Vals.eraseIdx i t)
theorem Vals.reverse {xs:List V} {a:List Value} (h:Vals xs a):Vals xs.reverse a.reverse:=by
 induction h with
 |nil=>exact .nil
 |cons r t ih=>rw[d0,d0];exact Vals.append ih (.cons r .nil)
theorem Vals.rep {xs:List V} {us:List Value} (h:Vals xs us):∀k:Nat,Vals (C7 k xs).flatten (C7 k us).flatten
 |0=>.nil
 |k+1=>by
  rw[R6,R6,O1,O1];exact Vals.append h (Vals.rep h k)
theorem qRX {α:Type} (l:List α):l.eraseIdx (l.length-1)=l.dropLast:=by
 induction l with
 |nil=>rfl
 |cons a r ih=>
  cases r with
  |nil=>rfl
  |cons b r=>
   have e:(a::b::r).length-1=((b::r).length-1)+1:=by
    have c:(a::b::r).length=r.length+2:=rfl;have d:(b::r).length=r.length+1:=rfl
    lia
   rw[e,A42,ih]
   all_goals rfl
def qNQ {α:Type} :∀(l:List α) (i:Nat),(l.eraseIdx i).length<=l.length
 |[],_=>A9 _
 |_::_,0=>W9 _
 |_::r,i+1=>Nat.succ_le_succ (qNQ r i)
theorem qNZ (its:List Value):∀(k:Nat) (acc:List Value),
  B61 (λx1 x2=>x1++x2) acc.toArray (C7 k its.toArray)=(acc++(C7 k its).flatten).toArray
 |0,acc=>by simp
 |k+1,acc=>by
  have e:acc.toArray++its.toArray=(acc++its).toArray:=by simp
  have e2:(acc++its)++(C7 k its).flatten=acc++(C7 (k+1) its).flatten:=by
   rw[R6,O1,J4]
  rw[<- e2,<- qNZ its k (acc++its),<- e,R6,X6]
section
variable{X:Cx}{Ab:Aa2}{σ:St}{H:Hp}{s:Shared}{l b:Addr}{xs ys zs:List V}
theorem Inv.lset {a its':List Value} {n:Nat} {f:Array Value->Array Value} {t':Nat} (I:Inv X Ab σ H s)(c:H l=some (.lst xs))
  (e:s.heap.get? l=some {cls:=.type "list",data:=.seq a.toArray n}) (h:f a.toArray=its'.toArray) (b:Vals ys its') (hz:ys.length<=B89):
  Inv X Ab σ (Ag H l (.lst ys)) {s with heap:=s.heap.update l (T9 f),toks:=t'}:=by
 have q:=PySem.IsL.update e f;rw[h] at q;refine I.write (x:=l) (e:=l) (by rw[c];exact trivial) (.inl rfl) (λi u d g=>(D5 s.heap (T9 f) (K9 d)).trans g) ⟨_,q⟩ ?_
 exact⟨hz,its',_,b,q⟩
def Inv.lnew {a:List Value} {t':Nat} (I:Inv X Ab σ H s)(b:Vals ys a)(hz:ys.length<=B89):
  Inv X Ab σ (Ag H s.heap.objs.size (.lst ys)) {s with heap:=s.heap.push {cls:=.type "list",data:=.seq a.toArray},toks:=t'}:=
 I.laid (λ_ _ q=>A4 _ q) (A9 _) ⟨hz,a,0,b,B7 _ rfl⟩
def Inv.fresh (I:Inv X Ab σ H s):H s.heap.objs.size=none:=I.hok.fresh (A9 _)
theorem Inv.lstM (I:Inv X Ab σ H s) (a:H l=some (.lst xs)):xs.length<=B89/\∃(its:List Value) (n:Nat),Vals xs its/\xs.length=its.length/\s.heap.get? l=some {cls:=.type "list",data:=.seq its.toArray n}:=by
 obtain⟨z,its,n,r,e⟩:=I.hok l _ a;exact⟨z,its,n,r,r.length,e⟩
theorem qM6 {n:Nat} (h:n<=B89):Q8 n=false:=by
 unfold Q8;exact decide_eq_false (by lia)
end
section
variable{X:Cx}
def qZ0:V->List V->Hp->VK->Prop:=λx vs H Q=>E3 λl xs y=>x=.ref l/\vs=[y]/\H l=some (.lst xs)/\xs.length<B89/\Q .non (Ag H l (.lst (xs++[y])))
theorem qB0:MtM X "list.append" qZ0:=by
 intro i s σ H x m v g Q I f c h;obtain⟨l,o,y,rfl,rfl,b,j,q⟩:=h;cases f;obtain⟨u,rfl,d⟩:=c.one;obtain⟨z,a,n,r,k,e⟩:=I.lstM b;refine C35 F.slot_list_append ⟨_,e,rfl⟩ F.entry_list_append (F.args_list_append_2 _ _) (PySem.list_append l a.toArray n u (by rw[B6];lia)) ⟨e,.non,_,I.lset (its':=a++[u]) b e (by simp) (r.append (.cons d .nil)) ?_,rfl,q⟩
 rw[B0,C2]
 lia
def qYZ:V->List V->Hp->VK->Prop:=λx vs H Q=>E4 λl b xs zs=>x=.ref l/\vs=[.ref b]/\H l=some (.lst xs)/\H b=some (.lst zs)/\xs.length+zs.length<=B89/\Q .non (Ag H l (.lst (xs++zs)))
theorem qNN:MtM X "list.extend" qYZ:=by
 intro Ab s σ H x vs v us Q I t o h;obtain⟨l,b,xs,zs,rfl,rfl,g,p,hz,q⟩:=h;cases t;obtain⟨u,rfl,w⟩:=o.one;cases w;obtain⟨z,c,n,r,hl,e⟩:=I.lstM g;obtain⟨y,a,i,k,m,j⟩:=I.lstM p;have f:c.toArray.size+a.toArray.size<=B89:=by rw[B6,B6];lia
 have d:¬(!c.toArray.isEmpty&&Q8 (c.toArray.size+a.toArray.size))=true:=by
  rw[qM6 f,t5];exact B8
 refine C35 B09 ⟨_,e,rfl⟩ A96 (A82 _ _)
  (AutoSeq1.list_extend_list_list_0 l c.toArray n b a.toArray i d (by rw[B6];lia) (by lia)) ⟨e,j,?_⟩
 refine⟨.non,_,I.lset (its':=c++a) g e (by simp) (r.append k) ?_,rfl,q⟩
 rw[B0]
 lia
def rPop:V->List V->Hp->VK->Prop:=λx vs H Q=>E3 λl xs y=>x=.ref l/\vs=[]/\H l=some (.lst xs)/\xs[xs.length-1]?=some y/\Q y (Ag H l (.lst xs.dropLast))
theorem qTW:MtM X "list.pop" rPop:=by
 intro p s σ H x t v o Q I k i h;obtain⟨l,w,y,rfl,rfl,d,f,q⟩:=h;cases k;have c:=i.zero;subst c;obtain⟨z,a,n,r,g,e⟩:=I.lstM d;obtain⟨u,m,j⟩:=r.get f;have b:a.toArray[a.toArray.size-1]?=some u:=by
  show a.toArray[a.length-1]?=some u;rw[<- G8,<- g];exact m
 refine C35 F.slot_list_pop ⟨_,e,rfl⟩ F.entry_list_pop (F.args_list_pop_1 _) (MeetsSeq.list_pop_last l a.toArray n u b (by rw[B6];lia)) ⟨e,y,_,I.lset (its':=a.dropLast) d e ?_ r.dropLast ?_,j,q⟩
 ·show a.toArray.eraseIdxIfInBounds (a.toArray.size-1)=a.dropLast.toArray;rw[B6,n8,qRX]
 ·rw[List.length_dropLast]
  lia
def qW7:V->List V->Hp->VK->Prop:=λx vs H Q=>E2 λl xs=>x=.ref l/\vs=[]/\H l=some (.lst xs)/\Q .non (Ag H l (.lst xs.reverse))
theorem qRM:MtM X "list.reverse" qW7:=by
 intro i s σ H x k v g Q I f d h;obtain⟨l,m,rfl,rfl,c,q⟩:=h;cases f;have b:=d.zero;subst b;obtain⟨z,a,n,r,j,e⟩:=I.lstM c;refine C35 F.slot_list_reverse ⟨_,e,rfl⟩ F.entry_list_reverse (F.args_list_reverse_1 _) (AutoSeq1.list_reverse_list_0 l a.toArray n (by rw[B6];lia)) ⟨e,.non,_,I.lset (its':=a.reverse) c e (by simp) r.reverse ?_,rfl,q⟩
 rw[i7]
 lia
def rCat:R2:=λx y H Q=>E4 λl b xs zs=>x=.ref l/\y=.ref b/\H l=some (.lst xs)/\H b=some (.lst zs)/\xs.length+zs.length<=B89/\∀p,H p=none->Q (.ref p) (Ag H p (.lst (xs++zs)))
theorem qTQ:OpR X (C22 .Add) rCat:=by
 intro Ab s σ H x y v u Q I m k h;obtain⟨l,b,xs,zs,rfl,rfl,j,i,hz,q⟩:=h;cases m;cases k;obtain⟨z,c,n,r,w,e⟩:=I.lstM j;obtain⟨p,a,t,f,o,g⟩:=I.lstM i;refine PySem.P.add_list e g ?_ (by rw[B6,B6];lia)
 have d:c.toArray++a.toArray=(c++a).toArray:=by simp
 rw[d];exact⟨.ref _,_,I.lnew (t':=s.toks) (r.append f) (by rw[B0];lia),rfl,q _ I.fresh⟩
def rRep:R2:=λx y H Q=>E3 λl k xs=>x=.ref l/\y=.int k/\H l=some (.lst xs)/\-(2^63)<=k/\k<2^63/\xs.length*k.toNat<=B89/\
 ∀p,H p=none->Q (.ref p) (Ag H p (.lst (C7 k.toNat xs).flatten))
theorem qZN {α:Type} (xs:List α)(k:Nat):(C7 k xs).flatten.length=k*xs.length:=by
 induction k with
 |zero=>simp
 |succ k ih=>rw[R6,O1,B0,ih,Nat.succ_mul,Z9]
theorem qTK:OpR X (C22 .Mult) rRep:=by
 intro Ab s σ H x y v u Q I rx ry h;obtain⟨l,k,xs,rfl,rfl,hH,w,h2,p,q⟩:=h;cases rx;obtain⟨t,rfl⟩:=ry;obtain⟨z,b,n,r,hl,e⟩:=I.lstM hH;have d:b.toArray.size*k.toNat<=B89:=by rw[B6,<- hl];exact p
 have i:¬b.toArray.size*k.toNat>(2^63-1)/8:=by
  have:(B89:Nat)<=(2^63-1)/8:=by decide
  lia
 have g:¬(!Builtin.List.listFitsIndex k)=true:=by
  rw[fitsIndex_both w h2];exact B8
 have c:¬Q8 (b.toArray.size*k.toNat)=true:=by
  rw[qM6 d];exact B8
 have f:B61 (λj o=>j++o) #[] (C7 (if b.toArray.isEmpty=true then 0 else k.toNat) b.toArray)=(C7 k.toNat b).flatten.toArray:=by
  have f0:∀m:Nat,B61 (λj o=>j++o) #[] (C7 m b.toArray)=(C7 m b).flatten.toArray:=λm=>by
   have:=qNZ b m [];rw[A02] at this;exact this
  rw[f0];cases b with
  |nil=>simp
  |cons a r'=>rw[if_neg (by simp)]
 refine wpAny_binaryOp_repeat_ref (T:="list") (U:="int") (by decide) ⟨_,e,rfl⟩ (λs'=>C52 s' k t) noFill_list_mul F.fills_int_mul F.slot_int_rmul repeat_list F.slot_int_index.lookup
  (C35 F.slot_int_rmul (C52 s k t) F.entry_int_rmul (F.args_int_rmul_2 _ _) (int___rmul___int_list k t l b.toArray n)
   ⟨e,rfl,⟨_,e,rfl⟩,C35 F.slot_list_mul ⟨_,e,rfl⟩ F.entry_list_mul (F.args_list_mul_2 _ _) (AutoListH.list___mul___list_int_3 l b.toArray n k t g i c) ⟨e,?_⟩⟩)
 rw[f];exact⟨.ref _,_,I.lnew (t':=s.toks) (r.rep k.toNat) (by rw[qZN,Y2];exact p),rfl,q _ I.fresh⟩
end
section
variable{prog:B90}{w:World}{A:Around}{E:Aa1}{s:Shared}
set_option maxRecDepth 100000 in
end
end L2
namespace Att
open PySem PySem.W PySem.Calls PyProof.Rows
theorem qK3 {P:Params} {h:Heap} :∀(ns:List Int) (vs:List Value),WellAll P h vs (ns.map WData.int)->C06 vs ns:=by
 intro ns
 induction ns with
 |nil=>
  intro vs w;rw[i9] at w;cases w;exact .nil
 |cons n ns ih=>
  intro vs w;rw[D4] at w;cases w with
  |cons a b=>
   cases a;exact .cons _ _ (ih _ b)
theorem qT2 {l:OpenLaw} {n:Nat} (t:l.most=some n){P:Params}{h:Heap}{args:List WData}{c:List Value}
  (b:l.row.toRowW.claim.pre args=true) (j:WellAll P h c args):
  ∃a vs ns,c=[D6 a]/\args=[WData.list (ns.map WData.int)]/\h.get? a=some {cls:=.type "list",data:=.seq vs.toArray}/\C06 vs ns/\ns.length<=n:=by
 have i:WShape.hasAll [] args [.list .int]=true:=(pre_splitW b).1;have k:l.pre.holds [] {args:=args}=true:=(pre_splitW b).2;obtain⟨d,r,rfl,s,m⟩:=hasAllW_cons i;obtain rfl:=hasAllW_nil m;obtain⟨u,rfl,p⟩:=hasW_list s;obtain⟨ns,rfl⟩:=items_int p;have e:ns.length<=n:=by
  unfold OpenLaw.pre at k;have f:(WTm.not (.lt (.lit (.int (n:Int))) (.len (.arg 0)))).holds [] {args:=[.list (ns.map .int)]}=true:=by
   have f:=(holds_andW k).1;rw[t] at f;exact f
  have g:=condW_of f (w_not (w_lt w_lit (w_len_list (w_arg rfl))));rw[A0] at g;refine w6 λq=>?_;have o:(n:Int)<((ns.length:Nat):Int):=by lia
  first
   |(rw[decide_eq_true o] at g;exact absurd g (by decide))
   |(simp at g;lia)
 cases j with
 |cons w1 w2=>
  cases w2;cases w1 with
  |list ho hall=>exact⟨_,_,ns,rfl,rfl,ho,qK3 ns _ hall,e⟩
theorem qT8 (l:OpenLaw)(args:List WData):l.row.toRowW.claim.post args (.bool true) args=true:=
 postW_of (r:=l.row.toRowW) (X:=(true==true))
  (show WShape.has [] (.bool true) .bool=true by first|rfl|decide|simp[WShape.has,WShape.arms,WShape.armsAll])
  (show(WTm.eq .res (.lit (.bool true))).value [] {args:=args,res:=some (.bool true),after:=args}=some (.bool (true==true)) from w_eq_bool (w_res rfl) w_lit) rfl
theorem attach_call {l:OpenLaw} {n:Nat} {b:List Str} {XP:(Ab0)->Heap->Prop} {YP:World->Heap->Prop} {d:DefRec} 
  (hn:l.most=some n) (p:d.params.defaults=[])
  (e:∀ (w:World) (s₀ s₁:Shared) (mg mb:Ab0) (fa:Addr) (o:Obj) (pm cd doc:Value) (a:Addr) (vs:List Value) (ns:List Int),
   Ground q b [] XP w s₀ mg mb s₁.heap->YP w s₁.heap->
   s₁.heap.get? fa=some o->o.data=.func (docDef d.name d.params d.body d.scope pm cd doc)->s₁.heap.CodeRec cd d.name->mg d.name=some (.ref fa)->
   s₁.heap.get? a=some {cls:=.type "list",data:=.seq vs.toArray}->C06 vs ns->ns.length<=n->s₁.gens=#[]->
   C18 (model l.prog w) callerA (.call (.ref fa) ⟨[.ref a],[]⟩) (λr s'=>r=.ok (.ret (.bool true))/\OldK s₁.heap s'.heap/\s'.os=s₁.os/\C46 s'.gens) s₁):
  WalkO q b XP YP l.row.toRowW d [] (λf vs=>B62 f vs):=by
 intro w s₀ s₁ mg mb G Y fa o pm cd doc dV kV y hd k u m x s t as h v a1 j a0;obtain rfl:dV=.none:=Dflts.none u p;obtain rfl:kV=.none:=Dflts.noKw u;obtain⟨a,vs,ns,rfl,rfl,i,c,g⟩:=qT2 hn h j;refine enter_call (C32 (e w s₀ s₁ mg mb fa o pm cd doc a vs ns G Y y (fd_plain hd) k m i c g x) λr s' hq=>?_);obtain⟨rfl,h2,h3,z⟩:=hq;exact⟨.inl ⟨.bool true,.bool true,[],rfl,λ_=>rfl,.bool true,qT8 l _,λ_=>⟨List.Pairwise.nil,λ_ hm=>(nomatch hm)⟩⟩,h2,h3,z⟩
end Att
namespace L2
open PySem PySem.Spec PyProof.Rows
def qJL:∀{vs:List Value} {ns:List Int},C06 vs ns->Vals (ns.map V.int) vs
 |_,_,.nil=>.nil
 |_,_,.cons n t h=>.cons ⟨t,rfl⟩ (qJL h)
def Only (H:Hp):Prop:=∀b,H b=none\/∃o xs,H b=some (.frz o (.lst xs))
theorem qWJ {K:Ab1} {mg mb:Ab0} {CX:CXT} {k:Nat} {fa a:Addr} {fd:C02} {x:Str} {sp:Sp} {vs:List Value} {ns:List Int} 
  (KX:K.In c.heap) (a0:c.heap.Ns C01 mg) (g:c.heap.Ns builtinsNs mb) (a5:∀x:Str,x ≠ "__name__"->mb x=B97 x) (y:c.heap.NoLimit) (hg:c.gens=#[])
  (ha:c.heap.get? a=some {cls:=.type "list",data:=.seq vs.toArray}) (hi:C06 vs ns) (hl:ns.length<=B89) (hr:Room k callerA)
  (F:∀base:Heap,K.In base->base.Ns C01 mg->FnOk P w K mg base CX k fa fd [x] sp) (l:∀(s:Shared) (u:Value),BindsTo s fd ⟨[u],[]⟩ [(x,u)])
  (a7:∀H:Hp,Only H->SqL K H a (ns.map V.int)->sp [.ref a] H (λv _=>v=.bl true) λ_ _ _=>False)
  (a6:∀H e s',CX [] H c (λ_ _ _=>False) e s'->False):
  C18 (model P w) callerA (.call (.ref fa) ⟨[.ref a],[]⟩) (λr s'=>r=.ok (.ret (.bool true))/\OldK c.heap s'.heap/\s'.os=c.os/\C46 s'.gens) c:=by
 have rv:=qJL hi;have a1:=hi.length
 -- from an abstract heap in which nothing but the script may be tracked
 have j:∀H:Hp,Only H->SqL K H a (ns.map V.int)->HOk P w H c.heap->(∀b,H b≠none->b=a)->(H a≠none->K.lookup a=none)->
   C18 (model P w) callerA (.call (.ref fa) ⟨[.ref a],[]⟩) (λr s'=>r=.ok (.ret (.bool true))/\OldK c.heap s'.heap/\s'.os=c.os/\C46 s'.gens) c:=by
  intro H hO hS a2 hA hK;have f:∀{b:Addr} {o:Obj},c.heap.get? b=some o->H b=none->(hidT c.heap H).get? b=some o:=λe n=>qWO e n;have a4:∀{b:Addr} {o:Obj} {es:Array DictEntry} {ep:Nat},c.heap.get? b=some o->o.data=.dict es ep->H b=none:=λ{b o es ep} e d=>by
   cases q:H b with
   |none=>rfl
   |some u=>
    have e':b=a:=hA b (by rw[q];simp)
    subst e';rw[ha] at e;cases e;have d':B67 vs.toArray _=Data.dict es ep:=d;cases d'
  have i:∀ {b:Addr} {m:Ab0},c.heap.Ns b m->(hidT c.heap H).Ns b m:=fun {b m} ⟨o,es,ep,e,d,r⟩=>⟨o,es,ep,f e (a4 e d),d,r⟩;have p:K.In (hidT c.heap H):=fun b o e=>f (KX b o e) (by
   cases q:H b with
   |none=>rfl
   |some u=>
    have e':b=a:=hA b (by rw[q];simp)
    subst e';rw[hK (by rw[q];simp)] at e;cases e)
  have hM:Mod K mg (hidT c.heap H):=⟨p,i a0,⟨mb,i g,a5⟩,let⟨mc,h1,h2⟩:=y;⟨mc,i h1,h2⟩⟩
  have e0:Env0 P w K mg (hidT c.heap H) callerA [] c H:=⟨rfl,hM,λb o e=>qZD e,Nat.le_of_eq (qUG _ _),trivial,λb g=>absurd (show b∈([]:List Addr) from g) (by simp),a2,.of_eq hg⟩
  refine C32 ((F _ p (i a0)).run callerA [] c H ⟨[.ref a],[]⟩ [.ref a] [.ref a] _ _ hr e0 (l c (.ref a)) (.cons rfl .nil) (a7 H hO hS)) λr s' h=>?_;cases r with
  |error e=>exact(a6 H e s' h).elim
  |ok fl=>
   cases fl with
   |next=>exact V2 h
   |brk=>exact V2 h
   |cont=>exact V2 h
   |ret u=>
    obtain⟨v,H',os,t,un,a3,r',q⟩:=h;have q':v=.bl true:=q;subst q';obtain rfl:u=T8 true:=r';refine⟨rfl,OldK.of_keep λb o e=>?_,os,t⟩;cases q:H b with
    |none=>exact un.keep b o e q (by intro z;exact absurd (show b∈([]:List Addr) from z) (by simp)) (by simp)
    |some u=>
     rcases hO b with z|⟨ob,xs,z⟩
     ·rw[q] at z;cases z
     ·have z2:=un.frzs b ob _ z;obtain⟨e1,_⟩:=a2 b _ z;obtain⟨e2,_⟩:=a3 b _ z2;rw[e] at e1;cases e1;exact e2
 cases hk:K.lookup a with
 |some o=>
  -- the script is one of the module's own objects
  have e:=KX a o hk;rw[ha] at e;cases e;refine j (λ_=>none) (λ_=>.inl rfl) (.inr ⟨_,vs.toArray,_,hk,rfl,rfl,rfl,by rw[B6,a1];exact hl,by simpa using rv⟩) (λb u z=>by have z':(none:Option HO)=some u:=z;cases z') (λb z=>absurd rfl z) λz=>absurd rfl z
 |none=>
  refine j (λb=>if b=a then some (.frz {cls:=.type "list",data:=.seq vs.toArray} (.lst (ns.map V.int))) else none) (λb=>?_) (.inl (.inr ⟨{cls:=.type "list",data:=.seq vs.toArray},if_pos rfl⟩)) (λb u z=>?_) (λb z=>?_) λ_=>hk
  ·by_cases g:b=a
   ·exact .inr ⟨_,_,if_pos g⟩
   ·exact .inl (if_neg g)
  ·by_cases g:b=a
   ·have z':=(if_pos g).symm.trans z;cases z';subst g;exact⟨ha,by rw[A0];exact hl,vs,_,rv,ha⟩
   ·have z':=(if_neg g).symm.trans z;cases z'
  ·by_cases g:b=a
   ·exact g
   ·exact absurd (if_neg g) z
theorem walk_of {l:PySem.W.OpenLaw} {n k:Nat} {j:List Str} {XP:(Ab0)->Heap->Prop} {YP:World->Heap->Prop} {d:DefRec} {K:Params->Ab1} {CX:World->CXT} {sp:World->Sp} {x:Str} 
  (hn:l.most=some n) (z:n<=B89) (t:d.params.defaults=[]) (hr:Room k callerA)
  (hY:∀(w:World) (h:Heap),YP w h->(K w.params).In h)
  (F:∀ (w:World) (mg:Ab0) (fa:Addr) (h:Heap),(K w.params).In h->h.Ns C01 mg->mg d.name=some (.ref fa)->
   ∃fd:C02,(∀(s:Shared) (u:Value),BindsTo s fd ⟨[u],[]⟩ [(x,u)])/\
    ∀base:Heap,(K w.params).In base->base.Ns C01 mg->FnOk l.prog w (K w.params) mg base (CX w) k fa fd [x] (sp w))
  (y:∀(w:World) (H:Hp) (a:Addr) (ns:List Int),ns.length<=n->Only H->SqL (K w.params) H a (ns.map V.int)->sp w [.ref a] H (λv _=>v=.bl true) λ_ _ _=>False)
  (p:∀(w:World) (H:Hp) (s:Shared) (e:Value) (s':Shared),CX w [] H s (λ_ _ _=>False) e s'->False):
  PySem.W.WalkO q j XP YP l.row.toRowW d [] (λf vs=>B62 f vs):=by
 refine Att.attach_call hn t λw s₀ s₁ mg mb fa o pm cd a0 a vs ns G Y ho hd a1 r m i c hg=>?_;have KX:=hY w _ Y;obtain⟨fd,hb,hF⟩:=F w mg fa _ KX G.T.g r;exact qWJ KX G.T.g G.T.b G.T.builtins G.T.nolimit hg m i (L5 c z) hr hF hb (λH hO hS=>y w H a ns c hO hS) λH e s'=>p w H s₁ e s'
noncomputable def qFQ (s:Stmt):Arguments:=match s with
 |.FunctionDef _ a _ _ _ _ _ _ _ _=>a
 |_=>{posonlyargs:=[],args:=[],vararg:=none,kwonlyargs:=[],kw_defaults:=[],kwarg:=none,defaults:=[]}
def qDY (s:Stmt):List Stmt:=match s with
 |.FunctionDef _ _ b _ _ _ _ _ _ _=>b
 |_=>[]
noncomputable def qAC (s:Stmt):Scope:=match s with
 |.FunctionDef _ _ _ _ _ _ sc _ _ _=>sc
 |_=>{kind:=.function,names:=[],isGenerator:=false,isCoroutine:=false}
abbrev CX0:CXT:=λ_ _ _ _ _ _=>False
abbrev E0:XK:=λ_ _ _=>False
def qbR {X:Cx} :qLR CX0 X E0:=λ_ _ _ _ _ _ _ h=>h.elim
structure Fun (K:Ab1)(x qual:Str)(st:Stmt)(f:Addr)(fd:C02):Prop where
 ex:∃(oc:Value) (od:Option Addr) (kV doc pm:Value) (an:Option Addr) (cdv ct:Value) (osl:Array (Option Value)),
  fd=W1 x qual (qFQ st) (qDY st) (qAC st) .none kV doc pm an cdv ct/\K.lookup f=some ⟨oc,od,.func fd,osl⟩/\A23 K cdv qual=true
 kp:J1 K (.ref f)=true
section
variable{P:B90}{w:World}{K:Ab1}{mg:Ab0}{base:Heap}
theorem Fun.ok {x a:Str} {st:Stmt} {f:Addr} {g:C02} {N ps:List Str} {k:Nat} {sp:Sp} (F:Fun K x a st f g)(S:FnScope N ps (qAC st))(c:∀vs H Q E,sp vs H Q E->vs.length=ps.length)
  (b:∀ (cdv:Value) (A:Around) (outer:List Env) (s:Shared) (H:Hp) (vs:List V) (Q:VK) (E:XK),Room k (A.deeper (envOfC a (qAC st) s.heap.objs.size f cdv))->sp vs H Q E->
   ∃t,PSs (cxOf CX0 P w K mg base N a (qAC st) f cdv A outer s H E).nox (qDY st) t/\t {nx:=λ_ H'=>Q .non H',rt:=Q} (start N vs) H):FnOk P w K mg base CX0 (k+1) f g ps sp:=by
 obtain⟨r,n,v,i,o,u,cdv,p,j,rfl,m,d⟩:=F.ex;refine qcP m d S c λA outer s H vs Q E l e=>?_;obtain⟨t,h,q⟩:=b cdv A outer s H vs Q E l e;exact⟨t,h.nox,q⟩
theorem Fun.binds {x a:Str} {st:Stmt} {f:Addr} {b:C02} {ps:List Str} (F:Fun K x a st f b)
  (h:∀(kV doc pm:Value) (an:Option Addr) (cdv ct:Value) (us:List Value),us.length=ps.length->bindArgs (W1 x a (qFQ st) (qDY st) (qAC st) .none kV doc pm an cdv ct) ⟨us,[]⟩=pure (ps.zip us)):Binds K b ps []:=by
 obtain⟨i,e,kV,doc,pm,an,cdv,ct,d,rfl,g,c⟩:=F.ex;exact .all (h kV doc pm an cdv ct)
def fun_mk {x a:Str} {st:Stmt} {f:Addr} {n:Value} {m i:Option Addr} {e:Array (Option Value)} {j d g b h:Value} (l:K.lookup f=some ⟨n,m,.func (W1 x a (qFQ st) (qDY st) (qAC st) .none j d g i b h),e⟩)
  (c:A23 K b a=true) (k:J1 K (.ref f)=true):Fun K x a st f (W1 x a (qFQ st) (qDY st) (qAC st) .none j d g i b h):=⟨⟨n,m,j,d,g,i,b,h,e,rfl,l,c⟩,k⟩
end
theorem qGT {k:Nat} (a:Room k A):A.units+1<cLine:=j9 (Nat.add_le_add_left (by decide:1<=64) _) a.units
theorem qBM {n:Nat} (h:n<=1000):n<B89:=j9 h (by decide)
variable{X:Cx}
theorem pv (i:Nat) {x:Str} {a:Pos} (d:X.N[i]?=some x:=by rfl) (c:Vis X.env.scope x:=by first|exact G2 rfl|exact A90 (G2 rfl)|exact A90 (A90 rfl)) (e:(x==("__debug__" : Str))=false:=by decide)
  (b:(x==("__classdict__" : Str))=false:=by decide):PE X (.Name x a) (tVar i):=qbL d c e b
theorem iteF {A B:Prop} (h:B):if false=true then A else B:=by
 rw[if_neg B8];exact h
theorem iteT {A B:Prop} (h:A):if true=true then A else B:=by
 rw[if_pos rfl];exact h
theorem ite2 {c A B:Prop} [Decidable c](a:c->A)(b:¬c->B):if c then A else B:=by
 by_cases h:c
 ·rw[if_pos h];exact a h
 ·rw[if_neg h];exact b h
def Same (H H':Hp):Prop:=∀b o,H b=some o->H' b=some o
def Same.refl (H:Hp):Same H H:=λ_ _ h=>h
def Same.trans {H H1 H2:Hp} (a:Same H H1)(b:Same H1 H2):Same H H2:=λc o h=>b c o (a c o h)
theorem Same.free {H H':Hp} (e:Same H H'){l:Addr}(h:H' l=B84):H l=B84:=by
 cases q:H l with
 |none=>rfl
 |some o=>
  rw[e l o q] at h;cases h
section
variable{κ:Type}[DecidableEq κ]
def valV (Af:List (κ×V))(k:κ):Option V:=(Af.find? λkv=>decide (kv.1=k)).map (·.2)
noncomputable def putK (Af:List (κ×V))(k:κ)(v:V):List (κ×V):=
 if(Af.any λkv=>decide (kv.1=k))=true then Af.map (λkv=>if kv.1=k then(kv.1,v) else kv) else Af++[(k,v)]
theorem qBX {p:κ×V} {r:List (κ×V)} {k:κ} (e:p.1=k):valV (p::r) k=some p.2:=by simp[valV,X7,e]
theorem qBY {p:κ×V} {r:List (κ×V)} {k:κ} (e:¬p.1=k):valV (p::r) k=valV r k:=by simp[valV,X7,e]
theorem qJ3 (k:κ):∀Af:List (κ×V),(Af.any λkv=>decide (kv.1=k))=(valV Af k).isSome
 |[]=>rfl
 |p::r=>by
  rw[j8];by_cases e:p.1=k
  ·simp only[qBX e,decide_eq_true e,Bool.true_or,Option.isSome_some]
  ·rw[qBY e,decide_eq_false e,B68];exact qJ3 k r
theorem qPS (k j:κ)(y:V):∀Af:List (κ×V),valV (Af.map λkv=>if kv.1=k then(kv.1,y) else kv) j=(valV Af j).map λx=>if j=k then y else x
 |[]=>rfl
 |p::r=>by
  have ih:=qPS k j y r;rw[D4];by_cases h:p.1=k
  ·rw[if_pos h];by_cases e:p.1=j
   ·rw[qBX (p:=(p.1,y)) e,qBX e,X8,if_pos (e.symm.trans h)]
   ·rw[qBY (p:=(p.1,y)) e,qBY e,ih]
  ·rw[if_neg h];by_cases e:p.1=j
   ·rw[qBX (p:=p) e,qBX e,X8,if_neg (λz=>h (e.trans z))]
   ·rw[qBY (p:=p) e,qBY e,ih]
theorem qMT (k j:κ)(y:V):∀Af:List (κ×V),valV Af k=none->valV (Af++[(k,y)]) j=if j=k then some y else valV Af j
 |[],_=>by
  by_cases e:k=j
  ·rw[if_pos e.symm];exact qBX (p:=(k,y)) e
  ·rw[if_neg (λz=>e z.symm)];exact qBY (p:=(k,y)) e
 |p::r,hn=>by
  rw[A49];have hk:¬p.1=k:=λz=>by rw[qBX z] at hn;cases hn
  rw[qBY hk] at hn;have ih:=qMT k j y r hn;by_cases e:p.1=j
  ·rw[qBX e,qBX e,if_neg (λz=>hk (e.trans z))]
  ·rw[qBY e,qBY e,ih]
theorem qFV (Af:List (κ×V))(k j:κ)(y:V):valV (putK Af k y) j=if j=k then some y else valV Af j:=by
 unfold putK;by_cases a:(Af.any λb=>decide (b.1=k))=true
 ·rw[if_pos a,qPS];rw[qJ3] at a;by_cases e:j=k
  ·obtain⟨x,c⟩:=T0.mp a;rw[if_pos e,e,c,X8,if_pos rfl]
  ·rw[if_neg e];cases valV Af j with
   |none=>rfl
   |some x=>rw[X8,if_neg e]
 ·rw[if_neg a];refine qMT k j y Af ?_;rw[qJ3] at a;cases q:valV Af k with
  |none=>rfl
  |some x=>rw[q] at a;exact(a rfl).elim
theorem qC5 (Af:List (κ×V))(k:κ)(v:V):(putK Af k v).length<=Af.length+1:=by
 unfold putK
 split
 ·rw[A0];lia
 ·rw[B0,C9,O4];lia
theorem RelO.isSome_eq {o:Option V} {u:Option Value} (r:RelO o u):o.isSome=u.isSome:=by
 cases o with
 |none=>cases u with
  |none=>rfl
  |some _=>exact(show False from r).elim
 |some _=>cases u with
  |none=>exact(show False from r).elim
  |some _=>rfl
theorem RelO.getD {o:Option V} {u:Option Value} {d:V} {d':Value} (r:RelO o u)(a:RelV d d'):RelV (o.getD d) (u.getD d'):=by
 cases o with
 |none=>cases u with
  |none=>exact a
  |some _=>exact(show False from r).elim
 |some _=>cases u with
  |none=>exact(show False from r).elim
  |some _=>exact r
theorem KV.val {Af:List (κ×V)} {vs:List (κ×Value)} (r:KV Af vs)(k:κ):RelO (valV Af k) (valueAt vs k):=by
 unfold KV at r
 induction r with
 |nil=>exact Z4
 |@cons p q ps qs h t ih=>
  obtain⟨c,d⟩:=h;by_cases e:p.1=k
  ·have a:q.1=k:=c.symm.trans e;have b:valueAt (q::qs) k=some q.2:=by simp[valueAt,X7,a]
   rw[qBX e,b];exact d
  ·have a:¬q.1=k:=λz=>e (c.trans z);have b:valueAt (q::qs) k=valueAt qs k:=by simp[valueAt,X7,a]
   rw[qBY e,b];exact ih
theorem KV.any {Af:List (κ×V)} {vs:List (κ×Value)} (r:KV Af vs)(k:κ):(Af.any λkv=>decide (kv.1=k))=vs.any λkv=>decide (kv.1=k):=by
 unfold KV at r
 induction r with
 |nil=>rfl
 |cons h t ih=>rw[j8,j8,ih,h.1]
theorem KV.repl {Af:List (κ×V)} {vs:List (κ×Value)} (r:KV Af vs)(k:κ){y:V}{u:Value}(c:RelV y u):
  KV (Af.map λkv=>if kv.1=k then(kv.1,y) else kv) (vs.map λkv=>if kv.1=k then(kv.1,u) else kv):=by
 unfold KV at r ⊢
 induction r with
 |nil=>exact .nil
 |@cons p q ps qs h t ih=>
  rw[D4,D4];refine .cons ?_ ih;obtain⟨a,b⟩:=h;by_cases e:p.1=k
  ·rw[if_pos e,if_pos (a.symm.trans e)];exact⟨a,c⟩
  ·rw[if_neg e,if_neg (λz=>e (a.trans z))];exact⟨a,b⟩
theorem KV.put {Af:List (κ×V)} {vs:List (κ×Value)} (r:KV Af vs)(k:κ){y:V}{u:Value}(a:RelV y u):KV (putK Af k y) (stored vs k u):=by
 unfold putK stored;rw[r.any k];by_cases e:(vs.any λb=>decide (b.1=k))=true
 ·rw[if_pos e,if_pos e];exact r.repl k a
 ·rw[if_neg e,if_neg e];exact A03 r ⟨rfl,a⟩
def KV.length {Af:List (κ×V)} {vs:List (κ×Value)} (r:KV Af vs):Af.length=vs.length:=B4 r
end
theorem qP3 {k:Key} {u:Value} (r:RelV (kV k) u):(qBN P w).is k u=true:=by
 cases k with
 |inl i=>obtain⟨t,e⟩:=(show∃t,u=R4 i t from r);subst e;exact qP1 P w i t
 |inr x=>obtain⟨t,e⟩:=(show∃t,u=B39 x t from r);subst e;exact qP0 P w x t
theorem qNR :∀{ks:List Key} {us:List Value},Vals (ks.map kV) us->ItemsAre (qBN P w) ks us
 |[],_,r=>by rw[i9] at r;cases r;exact .nil
 |k::ks,_,r=>by
  rw[D4] at r;cases r with
  |cons h t=>exact .cons (qP3 h) (qNR t)
abbrev KT (H:Hp):List (List Key×V)->List (List Key×Addr×Value)->Prop:=Paired λp q=>p.1=q.1/\H q.2.1=some (.tup (p.1.map kV))/\RelV p.2 q.2.2
theorem KT.val {H:Hp} {Af:List (List Key×V)} {xs:List (List Key×Addr×Value)} (r:KT H Af xs)(k:List Key):RelO (valV Af k) ((atKey xs k).map (·.2)):=by
 induction r with
 |nil=>exact Z4
 |@cons p q ps qs h t ih=>
  obtain⟨c,_,d⟩:=h;by_cases e:p.1=k
  ·have a:q.1=k:=c.symm.trans e;have b:atKey (q::qs) k=some q.2:=by simp[atKey,X7,a]
   rw[qBX e,b];exact d
  ·have a:¬q.1=k:=λz=>e (c.trans z);have b:atKey (q::qs) k=atKey qs k:=by simp[atKey,X7,a]
   rw[qBY e,b];exact ih
theorem KT.repl {H:Hp} {Af:List (List Key×V)} {xs:List (List Key×Addr×Value)} (r:KT H Af xs)(k:List Key){y:V}{u:Value}(c:RelV y u):
  KT H (Af.map λkv=>if kv.1=k then(kv.1,y) else kv) (xs.map (putAt k u)):=by
 induction r with
 |nil=>exact .nil
 |@cons p q ps qs h t ih=>
  rw[D4,D4];refine .cons ?_ ih;obtain⟨a,b,d⟩:=h;unfold putAt;by_cases e:p.1=k
  ·rw[if_pos e,if_pos (a.symm.trans e)];exact⟨a,b,c⟩
  ·rw[if_neg e,if_neg (λz=>e (a.trans z))];exact⟨a,b,d⟩
theorem KT.put {H:Hp} {Af:List (List Key×V)} {xs:List (List Key×Addr×Value)} (r:KT H Af xs)(k:List Key){b:Addr}{y:V}{u:Value}(d:H b=some (.tup (k.map kV)))(a:RelV y u):
  KT H (putK Af k y) (storedH xs k b u):=by
 have e:(Af.any λc=>decide (c.1=k))=(atKey xs k).isSome:=by
  rw[qJ3,(r.val k).isSome_eq,P7]
 unfold putK storedH;rw[e];by_cases q:(atKey xs k).isSome=true
 ·rw[if_pos q,if_pos q];exact r.repl k a
 ·rw[if_neg q,if_neg q];exact A03 r ⟨rfl,d,a⟩
def KT.keeps {H H':Hp} {Af:List (List Key×V)} {xs:List (List Key×Addr×Value)} (r:KT H Af xs)(a:∀b ys,H b=some (.tup ys)->H' b=some (.tup ys)):KT H' Af xs:=
 Paired.mapP r λ_ _ z=>⟨z.1,a _ _ z.2.1,z.2.2⟩
section
variable{P:B90}{w:World}{H:Hp}{h:Heap}{a:Addr}
def qbF {u:HO} (ok:HOk P w H h)(e:Rd H a u):ObjOk P w H h a u:=e.ok ok
def qPG {Af:List (Key×V)} (b:HOk P w H h)(e:Rd H a (.dK Af)):Af.length<=B89/\(a==C21)=false/\∃vs,KV Af vs/\h.DictOf (qBN P w) a vs:=
 show ObjOk P w H h a (.dK Af) from qbF b e
def qUX {Af:List (Key×V)} (b:HOk P w H h)(e:H a=some (.dK Af)):Af.length<=B89/\(a==C21)=false/\∃vs,KV Af vs/\h.DictOf (qBN P w) a vs:=qPG b (.inl e)
theorem qLG {ks:List Key} (g:HOk P w H h)(e:H a=some (.tup (ks.map kV))):(tupleKind (qBN P w)).is h ks a:=by
 obtain⟨_,b,r,o,f,c,n,d⟩:=(show ObjOk P w H h a (.tup (ks.map kV)) from g a _ e);exact⟨o,b.toArray,n,f,c,d,by simpa using qNR r⟩
theorem qPF {Af:List (List Key×V)} (c:HOk P w H h)(e:Rd H a (.dT Af)):Af.length<=B89/\(a==C21)=false/\
  ∃xs,KT H Af xs/\h.DictOfH (tupleKind (qBN P w)) a xs:=by
 obtain⟨z,y,xs,r,o,k,n,j,d,g,f,i⟩:=(show ObjOk P w H h a (.dT Af) from qbF c e);refine⟨z,y,xs,r,o,k,n,j,d,g,f,λx hx=>?_,i⟩;have b:∀{l:List (List Key×V)} {m:List (List Key×Addr×Value)},KT H l m->∀x∈m,(tupleKind (qBN P w)).is h x.1 x.2.1:=by
  intro l m q
  induction q with
  |nil=>intro x hx;exact nomatch hx
  |@cons p q ps qs hq t ih=>
   intro x hx;rcases B9.mp hx with e|hx
   ·subst e;exact qLG c (by rw[<- hq.1];exact hq.2.1)
   ·exact ih x hx
 exact b r x hx
def qe0 {Af:List (List Key×V)} (b:HOk P w H h)(e:H a=some (.dT Af)):Af.length<=B89/\(a==C21)=false/\
  ∃xs,KT H Af xs/\h.DictOfH (tupleKind (qBN P w)) a xs:=qPF b (.inl e)
end
def DGet (H:Hp)(a:Addr)(y:V)(r:Option V):Prop:=
 (∃Af k,Rd H a (.dK Af)/\y=kV k/\r=valV Af k)\/∃Af k b,Rd H a (.dT Af)/\y=.ref b/\H b=some (.tup (k.map kV))/\r=valV Af k
def DPut (H:Hp)(a:Addr)(y v:V)(H':Hp):Prop:=
 (∃Af k,H a=some (.dK Af)/\y=kV k/\Af.length<B89/\H'=Ag H a (.dK (putK Af k v)))\/
 ∃Af k b,H a=some (.dT Af)/\y=.ref b/\H b=some (.tup (k.map kV))/\Af.length<B89/\H'=Ag H a (.dT (putK Af k v))
def DGet.k {H:Hp} {a:Addr} {Af:List (Key×V)} {k:Key} (e:H a=some (.dK Af)):DGet H a (kV k) (valV Af k):=.inl ⟨Af,k,.inl e,rfl,rfl⟩
def DPut.k {H:Hp} {a:Addr} {Af:List (Key×V)} {k:Key} {v:V} (e:H a=some (.dK Af))(b:Af.length<B89):DPut H a (kV k) v (Ag H a (.dK (putK Af k v))):=.inl ⟨Af,k,e,rfl,b,rfl⟩
def DPut.t {H:Hp} {a b:Addr} {Af:List (List Key×V)} {k:List Key} {v:V} (e:H a=some (.dT Af))(c:H b=some (.tup (k.map kV)))(d:Af.length<B89):
  DPut H a (.ref b) v (Ag H a (.dT (putK Af k v))):=.inr ⟨Af,k,b,e,rfl,c,d,rfl⟩
section
variable{X:Cx}{Ab:Aa2}{σ:St}{H:Hp}{s:Shared}{a:Addr}{y v:V}{u r:Value}{o:Option V}{A:Around}{E:Aa1}
theorem Inv.big (I:Inv X Ab σ H s):C21<s.heap.objs.size:=by
 have h:C01<s.heap.objs.size:=(I.mod.glob.keeps I.bk).lt;exact A16 (by decide) h
theorem qV4 {Q:Aa1} (hu:A.units+1<cLine)(I:Inv X Ab σ H s)(g:DGet H a y (some v))(n:RelV y u)(h:∀w' s',Inv X Ab σ H s'->RelV v w'->Q w' s'):
  wpAny (model X.prog X.w) A (C51 (.ref a) u) Q E s:=by
 rcases g with⟨q,k,e,j,l⟩|⟨q,k,b,e,j,t,l⟩
 ·subst j;obtain⟨z,hd,x,c,i⟩:=qPG I.hok e;obtain⟨w',m,d⟩:=RelO.some_of (v:=v) (o:=valueAt x k) (by rw[l];exact c.val k)
  exact wpAny_getItem_of (qP3 n) i.mapOf m (h w' _ (I.tok _) d)
 ·subst j;cases(show u=D6 b from n);obtain⟨z,hd,xs,c,i⟩:=qPF I.hok e;obtain⟨w',m,d⟩:=RelO.some_of (v:=v) (o:=(atKey xs k).map (·.2)) (by rw[l];exact c.val k)
  obtain⟨p,r,f⟩:=A60.mp m;refine wpAny_getItem_heap (C36 hu) (qLG I.hok t) i r ?_;rw[f];exact h w' _ (I.tok _) d
theorem d_in {Q:Aa1} (p:A.units+1<cLine)(I:Inv X Ab σ H s)(g:DGet H a y o)(j:RelV y u)(h:∀s',Inv X Ab σ H s'->Q (.bool o.isSome) s'):
  wpAny (model X.prog X.w) A (C03 .In u (.ref a)) Q E s:=by
 rcases g with⟨m,k,e,i,l⟩|⟨m,k,b,e,i,n,l⟩
 ·subst i;obtain⟨z,f,r,c,d⟩:=qPG I.hok e;refine wpAny_in_of (qP3 j) f d.mapOf ?_;rw[<- (c.val k).isSome_eq,<- l];exact h _ (I.tok _)
 ·subst i;cases(show u=D6 b from j);obtain⟨z,f,t,c,d⟩:=qPF I.hok e;refine wpAny_in_heap (C36 p) (qLG I.hok n) f d ?_;have q:=(c.val k).isSome_eq;rw[P7] at q;rw[<- q,<- l];exact h _ (I.tok _)
theorem qaC {Q:Aa1} (p:A.units+1<cLine)(I:Inv X Ab σ H s)(g:DGet H a y o)(j:RelV y u)(h:∀s',Inv X Ab σ H s'->Q (.bool (!o.isSome)) s'):
  wpAny (model X.prog X.w) A (C03 .NotIn u (.ref a)) Q E s:=by
 rcases g with⟨m,k,e,i,l⟩|⟨m,k,b,e,i,n,l⟩
 ·subst i;obtain⟨z,f,r,c,d⟩:=qPG I.hok e;refine wpAny_notIn_of (qP3 j) f d.mapOf ?_;rw[<- (c.val k).isSome_eq,<- l];exact h _ (I.tok _)
 ·subst i;cases(show u=D6 b from j);obtain⟨z,f,t,c,d⟩:=qPF I.hok e;refine wpAny_notIn_heap (C36 p) (qLG I.hok n) f d ?_;have q:=(c.val k).isSome_eq;rw[P7] at q;rw[<- q,<- l];exact h _ (I.tok _)
def qPI {h':Heap} {t':Nat} {d:HO} (I:Inv X Ab σ H s)(h:Mut (H a))(g:Heap.SameBut a s.heap h')(f:∃q,h'.get? a=some q)(c:ObjOk X.prog X.w (Ag H a d) h' a d):
  Inv X Ab σ (Ag H a d) {s with heap:=h',toks:=t'}:=
 I.write (x:=a) (e:=a) h (.inl rfl) (λb q i z=>(g.2 b i).trans z) f c
def qY5 {H':Hp} {h':Heap} {Af:List (Key×V)} {vs:List (Key×Value)} (z:Af.length<=B89)(d:(a==C21)=false)(b:KV Af vs)(c:h'.DictOf (qBN P w) a vs):
  ObjOk P w H' h' a (.dK Af):=⟨z,d,vs,b,c⟩
theorem qV3 {H':Hp} {Q:Unit->Shared->Prop} (hu:A.units+1<cLine)(I:Inv X Ab σ H s)(g:DPut H a y v H')(ry:RelV y u)(rv:RelV v r)(h:∀s',Inv X Ab σ H' s'->Q () s'):
  wpAny (model X.prog X.w) A (setItem (.ref a) u r) Q E s:=by
 rcases g with⟨i,k,e,p,l,t⟩|⟨i,k,b,e,p,eb,l,t⟩
 ·subst p t;obtain⟨z,j,vs,d,o⟩:=qUX I.hok e;have x:vs.length<=B89:=by rw[<- d.length];exact z
  have n:(putK i k v).length<=B89:=by have:=qC5 i k v;lia
  refine wpAny_setItem_pairs (hsz:=x) (qP3 ry) o λh' f m=>h _ ?_;have he:∃q,h'.get? a=some q:=let⟨q,_,_,hq,_⟩:=f;⟨q,hq⟩
  exact qPI I (by rw[e];exact Z4) m he (qY5 n j (d.put k rv) f)
 ·subst p t;cases(show u=D6 b from ry);obtain⟨z,j,xs,d,o⟩:=qe0 I.hok e;have x:xs.length<=B89:=by rw[<- B4 d];exact z
  have n:(putK i k v).length<=B89:=by have:=qC5 i k v;lia
  refine wpAny_setItem_heap (hsz:=x) (C36 hu) (qLG I.hok eb) o λh' f m=>h _ ?_;obtain⟨q,es,ep,hq,h2,h3,h4,_,h5⟩:=f;refine qPI I (by rw[e];exact Z4) m ⟨q,hq⟩ ⟨n,j,_,(d.put k eb rv).keeps λc ys ec=>?_,q,es,ep,hq,h2,h3,h4,h5⟩
  rw[qA8 (qCK ec e (λz=>nomatch z))];exact ec
end
def NoSl (i:Expr):Prop:=∀ov iv,subscripted i false ov iv=operate [ov,iv] (C51 ov iv)
theorem qYR {env:Env} {b a:Expr} {e:Pos} {T id:String} {Q:Aa1} 
  (l:typeLookup (.type T) "__getitem__" = pure (some (.builtin id))) (j:NoSl a)
  (h:wpAny (model prog w) A (eval b env) (λo s₁=>wpAny (model prog w) A (eval a env) (λi s₂=>s₂.TypeIs o T/\wpAny (model prog w) A (C51 o i) Q E s₂) E s₁) E s):
  wpAny (model prog w) A (eval (.Subscript b a e) env) Q E s:=by
 refine Subscript_ (B96 h (λo s₁ m=>B96 m (λi s₂ d=>?_) λ_ _ x=>x) λ_ _ x=>x);obtain⟨g,d⟩:=d;unfold subscriptTail;refine B87 ?_;rw[getitemInPython_of_ne g.not_modules];refine B87 (wpAny_specialOf g l ?_);have c:wpAny (model prog w) A (subscripted a false o i) (λr f=>wpAny (model prog w) A (letTemporaryGo b o r >>= λ_=>pure r) Q E f) E s₂:=by
  rw[j o i];exact wpAny_operating (B96 d (λr f k=>B87 (wpAny_letTemporaryGo (B88 k))) λ_ _ x=>x)
 first
  |exact B88 (B87 c)
  |exact B87 (B88 (B87 c))
  |exact B87 c
theorem qPH {X:Cx} {Ab:Aa2} {σ:St} {H:Hp} {a:Addr} {y:V} {o:Option V} (I:Inv X Ab σ H s) (g:DGet H a y o):s.TypeIs (.ref a) "dict":=by
 rcases g with⟨d,k,e,_,_⟩|⟨d,k,b,e,_,_,_⟩
 ·obtain⟨_,_,h,_,c⟩:=qPG I.hok e;exact c.typeIs
 ·obtain⟨_,_,f,_,c⟩:=qPF I.hok e;exact c.typeIs
def qd7 (td ty:TE):TE:=λσ H Q=>td σ H λx H1=>ty σ H1 λy H2=>E2 λa v=>x=.ref a/\DGet H2 a y (some v)/\Q v H2
def tDIn (ty td:TE):TE:=λσ H Q=>ty σ H λy H1=>td σ H1 λx H2=>E2 λa o=>x=.ref a/\DGet H2 a y o/\Q (.bl o.isSome) H2
def qYQ (ty td:TE):TE:=λσ H Q=>ty σ H λy H1=>td σ H1 λx H2=>E2 λa o=>x=.ref a/\DGet H2 a y o/\Q (.bl (!o.isSome)) H2
def qdB (td ty tv:TE):TS:=λD σ H=>tv σ H λv H1=>td σ H1 λx H2=>ty σ H2 λy H3=>∃a H4,x=.ref a/\DPut H3 a y v H4/\D.nx σ H4
section
variable{X:Cx}{o i e value:Expr}{pos pos' tpos:Pos}{td ty tv:TE}
theorem qCU (j:X.A.units+1<cLine)(f:PE X o td)(hi:PE X i ty)(e:NoSl i):PE X (.Subscript o i pos) (qd7 td ty):=by
 intro c s σ H Q I h;refine qYR PySem.F.slot_dict_getitem.lookup e (thn (f c s σ H _ I h) λu s1 ⟨x,H1,I1,rx,q1⟩=>thn (hi c s1 σ H1 _ I1 q1) λiv s2 ⟨y,H2,I2,ry,a,v,ex,g,q2⟩=>?_);subst ex;obtain rfl:u=D6 a:=rx;exact⟨qPH I2 g,qV4 j I2 g ry λk l d b=>⟨v,H2,d,b,q2⟩⟩
theorem qTE (e:X.A.units+1<cLine)(hi:PE X i ty)(d:PE X o td):PC X .In i o (tDIn ty td):=by
 intro b s σ H Q I h;refine thn (hi b s σ H _ I h) λiv s1 ⟨y,H1,I1,ry,q1⟩=>thn (d b s1 σ H1 _ I1 q1) λu s2 ⟨x,H2,I2,rx,a,ov,ex,g,q2⟩=>?_;subst ex;obtain rfl:u=D6 a:=rx;exact d_in e I2 g ry λf c=>⟨.bl ov.isSome,H2,c,rfl,q2⟩
theorem qHC (e:X.A.units+1<cLine)(hi:PE X i ty)(d:PE X o td):PC X .NotIn i o (qYQ ty td):=by
 intro b s σ H Q I h;refine thn (hi b s σ H _ I h) λiv s1 ⟨y,H1,I1,ry,q1⟩=>thn (d b s1 σ H1 _ I1 q1) λu s2 ⟨x,H2,I2,rx,a,ov,ex,g,q2⟩=>?_;subst ex;obtain rfl:u=D6 a:=rx;exact qaC e I2 g ry λf c=>⟨.bl (!ov.isSome),H2,c,rfl,q2⟩
theorem qEX (j:X.A.units+1<cLine)(f:PE X o td)(hi:PE X i ty)(d:PE X value tv)(e:swapsWith value (some (.Subscript o i pos')) pos.line X.env=pure false):
  PS X (.Assign [.Subscript o i pos'] value pos) (qdB td ty tv):=by
 intro b s σ H D I h;refine wpAny_Assign_Subscript (thn (d b s σ H _ I h) λr s1 ⟨v,H1,I1,rv,q1⟩=>thn (f b s1 σ H1 _ I1 q1) λu s2 ⟨x,H2,I2,rx,q2⟩=>thn (hi b s2 σ H2 _ I2 q2) λiv s3 ⟨y,H3,I3,ry,a,H4,ex,g,q3⟩=>?_) e;subst ex;obtain rfl:u=D6 a:=rx;exact qV3 j I3 g ry rv λk c=>⟨σ,H4,c,q3⟩
end
def qQV {H:Hp} (h:Heap) (a:C21<h.objs.size):ObjOk P w H (h.push {cls:=.type "dict",data:=.dict #[]}) h.objs.size (.dK []):=
 ⟨G6 _,beq_eq_false_iff_ne.mpr (K9 (D7 a)),[],.nil,Heap.DictOf.new h⟩
def qX5 {H:Hp} (h:Heap) (a:C21<h.objs.size):ObjOk P w H (h.push {cls:=.type "dict",data:=.dict #[]}) h.objs.size (.dT []):=
 ⟨G6 _,beq_eq_false_iff_ne.mpr (K9 (D7 a)),[],.nil,_,#[],0,B7 _ rfl,⟨rfl,rfl,rfl⟩,rfl,rfl,B53⟩
def qb0:TE:=λ_ H Q=>∀p,H p=none->Q (.ref p) (Ag H p (.dK []))
def qaZ:TE:=λ_ H Q=>∀p,H p=none->Q (.ref p) (Ag H p (.dT []))
section
variable{X:Cx}{pos:Pos}
def qQB:PE X (.Dict [] [] pos) qb0:=λb s σ H Q I h=>
 wpAny_Dict_empty ⟨.ref s.heap.objs.size,_,I.laid (a:=s.heap.objs.size) (o:=.dK []) (t':=s.toks) (λ_ _ q=>A4 _ q) (A9 _) (qQV s.heap I.big),rfl,h _ (I.hok.fresh (A9 _))⟩
def qWC:PE X (.Dict [] [] pos) qaZ:=λb s σ H Q I h=>
 wpAny_Dict_empty ⟨.ref s.heap.objs.size,_,I.laid (a:=s.heap.objs.size) (o:=.dT []) (t':=s.toks) (λ_ _ q=>A4 _ q) (A9 _) (qX5 s.heap I.big),rfl,h _ (I.hok.fresh (A9 _))⟩
end
def qSN:List (TE×TE)->St->Hp->(List (V×V)->Hp->Prop)->Prop
 |[],_,H,Q=>Q [] H
 |(tk,tv)::r,σ,H,Q=>tk σ H λx H1=>tv σ H1 λy H2=>qSN r σ H2 λps H3=>Q ((x,y)::ps) H3
abbrev VV:List (V×V)->List (Value×Value)->Prop:=Paired λp q=>RelV p.1 q.1/\RelV p.2 q.2
def PPs (X:Cx)(pos:Pos)(keys:List (Option Expr))(values:List Expr)(trs:List (TE×TE)):Prop:=
 ∀(Ab:Aa2) (s:Shared) (σ:St) (H:Hp) (Q:List (V×V)->Hp->Prop),Inv X Ab σ H s->qSN trs σ H Q->
  wpAny (model X.prog X.w) X.A (evalPairs (pairTrees keys values X.env pos)) (λvs s'=>∃ps H',Inv X Ab σ H' s'/\VV ps vs/\Q ps H') X.xe s
def qM3 {X:Cx} {a:Pos} :PPs X a [] [] []:=λb s σ H Q I h=>pairTrees_nil_walk ⟨[],H,I,.nil,h⟩
def qG1 {X:Cx} {b:Pos} {k v:Expr} {ks:List (Option Expr)} {vs:List Expr} {f g:TE} {a:List (TE×TE)} (l:PE X k f)(i:PE X v g)(j:PPs X b ks vs a):
  PPs X b (some k::ks) (v::vs) ((f,g)::a):=λc s σ H Q I h=>
 pairTrees_cons_walk (thn (l c s σ H _ I h) fun u s1 ⟨x,H1,I1,rx,q1⟩=>thn (i c s1 σ H1 _ I1 q1) fun w2 s2 ⟨y,H2,I2,ry,q2⟩=>
  thn (j c s2 σ H2 _ I2 q2) λws s3 ⟨ps,H3,I3,rel,q3⟩=>⟨(x,y)::ps,H3,I3,.cons ⟨rx,ry⟩ rel,q3⟩)
def qEJ (Af more:List (Key×V)):List (Key×V):=more.foldl (λd e=>putK d e.1 e.2) Af
theorem KV.merge:∀{more:List (Key×V)} {rs:List (Key×Value)} {Af:List (Key×V)} {vs:List (Key×Value)},KV more rs->KV Af vs->KV (qEJ Af more) (merged vs rs):=by
 intro more rs Af vs r;unfold KV at r
 induction r generalizing Af vs with
 |nil=>intro q;exact q
 |@cons p q ps qs h t ih=>
  intro a;have e:KV (putK Af p.1 p.2) (stored vs q.1 q.2):=by
   have:=a.put p.1 h.2;rw[<- h.1];exact this
  exact ih e
theorem qHF:∀(more Af:List (Key×V)),(qEJ Af more).length<=Af.length+more.length
 |[],Af=>by show Af.length<=Af.length+0;lia
 |p::r,Af=>by
  have h1:=qHF r (putK Af p.1 p.2);have h2:=qC5 Af p.1 p.2;show(qEJ (putK Af p.1 p.2) r).length<=_;rw[C9];lia
theorem qLP :∀{Af:List (Key×V)} {ws:List (Value×Value)},VV (Af.map λkv=>(kV kv.1,kv.2)) ws->∃rs,Carries (qBN P w) ws rs/\KV Af rs
 |[],_,r=>by rw[i9] at r;cases r;exact⟨[],Z4,.nil⟩
 |p::Af,_,r=>by
  rw[D4] at r;cases r with
  |@cons a b as bs h t=>
   obtain⟨rs,c,q⟩:=qLP (P:=P) (w:=w) t;obtain⟨b1,b2⟩:=b;exact⟨(p.1,b2)::rs,⟨qP3 h.1,rfl,c⟩,.cons ⟨rfl,h.2⟩ q⟩
def qd6 (trs:List (TE×TE)):TE:=λσ H Q=>∀p,H p=none->qSN trs σ (Ag H p (.dK [])) λps H2=>H2 p=some (.dK [])/\∃Af:List (Key×V),ps=Af.map (λkv=>(kV kv.1,kv.2))/\Af.length<=15/\Q (.ref p) (Ag H2 p (.dK (qEJ [] Af)))
theorem qM4 {X:Cx} {i:Pos} {b:List (Option Expr)} {d:List Expr} {g:List (TE×TE)} (h:PPs X i b d g)(f:b.all (·.isSome)=true)(x:b.length=d.length)(h0:b≠[])
  (k:b.length<=15):PE X (.Dict b d i) (qd6 g):=by
 intro Ab s σ H Q I q;have y:=I.hok.fresh (A9 s.heap.objs.size);have n:=I.laid (a:=s.heap.objs.size) (o:=.dK []) (h':=s.heap.push {cls:=.type "dict",data:=.dict #[]}) (t':=s.toks) (λ_ _ q=>A4 _ q) (A9 _) (qQV s.heap I.big);refine wpAny_Dict_walk (knd:=qBN X.prog X.w) f x h0 k (thn (h Ab _ σ _ _ n (q _ y)) λws s2 ⟨ps,H2,I2,rel,e,Af,ep,lk,q2⟩=>?_);subst ep;obtain⟨m,c,rk⟩:=qLP (P:=X.prog) (w:=X.w) rel;obtain⟨z,u,r,t,dd⟩:=qUX I2.hok e;cases t;refine⟨m,c,dd,λh' j v=>⟨.ref s.heap.objs.size,_,?_,rfl,q2⟩⟩;have hz:(qEJ [] Af).length<=B89:=by
  have l:=qHF Af [];rw[O4] at l;rw[B94];lia
 have p:∃q,h'.get? s.heap.objs.size=some q:=let⟨q,_,_,hq,_⟩:=j;⟨q,hq⟩
 exact qPI I2 (by rw[e];exact Z4) v p (qY5 hz u (rk.merge .nil) j)
structure M1 (X:Cx)(o:Expr)(m:Str)(apos:Pos)(e:Expr)(cpos:Pos):Prop where
 base:C57 o m X.env (eval o X.env)=eval o X.env
 few:((backTo cpos (B95 [e] X.env)).all (fun x=>!x.1) && (backToKw cpos (keywordEach [] X.env)).all (fun x=>x.1.isSome)
  && decide (([e]:List Expr).length+([]:List C50).length+(if([]:List C50).isEmpty then 0 else 1)<30))=true
 line:(apos.endLine==cpos.line)=true
 trees:backTo cpos (B95 [e] X.env)=[(false,eval e X.env)]
structure M2 (X:Cx)(o:Expr)(m:Str)(apos:Pos)(e f:Expr)(cpos:Pos):Prop where
 base:C57 o m X.env (eval o X.env)=eval o X.env
 few:((backTo cpos (B95 [e,f] X.env)).all (fun x=>!x.1) && (backToKw cpos (keywordEach [] X.env)).all (fun x=>x.1.isSome)
  && decide (([e,f]:List Expr).length+([]:List C50).length+(if([]:List C50).isEmpty then 0 else 1)<30))=true
 line:(apos.endLine==cpos.line)=true
 trees:backTo cpos (B95 [e,f] X.env)=[(false,eval e X.env),(false,eval f X.env)]
def IsD (H:Hp)(a:Addr):Prop:=(∃Af,Rd H a (.dK Af))\/∃Af,Rd H a (.dT Af)
theorem qcG {X:Cx} {Ab:Aa2} {σ:St} {H:Hp} {a:Addr} (I:Inv X Ab σ H s)(d:IsD H a):
  s.TypeIs (.ref a) "dict"/\(∀b,D6 a=.ref b->∃ob,s.heap.get? b=some ob/\ob.dict=none)/\(a==C21)=false:=by
 rcases d with⟨i,e⟩|⟨i,e⟩
 ·obtain⟨_,h,j,_,c⟩:=qPG I.hok e;refine⟨c.typeIs,λb q=>?_,h⟩;cases q;obtain⟨ob,_,_,g,f,_⟩:=c;exact⟨ob,g,f.2.1⟩
 ·obtain⟨_,h,k,_,c⟩:=qPF I.hok e;refine⟨c.typeIs,λb q=>?_,h⟩;cases q;obtain⟨ob,_,_,g,f,_⟩:=c;exact⟨ob,g,f.2.1⟩
section
variable{X:Cx}{Ab:Aa2}{σ:St}{H:Hp}{s:Shared}{a:Addr}{y d:V}{u r:Value}{o:Option V}{A:Around}{E:Aa1}
theorem qcR {Q:Aa1} (v:A.units+1<cLine)(I:Inv X Ab σ H s)(g:DGet H a y o)(m:RelV y u)(n:RelV d r)(h:∀w' s',Inv X Ab σ H s'->RelV (o.getD d) w'->Q w' s'):
  wpAny (model X.prog X.w) A (call (.builtin "dict.get") [.ref a,u,r]) Q E s:=by
 rcases g with⟨p,k,e,j,l⟩|⟨p,k,b,e,j,q,l⟩
 ·subst j;obtain⟨z,i,x,c,f⟩:=qPG I.hok e;refine call_meetsIn t9 f.typeIs A61 (A43 _ _ _) (meets_dict_get_default (qBN X.prog X.w) a (qP3 m) i r) ⟨_,f.mapOf,h _ _ (I.tok _) ?_⟩;rw[l];exact(c.val k).getD n
 ·subst j;cases(show u=D6 b from m);obtain⟨z,i,t,c,f⟩:=qPF I.hok e;refine call_meetsIn t9 f.typeIs A61 (A43 _ _ _) (meetsH_dict_get_default (tupleKind (qBN X.prog X.w)) a b i r) ⟨C36 v,k,t,qLG I.hok q,f,h _ _ (I.tok _) ?_⟩;rw[l];exact(c.val k).getD n
end
def qb1 (td ty tx:TE):TE:=λσ H Q=>td σ H λx H1=>∃a,x=.ref a/\IsD H1 a/\ty σ H1 λy H2=>tx σ H2 λz H3=>∃o,DGet H3 a y o/\Q (o.getD z) H3
section
variable{X:Cx}{o e f:Expr}{apos cpos:Pos}{td ty tx:TE}
theorem qWD (p:X.A.units+1<cLine) (n:PE X o td) (j:PE X e ty) (q:PE X f tx) (m:M2 X o "get" apos e f cpos):PE X (.Call (.Attribute o "get" apos) [e,f] [] cpos) (qb1 td ty tx):=by
 intro b s σ H Q I h;refine wpAny_Call_method m.base m.few m.line A44 t9 PySem.F.type_dict_get (thn (n b s σ H _ I h) fun u s1 ⟨x,H1,I1,rx,a,ex,d,q1⟩=>?_);subst ex;obtain rfl:u=D6 a:=rx;obtain ⟨l,k,_⟩:=qcG I1 d;refine ⟨l,k,?_⟩;rw [m.trees];refine m5 rfl (A81 (A13 (thn (j b s1 σ H1 _ I1 q1) fun iv s2 ⟨y,H2,I2,ry,q2⟩=>
  A13 (thn (q b s2 σ H2 _ I2 q2) λfv s3 ⟨z,H3,I3,rz,ov,g,q3⟩=>B16 ?_))))
 exact qcR p I3 g ry rz λr t i c=>⟨_,H3,i,c,q3⟩
end
section
variable{κ:Type}[DecidableEq κ]
theorem qM7:∀{l:List κ} {k:κ},l.Nodup->¬k∈l->(l++[k]).Nodup
 |[],k,_,_=>by simp
 |a::r,k,h,hk=>by
  obtain⟨h1,h2⟩:=J6.mp h;show(a::(r++[k])).Nodup;refine J6.mpr ⟨λm=>?_,qM7 h2 λm=>hk (B9.mpr (A90 m))⟩;rcases C1.mp m with q|q
  ·exact h1 q
  ·exact hk (B9.mpr (G2 (A6.mp q).symm))
end
def noX:Aa1:=λ_ _=>False
noncomputable def qJ2 (env:Env):List (Str×C40)->List (Str×Addr)->List (Str×Addr)
 |[],acc=>acc
 |(n,k)::r,acc=>qJ2 env r (if(k==P8)=true then(n,(env.cells.lookup n).getD 0)::acc else acc)
theorem qKE {env:Env} :∀{names:List (Str×C40)} {acc:List (Str×Addr)},(∀x,(x,P8)∈names->∃c,env.cells.lookup x=some c)->(∀x c,acc.lookup x=some c->env.cells.lookup x=some c)->
  ∀x c,(qJ2 env names acc).lookup x=some c->env.cells.lookup x=some c
 |[],acc,_,ha,x,c,h=>ha x c h
 |(n,k)::r,acc,hf,ha,x,c,h=>by
  refine qKE (names:=r) (λy hy=>hf y (A7 _ hy)) (λy d hd=>?_) x c h
  split at hd
  ·rename_i hk
   have hk':k=P8:=by simpa using hk
   subst hk';obtain⟨e,he⟩:=hf n A8;by_cases hyn:y=n
   ·subst hyn;rw[R9,he] at hd;rw[he];exact hd
   ·rw[i6,beq_eq_false_iff_ne.mpr hyn] at hd;exact ha y d hd
  ·exact ha y d hd
theorem qKF {env:Env} :∀{names:List (Str×C40)} {acc:List (Str×Addr)} {x:Str},((x,P8)∈names\/∃c,acc.lookup x=some c)->∃c,(qJ2 env names acc).lookup x=some c
 |[],acc,x,h=>by
  rcases h with h|h
  ·exact absurd h (by simp)
  ·exact h
 |(n,k)::r,acc,x,h=>by
  refine qKF (names:=r) ?_;rcases h with h|⟨c,h⟩
  ·rcases B9.mp h with e|h
   ·cases e;refine .inr ⟨(env.cells.lookup n).getD 0,?_⟩;rw[if_pos (by rfl),R9]
   ·exact .inl h
  ·refine .inr ?_
   split
   ·by_cases hyn:x=n
    ·subst hyn;exact⟨_,R9⟩
    ·refine⟨c,?_⟩;rw[i6,beq_eq_false_iff_ne.mpr hyn];exact h
   ·exact⟨c,h⟩
theorem qKD {env:Env} (f:Str×C40->List (Str×Addr)->Sem (ForInStep (List (Str×Addr))))
  (hf:∀n k c,f (n,k) c=(if(k==P8)=true then(do let a <- cellOf env n;pure (Q5 ((n,a)::c))) else pure (Q5 c))):
  ∀(names:List (Str×C40)) (acc:List (Str×Addr)),(∀x,(x,P8)∈names->∃c,env.cells.lookup x=some c)->forIn names acc f=(pure (qJ2 env names acc):Sem _)
 |[],acc,_=>rfl
 |(n,k)::r,acc,h=>by
  have ih:=λacc=>qKD f hf r acc λx hx=>h x (A7 _ hx);rw[U1,hf];by_cases hk:(k==P8)=true
  ·have hk':k=P8:=by simpa using hk
   subst hk';obtain⟨c,hc⟩:=h n A8;rw[if_pos hk];unfold cellOf qJ2;rw[hc,if_pos hk];exact ih _
  ·rw[if_neg hk];unfold qJ2;rw[if_neg hk];exact ih _
theorem qRZ {a:Scope} {env:Env} (h:∀x,(x,P8)∈a.names->∃c,env.cells.lookup x=some c):closureFor a env=pure (qJ2 env a.names []):=by
 unfold closureFor;dsimp only;rw[qKD (env:=env) _ (λn k c=>?_) a.names [] h]
 ·rfl
 ·rfl
theorem qED {env:Env} {x:Str} :∀{names:List (Str×C40)},
  (names.map λ(n,k)=>if(k==P8&&env.scope.kind == .function&&env.kindOf n==some .cell)=true then(n,B69) else(n,k)).lookup x =
   (names.lookup x).map λk=>if(k==P8&&env.scope.kind == .function&&env.kindOf x==some .cell)=true then B69 else k
 |[]=>rfl
 |(n,k)::r=>by
  have ih:=@qED env x r;rw[D4];by_cases hx:x=n
  ·subst hx;dsimp only;rw[R9 (b:=k),X8]
   split
   ·rw[R9]
   ·rw[R9]
  ·have hb:(x==n)=false:=beq_eq_false_iff_ne.mpr hx;dsimp only;rw[i6 (k:=n) (b:=k),hb];dsimp only;rw[<- ih]
   split
   ·rw[i6,hb]
   ·rw[i6,hb]
structure LcZ where
 L:Addr
 cl:List (Str×Addr)
 ex:List Addr
 s₀:Shared
 H₀:Hp
noncomputable def lcCx (X:Cx)(scope:Scope)(own:List Str)(fv:List Nat)(z:LcZ):Cx where
 prog:=X.prog
 w:=X.w
 K:=X.K
 mg:=X.mg
 base:=X.base
 A:=X.A
 N:=own++fv.map λi=>X.N.getD i Z2
 s₀:=z.s₀
 H₀:=z.H₀
 env:=compEnvC scope z.cl z.L X.env
 outer:=X.stack
 stack:=X.stack
 ex:=z.ex
 fn:=λ_=>false
 calm:=X.calm
 pn:=[]
 xe:=noX
structure LcScope (X:Cx)(scope:Scope)(own:List Str)(fv:List Nat):Prop where
 kind:scope.kind=.function
 nocell:∀y∈scope.names,y.2≠.cell
 names:∀y∈scope.names,y.2=.local->scope.names.lookup y.1=some .local
 free:∀y∈scope.names,y.2=.free->X.env.kindOf y.1=some .cell\/X.env.kindOf y.1=some .free
 nd:(own++fv.map λi=>X.N.getD i Z2).Nodup
 fvs:∀i∈fv,i<X.N.length/\scope.names.lookup (X.N.getD i Z2)=some .free
def qK1 (own:List Str)(fv:List Nat)(σ:St):St:=(own.map λ_=>none)++fv.map λi=>(σ[i]?).join
theorem qO6 {R:Result->Shared->Prop} {g a e:Expr} {f:List Expr} {b:Scope} {j:Pos} {k acc:Value} {env:Env} (I:Nat->Shared->Prop)
  (i:∀ n s,I n s->wpAny (model prog w) A (pyNext k) (fun r s₁=>match r with
   |none=>R (.ok .next) s₁
   | some v=>wpAny (model prog w) A (C62 a k v) (fun _ s₁=>wpAny (model prog w) A (assign a env v) (fun _ s₂=>
     wpAny (model prog w) A (forIn f true fun c r=>if r=true then do let ok <- isTrue c env (eval c env);pure (Q5 ok) else pure (Q5 r)) (fun ok s₃=>
      if ok=true then wpAny (model prog w) A (eval g env) (fun x s₄=>
       wpAny (model prog w) A (call (.builtin "list.append") [acc,x]) (λ_ s₅=>∃m,m<n/\I m s₅) noX s₄) noX s₃
      else∃m,m<n/\I m s₃) noX s₂) noX s₁) noX s₁) noX s)
  (n:Nat) (h:I n s):
  C18 (model prog w) A (.compLoop (.ListComp g [⟨a,e,f,0⟩] b j) 0 k acc env) R s:=by
 refine codeAny_loop rfl I (λn s t=>?_) n h;show wpAny _ A ((compTurn (.ListComp g [⟨a,e,f,0⟩] b j) 0 k acc env).onRaise (λx=>do noteFrame x env;theTreesLotGoes x)) _ _ s
 refine wpAny_noted ?_;rw[compTurn_list];refine B87 (C42 (B87 (B96 (i n s t) (λr s₁ l=>?_) λ_ _ d=>d.elim)));cases r with
 |none=>exact B88 l
 |some v=>
  refine B87 (B96 l (λ_ s₁ l=>?_) λ_ _ d=>d.elim);refine B87 (B96 l (λ_ s₂ p=>B87 (B96 p (λok s₃ o=>?_) λ_ _ d=>d.elim)) λ_ _ d=>d.elim);cases ok with
  |false=>exact B88 ⟨rfl,o⟩
  |true=>
   exact B87 (B87 (B96 o (λx s₄ q=>B87 (B96 q (λ_ s₅ u=>B88 (B88 ⟨rfl,u⟩)) λ_ _ d=>d.elim)) λ_ _ d=>d.elim))
section
variable{X:Cx}{Ab:Aa2}{σ:St}{H:Hp}{s:Shared}
def Inv.other {h':Heap} {L:Addr} {n:Nat} (I:Inv X Ab σ H s)(a:X.s₀.heap.objs.size<=L)(f:H L=none)(h:L≠X.env.locals)(d:∀x c,X.env.cells.lookup x=some c->c≠L)(g:∀p∈X.pn++Ab,p.1≠L)
  (k:Heap.SameBut L s.heap h'):Inv X Ab σ H {s with heap:=h'}:=
 I.turned (t':=s.toks) (λb o a e=>(k.2 b a).trans e) f h (.inr a) d g
theorem qc2 {a:Scope} {own:List Str} {fv:List Nat} {m:List Addr} (I:Inv X Ab σ H s)(S:LcScope X a own fv)(i:∀b∈m,FpOk X Ab H b)(hsz:∀b∈m,b<s.heap.objs.size):
  (lcCx X a own fv ⟨s.heap.objs.size,qJ2 X.env a.names [],m,s,H⟩).Ok:=by
 have j:∀x,(x,P8)∈a.names->∃c,X.env.cells.lookup x=some c:=λx h=>I.ok.has x (S.free _ h rfl);have g:=qKE (env:=X.env) (names:=a.names) (acc:=[]) j (λx c z=>by simp at z)
 refine⟨I.ok.mod,S.kind,I.ok.glob,I.ok.blt,A9 _,λx y c q p=>I.ok.inj x y c (g _ _ q) (g _ _ p),λx h=>?_,λx c h=>?_,I.ok.hd,I.ok.frames,.inl rfl,λb f=>⟨?_,λx c e=>?_⟩,I.bs,L5 I.ok.bsz I.sz,λb o e f=>?_,λb f l=>?_,I.stack,I.stkFree⟩
 ·refine qKF (.inl ?_);have d:(relabel a X.env).names.lookup x=some .cell\/(relabel a X.env).names.lookup x=some .free:=h;unfold relabel at d;rw[qED] at d;cases e:a.names.lookup x with
  |none=>rw[e] at d;simp at d
  |some k=>
   have n:=R5 e;have r:=S.nocell _ n;rw[e] at d;simp only[X8,Y4.injEq] at d;cases k with
   |free=>exact n
   |cell=>exact absurd rfl r
   |_=>simp at d
 ·cases h
 ·exact D7 (hsz b f)
 ·exact(i b f).2.2.2.2.1 x c (g _ _ e)
 ·rcases(i b f).2.2.2.1 with z|z
  ·exact I.ok.noex b o e z
  ·exact absurd (F9 (B5 (I.ok.bs b o e).1) z) (Y5 _)
 ·rcases B9.mp (I.stkSub b l) with z|z
  ·exact(i b f).2.1 z
  ·exact(i b f).2.2.1 z
theorem qWI {a:Scope} {own:List Str} {fv:List Nat} {fp:List Addr} {h₁:Heap} {tk:Nat} (I:Inv X Ab σ H s)(S:LcScope X a own fv)(hf:∀b∈fp,FpOk X Ab H b)(hsz:∀b∈fp,b<s.heap.objs.size)
  (a0:h₁.Ns s.heap.objs.size (λ_=>none)) (r:∀b o,s.heap.get? b=some o->h₁.get? b=some o):
  Inv (lcCx X a own fv ⟨s.heap.objs.size,qJ2 X.env a.names [],fp,s,H⟩) [] (qK1 own fv σ) H {s with heap:=h₁,toks:=tk}:=by
 have a1:∀x,(x,P8)∈a.names->∃c,X.env.cells.lookup x=some c:=λx hx=>I.ok.has x (S.free _ hx rfl);have h:=qKE (env:=X.env) (names:=a.names) (acc:=[]) a1 (λx c z=>by simp at z)
 refine⟨qc2 I S hf hsz,rfl,I.bare,Un.kept r,⟨_,a0,λi x v f d h3=>?_⟩,λx c e=>?_,I.hok.fresh (A9 _),λx c e=>I.freeC x c (h _ _ e),λp hp=>absurd (show p∈([]:Aa2) from hp) (by simp),I.hok.kept r,?_⟩
 ·have f:(own++fv.map λi=>X.N.getD i Z2)[i]?=some x:=f;unfold qK1 at d;have t:own.length<=i:=by
   apply w6;intro t;rw[F4 (by simpa using t),C0] at d
   cases e:own[i]? with
   |none=>rw[e] at d;cases d
   |some z=>rw[e] at d;cases d
  rw[E1 (by simpa using t),A0,C0] at d
  rw[E1 t,C0] at f;cases e:fv[i-own.length]? with
  |none=>rw[e] at f;cases f
  |some j=>
   rw[e] at f d;have hj:=S.fvs j (B3 e);have f:X.N.getD j Z2=x:=G0 f;have d:(σ[j]?).join=some v:=G0 d;have w:σ[j]?=some (some v):=by
    cases q:σ[j]? with
    |none=>rw[q] at d;cases d
    |some y=>rw[q] at d;exact congrArg some d
   have hx:X.N[j]?=some x:=by
    rw[M9] at f;rw[A5 hj.1] at f ⊢;exact congrArg some f
   have k:a.names.lookup x=some .free:=f ▸ hj.2;have g:=R5 k;obtain ⟨m,hn,hl⟩:=id I.loc;have l:=S.free _ g rfl;obtain ⟨u,ru,lk⟩:=hl j x v hx w (by
    rcases l with z|z
    ·exact .inr (.inl z)
    ·exact .inr (.inr z))
   refine⟨u,ru,?_⟩;rcases lk with⟨z,_⟩|⟨_,c,e1,z⟩
   ·rcases l with y|y
    ·have n:X.env.kindOf x=some .cell:=y;rw[z] at n;cases n
    ·have n:X.env.kindOf x=some .free:=y;rw[z] at n;cases n
   ·obtain⟨c',e2⟩:=qKF (env:=X.env) (names:=a.names) (acc:=[]) (x:=x) (.inl g);have e3:=h _ _ e2;rw[e1] at e3;cases e3;obtain⟨o,ho,hd⟩:=z;refine .inr ⟨?_,c,e2,o,r _ _ ho,hd⟩;show(relabel a X.env).names.lookup x=some .cell\/(relabel a X.env).names.lookup x=some .free;unfold relabel;rw[qED,k,X8]
    split
    ·exact .inl rfl
    ·exact .inr rfl
 ·obtain⟨v,o,ho,hd⟩:=I.cell x c (h _ _ e);exact⟨v,o,r _ _ ho,hd⟩
 ·unfold qK1;show _=(own++fv.map λi=>X.N.getD i Z2).length;rw[B0,B0,A0,A0,A0]
def qZQ {c:Scope} {own:List Str} {fv:List Nat} {f:List Addr} {a:Aa2} {σ':St} {H':Hp} {g:List (Str×Addr)} (I:Inv X Ab σ H s)(e:∀b∈f,FpOk X Ab H b)
  (J:Inv (lcCx X c own fv ⟨s.heap.objs.size,g,f,s,H⟩) a σ' H' s'):Inv X Ab σ H' s':=
 I.call' (ch:=f) J.os J.base J.hok J.bare λb d=>⟨(e b d).2.2.2.1,(e b d).2.1,(e b d).2.2.2.2.1,(e b d).2.2.2.2.2⟩
end
def PTs (X:Cx)(ifs:List Expr)(t:TT):Prop:=
 ∀(Ab:Aa2) (s:Shared) (σ:St) (H:Hp) (Q:Bool->Hp->Prop),Inv X Ab σ H s->t σ H Q->
  wpAny (model X.prog X.w) X.A (forIn ifs true λc r=>if r=true then do let ok <- isTrue c X.env (eval c X.env);pure (Q5 ok) else pure (Q5 r)) (TP X Ab σ Q) X.xe s
def qcY:TT:=λ_ H Q=>Q true H
def qAW {X:Cx} :PTs X [] qcY:=λa s σ H Q I h=>wpAny_tests_nil ⟨H,I,h⟩
def qZ1 {X:Cx} {c:Expr} {t:TT} (h:PT X c t):PTs X [c] t:=λb s σ H Q I a=>wpAny_tests_one (h b s σ H Q I a)
def qc3 (own:List Str)(fv:List Nat)(wi:TI)(g:TG)(tc:TT)(te:TE)(K:Addr->Hp->Prop):St->Hp->Prop:=λσ H=>wi σ H λJ H1=>∀p,H1 p=none->
 ∃W:Nat->Nat->St->Hp->Prop,(∃m,W 0 m (qK1 own fv σ) (Ag H1 p (.lst [])))/\∀i m σ H,W i m σ H->
  (J.stop i H/\K p H)\/(J.go i H/\∃ N:St->Hp->Prop,(∀ σ' H',N σ' H'->∃ m',m'<m/\W (i+1) m' σ' H')/\∀ x H',J.yld i H x H'->g x σ H' fun σ2 H2=>tc σ2 H2 fun b H3=>
   if b=true then te σ2 H3 λy H4=>∃ys,H4 p=some (.lst ys)/\ys.length<B89/\N σ2 (Ag H4 p (.lst (ys++[y])))
   else N σ2 H3)
def tLc (own:List Str)(fv:List Nat)(wi:TI)(g:TG)(tc:TT)(te:TE):TE:=λσ H Q=>qc3 own fv wi g tc te (λp H'=>Q (.ref p) H') σ H
section
variable{X:Cx}{tg iter elt:Expr}{ifs:List Expr}{scope:Scope}{pos:Pos}{own:List Str}{fv:List Nat}{wi:TI}{g:TG}{tc:TT}{te:TE}
theorem qU4 {Ab:Aa2} {σ:St} {H:Hp} {K:Addr->Hp->Prop} {use:Option (Value->Sem Unit)} {Q:Aa1} (hc:X.calm=true)(S:LcScope X scope own fv)(hi:PI X tg iter wi)
  (hg:∀z,PG (lcCx X scope own fv z) tg g) (ht:∀z,PTs (lcCx X scope own fv z) ifs tc) (he:∀z,PE (lcCx X scope own fv z) elt te)
  (I:Inv X Ab σ H s) (h:qc3 own fv wi g tc te K σ H) (a9:∀e s,X.xe e s->E e s)
  (am:∀ (p:Addr) (L:Addr) (H':Hp) (s':Shared) (m:Ab0),Inv X Ab σ H' s'->K p H'->s'.heap.Ns L m->X.s₀.heap.objs.size<=L->H' L=none->L ≠ X.env.locals->(∀ x c,X.env.cells.lookup x=some c->c ≠ L)->(∀ q ∈ X.pn++Ab,q.1 ≠ L)->
   compPost (model X.prog X.w) X.A E use Q (.ref p) L (.ok .next) s') (hs:∀x,C54 iter X.env x=pure x:=by intro _;rfl):
  wpAny (model X.prog X.w) X.A (comprehension (.ListComp elt [⟨tg,iter,ifs,0⟩] scope pos) scope X.env (firstIterPos [⟨tg,iter,ifs,0⟩] pos) (newList []) false (eval iter X.env) use) Q E s:=by
 have al:∀x,(x,P8)∈scope.names->∃c,X.env.cells.lookup x=some c:=λx hx=>I.ok.has x (S.free _ hx rfl);refine wpAny_comprehension_free rfl hs (qRZ al) S.kind S.names (B96 (hi Ab s σ H _ I h) (λv s1 h1=>B96 h1 (λap j h2=>?_) a9) a9);obtain⟨it,k,tn,J,H2,e,I2,T,ac,f2,q2⟩:=h2;subst e
 -- the list
 refine B98 ?_;have a3:H2 j.heap.objs.size=none:=I2.hok.fresh (A9 _);have I3:Inv X Ab σ (Ag H2 j.heap.objs.size (.lst [])) {j with heap:=j.heap.push {cls:=.type "list",dict:=none,data:=.seq ([]:List Value).toArray}}:=
  I2.laid (t':=j.toks) (λb u e=>A4 _ e) (A9 _) ⟨G6 _,[],0,.nil,B7 _ rfl⟩
 obtain⟨W,⟨m0,w0⟩,aa⟩:=q2 j.heap.objs.size a3;have ab:∀b∈k,b<j.heap.objs.size:=λb a=>by
  obtain⟨o,e,_⟩:=T.obj 0 _ ac b a;exact B5 e
 have f3:∀b∈k,FpOk X Ab (Ag H2 j.heap.objs.size (.lst [])) b:=λb a=>⟨by rw[qA8 (D7 (ab b a))];exact(f2 b a).1,(f2 b a).2⟩
 generalize hp:j.heap.objs.size=p at *;generalize hH3:Ag H2 p (.lst [])=H3 at *;have an:tn 0 (j.heap.push {cls:=.type "list",dict:=none,data:=.seq ([]:List Value).toArray}):=T.keep _ _ _ ac λb _ o e=>A4 _ e;have ao:∀b∈k,b<(j.heap.push {cls:=.type "list",dict:=none,data:=.seq ([]:List Value).toArray}).objs.size:=λb a=>by
  rw[M7];have:=ab b a;rw[hp];exact O2 this
 generalize hs3:({j with heap:=j.heap.push {cls:=.type "list",dict:=none,data:=.seq ([]:List Value).toArray}}:Shared)=f at *;have ag:tn 0 f.heap:=by rw[<- hs3];exact an
 have a5:∀b∈k,b<f.heap.objs.size:=by rw[<- hs3];exact ao
 -- the block's frame
 refine wpAny_newFunctionEnv S.nocell (by intro y hy;simp at hy) (λh₁ ah ai=>?_) S.kind
 have t:∀b o,f.heap.get? b=some o->h₁.get? b=some o:=λb o e=>ai.extBut b o (D7 (B5 e)) (A4 _ e);have J0:Inv (lcCx X scope own fv ⟨f.heap.objs.size,qJ2 X.env scope.names [],k,f,H3⟩) [] (qK1 own fv σ) H3 {f with heap:=h₁,toks:=f.toks+([]:List (Str×Value)).length}:=qWI I3 S f3 a5 ah t;have a7:=qc2 I3 S f3 a5;generalize hz:(⟨f.heap.objs.size,qJ2 X.env scope.names [],k,f,H3⟩:LcZ)=z at *;have a0:tn 0 h₁:=T.keep _ _ _ ag λb _ o e=>t b o e;have a4:∀b∈k,H3 b=none:=λb a=>(f3 b a).1;have l:∀{H':Hp},(∀b∈k,H' b=none)->∀b∈k,FpOk (lcCx X scope own fv z) [] H' b:=λhn b a=>by
  subst hz;refine⟨hn b a,(a7.exf b a).1,a7.exfs b a,.inl a,(a7.exf b a).2,λq hq=>absurd (show q∈([]:Aa2) from hq) (by simp)⟩
 have ad:({newEnv scope f.heap.objs.size X.env.globals (qJ2 X.env scope.names []) X.env.qual none .none (some X.env) builtinsNs with scope:=relabel scope X.env}:Env)=(lcCx X scope own fv z).env:=by
  subst hz
  rfl
 have a6:∀sA:Shared,sA={f with heap:=h₁,toks:=f.toks+([]:List (Str×Value)).length}->C18 (model X.prog X.w) X.A (.compLoop (.ListComp elt [⟨tg,iter,ifs,0⟩] scope pos) 0 (.ref it) (.ref p) (lcCx X scope own fv z).env)
   (compPost (model X.prog X.w) X.A E use Q (.ref p) f.heap.objs.size) sA:=by
  rintro sA rfl;refine qO6 (λn s'=>∃i σ' H',Inv (lcCx X scope own fv z) [] σ' H' s'/\tn i s'.heap/\(∀b∈k,H' b=none)/\W i n σ' H') ?_ m0 ⟨0,_,H3,J0,a0,a4,w0⟩;rintro n s4 ⟨i,σ4,H4,I4,a0,a4,w4⟩;rcases aa i n σ4 H4 w4 with⟨af,qn⟩|⟨go,Nx,a8,ae⟩
  ·refine thn (T.done (lcCx X scope own fv z) rfl rfl rfl hc i [] s4 σ4 H4 noX I4 (l a4) a0 af) λr s5 ⟨hr,I5⟩=>?_;subst hr;subst hz;have I6:Inv X Ab σ H4 s5:=qZQ I3 f3 I5;obtain⟨m,hn,_⟩:=id I5.loc;have a2:=I3.fpOk (H':=H4) (b:=f.heap.objs.size) (A9 _) I5.free;refine am p f.heap.objs.size H4 s5 m I6 qn hn I3.sz a2.1 a2.2.1 a2.2.2.2.2.1 a2.2.2.2.2.2
  ·refine thn (T.item (lcCx X scope own fv z) rfl rfl rfl hc i [] s4 σ4 H4 noX I4 (l a4) a0 go) λr s5 ⟨u,hr,h5⟩=>?_;subst hr;refine thn h5 λ_ s6 ⟨x,H6,I6,r6,y6,st6,fr6⟩=>?_;have aj:=I6.pinned (l fr6) (T.obj _ _ st6);have a1:∀{σ7:St} {H7:Hp} {s7:Shared} {m':Nat},m'<n->Inv (lcCx X scope own fv z) ([]++qNF k s6.heap) σ7 H7 s7->W (i+1) m' σ7 H7->
     ∃m,m<n/\∃i σ' H',Inv (lcCx X scope own fv z) [] σ' H' s7/\tn i s7.heap/\(∀b∈k,H' b=none)/\W i m σ' H':=λ{σ7 H7 s7 m'} hm I7 w7=>by
    refine⟨m',hm,i+1,σ7,H7,I7.unpinned,T.keep _ _ _ st6 λb a o e=>(I7.pin (b,o) (F6 _ (F6 _ (qG2 a e)))).1,λb a=>?_,w7⟩;obtain⟨o,e,d⟩:=T.obj _ _ st6 b a;exact(I7.pin (b,o) (F6 _ (F6 _ (qG2 a e)))).2.1
   refine thn (hg z _ s6 σ4 H6 x u _ aj r6 (ae x H6 y6)) λ_ s7 ⟨σ7,H7,I7,q7⟩=>thn (ht z _ s7 σ7 H7 _ I7 q7) λb s8 ⟨H8,I8,q8⟩=>?_;cases b with
   |false=>
    obtain⟨m',hm,w8⟩:=a8 _ _ q8;exact a1 hm I8 w8
   |true=>
    refine thn (he z _ s8 σ7 H8 _ I8 q8) λv s9 ⟨y,H9,I9,r9,ys,ep,hl,w9⟩=>thn (qB0 (X:=lcCx X scope own fv z) _ s9 σ7 H9 (.ref p) [y] (.ref p) [v] (λ_ H'=>Nx σ7 H') I9 rfl (.cons r9 .nil) ⟨p,ys,y,rfl,rfl,ep,hl,w9⟩) λ_ s10 ⟨_,H10,I10,_,q10⟩=>?_;obtain⟨m',hm,ak⟩:=a8 _ _ q10;exact a1 hm I10 ak
 rw[ad];exact codeAny_compStart_list (a6 _ rfl) (T.self _ _ _ _ _ a0 (a6 _ rfl))
theorem qDA (u:X.calm=true)(S:LcScope X scope own fv)(hi:PI X tg iter wi)(e:∀z,PG (lcCx X scope own fv z) tg g)(t:∀z,PTs (lcCx X scope own fv z) ifs tc)(d:∀z,PE (lcCx X scope own fv z) elt te)
  (i:∀x,C54 iter X.env x=pure x:=by intro _;rfl):PE X (.ListComp elt [⟨tg,iter,ifs,0⟩] scope pos) (tLc own fv wi g tc te):=by
 intro v s σ H Q I h;rw[eval_ListComp];refine qU4 (use:=none) (K:=λp a=>Q (.ref p) a) u S hi e t d I h (λ_ _ q=>q) (λp L a y m j q l o c r f k=>?_) i;exact⟨m,l,λw b=>⟨.ref p,a,j.other (n:=0) o c r f k b,rfl,q⟩⟩
theorem qZ3 {i:Nat} {x:Str} {b c:Pos} (w:X.N.Nodup)(hx:X.N[i]?=some x)(r:X.env.scope.names.lookup x=some .local)(hc:X.calm=true)(S:LcScope X scope own fv)(hi:PI X tg iter wi)(u:∀z,PG (lcCx X scope own fv z) tg g)
  (ht:∀z,PTs (lcCx X scope own fv z) ifs tc) (he:∀z,PE (lcCx X scope own fv z) elt te) (l:swapsWith (.ListComp elt [⟨tg,iter,ifs,0⟩] scope pos) (some (.Name x b)) c.line X.env=pure true)
  (hs:∀x,C54 iter X.env x=pure x:=by intro _;rfl):PS X (.Assign [.Name x b] (.ListComp elt [⟨tg,iter,ifs,0⟩] scope pos) c) (tAsg (tLc own fv wi g tc te) (qUL i)):=by
 intro Ab s σ H D I h;rw[exec_Assign_Name_used _ _ _ _ l];refine B87 (C42 (B87 ?_));show wpAny _ X.A (do let _ <- comprehension (.ListComp elt [⟨tg,iter,ifs,0⟩] scope pos) scope X.env _ (newList []) false (eval iter X.env) (some (assign (.Name x b) X.env))) _ _ s
 refine B87 (B96 (qU4 (use:=some (assign (.Name x b) X.env)) (K:=fun p d=>D.nx (σ.set i (some (.ref p))) d) (Q:=fun _ k=>SP X Ab D .next k) (E:=X.xe) hc S hi u ht he I h (fun _ _ q=>q) (fun p L d k m I' q hn h1 h2 t o h5=>?_) hs)
  (λ_ k hq=>B88 (B88 hq)) λ_ _ e=>e)
 show wpAny _ X.A (assign (.Name x b) X.env (.ref p)) _ _ _;refine wpAny_assign_Name (qMY (v:=.ref p) I' w hx (.inl r) rfl (λs2 I2 ⟨a,hsb,ha⟩=>?_) (.inr r));have j:L≠a:=by
  rcases ha with z|z
  ·rw[z];exact t
  ·exactλy=>o x a z y.symm
 exact⟨m,hn.sameBut hsb j,λh' f=>⟨_,d,I2.other (n:=0) h1 h2 t o h5 f,q⟩⟩
end
abbrev LcG (I:It)(g:TG)(tc:TT)(te:TE)(Kf:Hp->Prop)(σ0:St)(H0:Hp)(p:Addr):Prop:=∃W:Nat->Nat->St->Hp->Prop,(∃m,W 0 m σ0 H0)/\∀i m σ H,W i m σ H->(I.stop i H/\Kf H)\/(I.go i H/\∃N:St->Hp->Prop,(∀σ' H',N σ' H'->∃m',m'<m/\W (i+1) m' σ' H')/\∀x H',I.yld i H x H'->g x σ H' λσ2 H2=>tc σ2 H2 λb H3=>if b=true then te σ2 H3 λy H4=>∃ys,H4 p=some (.lst ys)/\ys.length<B89/\N σ2 (Ag H4 p (.lst (ys++[y]))) else N σ2 H3)
theorem qJF {lo:Int} {n:Nat} {g:TG} {c:TT} {d:TE} {Kf:Hp->Prop} {σ0:St} {H0:Hp} {p:Addr} (Pv:Nat->St->Hp->Prop)(h:Pv 0 σ0 H0)
  (j:∀i σ H,i<n->Pv i σ H->g (.int (lo+i)) σ H λσ2 H2=>c σ2 H2 λb H3=>if b=true then d σ2 H3 λy H4=>∃ys,H4 p=some (.lst ys)/\ys.length<B89/\Pv (i+1) σ2 (Ag H4 p (.lst (ys++[y]))) else Pv (i+1) σ2 H3)
  (l:∀σ H,Pv n σ H->Kf H):
  LcG (Itr lo n) g c d Kf σ0 H0 p:=by
 refine⟨λi m σ H=>m=n-i/\i<=n/\Pv i σ H,⟨n,by simp,G6 _,h⟩,?_⟩
 rintro i m σ H ⟨rfl,hi,q⟩;by_cases a:i<n
 ·refine .inr ⟨a,Pv (i+1),λσ' f k=>⟨n-(i+1),by omega,rfl,a,k⟩,λx f y=>?_⟩
  obtain⟨e,y⟩:=y;subst e y;exact j i σ _ a q
 ·have e:i=n:=by omega
  subst e;exact .inl ⟨A9 _,l σ H q⟩
theorem qDT {K:Ab1} {a:Addr} {xs:List V} {g:TG} {f:TT} {h:TE} {Kf:Hp->Prop} {σ0:St} {H0:Hp} {p:Addr} (Pv:Nat->St->Hp->Prop)(k:Pv 0 σ0 H0)(n:∀i σ H,i<=xs.length->Pv i σ H->SqL K H a xs)
  (l:∀i x σ H,xs[i]?=some x->Pv i σ H->g x σ H λσ2 H2=>f σ2 H2 λb H3=>if b=true then h σ2 H3 λy H4=>∃ys,H4 p=some (.lst ys)/\ys.length<B89/\Pv (i+1) σ2 (Ag H4 p (.lst (ys++[y]))) else Pv (i+1) σ2 H3)
  (r:∀σ H,Pv xs.length σ H->Kf H):
  LcG (Itl K a) g f h Kf σ0 H0 p:=by
 refine⟨λi m σ H=>m=xs.length-i/\i<=xs.length/\Pv i σ H,⟨xs.length,by simp,G6 _,k⟩,?_⟩
 rintro i m σ H ⟨rfl,hi,q⟩;have d:=n i σ H hi q;by_cases c:i<xs.length
 ·refine .inr ⟨⟨xs,xs[i],d,by simp[c]⟩,Pv (i+1),λσ' j o=>⟨xs.length-(i+1),by omega,rfl,c,o⟩,λx j y=>?_⟩
  obtain⟨e,y⟩:=y;subst e;exact l i x σ _ (y xs d) q
 ·have e:i=xs.length:=by omega
  subst e;exact .inl ⟨⟨xs,d,A9 _⟩,r σ H q⟩
theorem qGE {K:Ab1} {a:Addr} {xs:List V} {g:TG} {f:TT} {h:TE} {Kf:Hp->Prop} {σ0:St} {H0:Hp} {p:Addr} (Pv:Nat->St->Hp->Prop)(k:Pv 0 σ0 H0)(n:∀i σ H,i<=xs.length->Pv i σ H->SqT K H a xs)
  (l:∀i x σ H,xs[i]?=some x->Pv i σ H->g x σ H λσ2 H2=>f σ2 H2 λb H3=>if b=true then h σ2 H3 λy H4=>∃ys,H4 p=some (.lst ys)/\ys.length<B89/\Pv (i+1) σ2 (Ag H4 p (.lst (ys++[y]))) else Pv (i+1) σ2 H3)
  (r:∀σ H,Pv xs.length σ H->Kf H):
  LcG (Itt K a) g f h Kf σ0 H0 p:=by
 refine⟨λi m σ H=>m=xs.length-i/\i<=xs.length/\Pv i σ H,⟨xs.length,by simp,G6 _,k⟩,?_⟩
 rintro i m σ H ⟨rfl,hi,q⟩;have d:=n i σ H hi q;by_cases c:i<xs.length
 ·refine .inr ⟨⟨xs,xs[i],d,by simp[c]⟩,Pv (i+1),λσ' j o=>⟨xs.length-(i+1),by omega,rfl,c,o⟩,λx j y=>?_⟩
  obtain⟨e,y⟩:=y;subst e;exact l i x σ _ (y xs d) q
 ·have e:i=xs.length:=by omega
  subst e;exact .inl ⟨⟨xs,d,A9 _⟩,r σ H q⟩
noncomputable def qU5 (scope:Scope)(own:List Str)(fv:List Nat)(osc:Scope)(N:List Str):Bool:=
 decide (scope.kind=.function)&&scope.names.all (λy=>decide (y.2≠.cell))&&scope.names.all (λy=>decide (y.2≠.local)||decide (scope.names.lookup y.1=some .local)) &&
 scope.names.all (λy=>decide (y.2≠.free)||(decide (osc.names.lookup y.1=some .cell)||decide (osc.names.lookup y.1=some .free)))&&decide ((own++fv.map λi=>N.getD i Z2).Nodup) &&
 fv.all λi=>decide (i<N.length)&&decide (scope.names.lookup (N.getD i Z2)=some .free)
theorem lcs {X:Cx} {a:Scope} {own:List Str} {fv:List Nat} (h:qU5 a own fv X.env.scope X.N=true):LcScope X a own fv:=by
 unfold qU5 at h;simp only[C6,decide_eq_true_eq,F5,A70] at h;obtain⟨⟨⟨⟨⟨i,c⟩,g⟩,d⟩,f⟩,j⟩:=h;exact⟨i,c,λy b e=>(g y b).resolve_left λz=>z e,λy b e=>(d y b).resolve_left λz=>z e,f,j⟩
def qdK {N:List Str} (h:decide N.Nodup=true):N.Nodup:=of_decide_eq_true h
theorem qJU {X:Cx} {K:Ab1} {es:List Expr} {k n:Nat} {t:TGs} {b:Pos} (e:X.K=K)(d:X.calm=true)(h:PGs X es t)(c:(C39 es X.env).length=n)(a:(C39 es X.env).findIdx? (·.1)=none):PG X (.Tuple es k b) (gTup K n t):=by
 subst e c;exact qL9 d h rfl a
theorem qZ6 {X:Cx} {K:Ab1} {b l:Expr} {a:TE} (d:X.K=K)(c:PE X l a):PI X b l (iTup K a):=by subst d;exact qCT c
theorem qP4 {X:Cx} {K:Ab1} (a:X.K=K):IxR X (rIxT K):=by subst a;exact qBB
theorem qQM {X:Cx} {K:Ab1} (a:X.K=K):IxR X (rIxL K):=by subst a;exact qCL
theorem qTN {X:Cx} {K:Ab1} (a:X.K=K):OpR X (C03 .In) (rIn K false):=by subst a;exact qNK
theorem qTL {X:Cx} {K:Ab1} (a:X.K=K):OpR X (C03 .NotIn) (rIn K true):=by subst a;exact qD4
theorem qEM {X:Cx} {K:Ab1} (a:X.K=K):qCQ X (.builtin "len") (λxs H Q=>∃p ys,xs=[.ref p]/\(SqL K H p ys\/SqT K H p ys)/\Q (.int ys.length) H):=by subst a;exact qAD
theorem qS4 {X:Cx} {K:Ab1} (a:X.K=K):qCQ X (.type "list") (λxs H Q=>∃p ys,xs=[.ref p]/\(SqL K H p ys\/SqT K H p ys)/\∀l,H l=none->Q (.ref l) (Ag H l (.lst ys))):=by subst a;exact qIS
theorem qKG {X:Cx} {K:Ab1} (a:X.K=K):qCQ X (.type "tuple") (λxs H Q=>∃p ys,xs=[.ref p]/\((SqL K H p ys/\∀l,H l=none->Q (.ref l) (Ag H l (.tup ys)))\/(SqT K H p ys/\Q (.ref p) H))):=by subst a;exact qAZ
theorem qMQ {xs:Array Nat} {j:Nat} (up:∀a b,a<b->b<xs.size->xs.getD a j<xs.getD b j):∀(fuel lo hi:Nat),lo<=hi->hi<=xs.size->hi-lo<=fuel->(∀i,i<lo->xs.getD i j<j)->(∀i,hi<=i->i<xs.size->j<=xs.getD i j)->
  o5 xs j fuel lo hi<=xs.size/\(∀i,i<o5 xs j fuel lo hi->xs.getD i j<j)/\(∀i,o5 xs j fuel lo hi<=i->i<xs.size->j<=xs.getD i j)
 |0,lo,hi,h1,h2,h3,a,b=>by
  have e:lo=hi:=by lia
  subst e;exact⟨h2,a,b⟩
 |fuel+1,lo,hi,h1,h2,h3,a,b=>by
  unfold o5;by_cases hlt:lo<hi
  ·rw[if_pos hlt];dsimp only;have hm1:lo<=(lo+hi)/2:=by lia
   have hm2:(lo+hi)/2<hi:=by lia
   by_cases hc:xs.getD ((lo+hi)/2) j<j
   ·rw[if_pos hc];refine qMQ up fuel _ _ (by lia) h2 (by lia) (λi hi'=>?_) b
    by_cases e:i=(lo+hi)/2
    ·rw[e];exact hc
    ·exact A16 (up i ((lo+hi)/2) (by lia) (by lia)) hc
   ·rw[if_neg hc];refine qMQ up fuel _ _ (by lia) (by lia) (by lia) a (λi hi' hs=>?_)
    by_cases e:i=(lo+hi)/2
    ·rw[e];lia
    ·have:=up ((lo+hi)/2) i (by lia) hs
     lia
  ·rw[if_neg hlt];have e:lo=hi:=by lia
   subst e;exact⟨h2,a,b⟩
theorem qYJ {xs:Array Nat} (j:Nat)(h:xs.toList.Pairwise (·<·)):∀a b,a<b->b<xs.size->xs.getD a j<xs.getD b j:=λa b c d=>by
 have:=P2.mp h a b (by simpa using A16 c d) (by simpa using d) c
 rw[G4,G4,D0 (A16 c d),D0 d];simpa using this
theorem qIG {xs:Array Nat} {j:Nat} (h:xs.toList.Pairwise (·<·)):G1 xs j<=xs.size/\(∀i,i<G1 xs j->xs.getD i j<j)/\(∀i,G1 xs j<=i->i<xs.size->j<=xs.getD i j):=by
 unfold G1;exact qMQ (qYJ j h) xs.size 0 xs.size (G6 _) (A9 _) (by lia) (λi a=>absurd a (by lia)) (λi a b=>absurd b (by lia))
theorem qDW {α:Type} (xs:Array α)(p:Nat)(x:α):(J8 xs p x).toList=xs.toList.take p++x::xs.toList.drop p:=by
 unfold J8;simp[Array.toList_extract,F7]
structure T7 (byText:Bool)(t:C16)(n:Nat):Prop where
 mask:t.mask=7
 dum:t.dummies=#[]
 plain:t.plain=true
 led:t.led=!byText
 size:t.place.size=n
 up:t.place.toList.Pairwise (·<·)
 le:∀j∈t.place.toList,j<=7
section
variable{byText:Bool}{t:C16}{n:Nat}
def pr (i pt:Nat):SetTable.Probe:={j:=i,more:=0,i:=i,perturb:=pt,dummy:=none}
end
theorem qLN {α:Type} :∀(l:List α) (i:Nat) (h:i<l.length),(l[i]::l.eraseIdx i).Perm l
 |[],i,h=>absurd h (by simp)
 |a::r,0,h=>.refl _
 |a::r,i+1,h=>by
  have hi:i<r.length:=by simpa using h
  have ih:=qLN r i hi;show(r[i]::a::r.eraseIdx i).Perm (a::r);exact(List.Perm.swap _ _ _).trans (ih.cons a)
theorem qTA {α:Type} (next:Nat->Nat):∀(fuel k:Nat) (left:List α) (out:Array α),fuel=left.length->(B27 next fuel k left out).toList.Perm (out.toList++left)
 |0,k,left,out,h=>by
  have:left=[]:=Y8.mp h.symm;subst this;unfold B27;simp
 |fuel+1,k,left,out,h=>by
  have hl:0<left.length:=by lia
  have hm:next k%left.length<left.length:=o6 _ hl;unfold B27;rw[A5 hm];dsimp only;refine(qTA next fuel (k+1) _ _ (by rw[List.length_eraseIdx_of_lt hm];lia)).trans ?_
  rw[X9,J4];exact u7 _ (qLN left _ hm)
theorem qT9 {α:Type} (next:Nat->Nat)(xs:Array α):(pickOrder next xs).toList.Perm xs.toList:=by
 unfold pickOrder;have:=qTA next xs.size 0 xs.toList #[] (by simp)
 simpa using this
abbrev Ents:List Int->List (Int×Value)->Prop:=Paired λk e=>∃tk,e=(hashInt k,R4 k tk)
theorem Ents.perm:∀{es es':List (Int×Value)} {ks:List Int},Ents ks es->es'.Perm es->∃ks',Ents ks' es'/\ks'.Perm ks:=by
 intro es es' ks h p;have e:∀{a b:List (Int×Value)},a.Perm b->∀ks,Ents ks b->∃ks',Ents ks' a/\ks'.Perm ks:=by
  intro a b p
  induction p with
  |nil=>intro ks h;exact⟨ks,h,.refl _⟩
  |cons x p ih=>
   intro ks h;cases h with
   |cons r t=>
    obtain⟨ks',d,c⟩:=ih _ t;exact⟨_::ks',.cons r d,c.cons _⟩
  |swap x y l=>
   intro ks h;cases h with
   |cons r t=>
    cases t with
    |cons r' t'=>exact⟨_,.cons r' (.cons r t'),.swap _ _ _⟩
  |trans p q ih1 ih2=>
   intro ks h;obtain⟨j,d,c⟩:=ih2 ks h;obtain⟨g,i,f⟩:=ih1 j d;exact⟨g,i,f.trans c⟩
 exact e p ks h
theorem Ents.elems {es:List (Int×Value)} {ks:List Int} (h:Ents ks es):ElemsOf (C38 prog w) es:=by
 intro e a;have b:∀{ks:List Int} {es:List (Int×Value)},Ents ks es->∀e∈es,∃k tk,e=(hashInt k,R4 k tk):=by
  intro ks es h
  induction h with
  |nil=>intro e a;cases a
  |cons r t ih=>
   intro e a;rcases B9.mp a with z|z
   ·subst z;obtain⟨tk,e⟩:=r;exact⟨_,tk,e⟩
   ·exact ih e z
 obtain⟨k,tk,rfl⟩:=b h e a;exact⟨⟨k,by simp[C38,A39],rfl⟩,rfl⟩
theorem Ents.find {k:Int} :∀{es:List (Int×Value)} {ks:List Int},Ents ks es->((B70 (λe=>(C38 prog w).is k e.2) es).isSome=true↔k∈ks)
 |_,_,.nil=>by simp
 |_,_,.cons r t=>by
  obtain⟨tk,rfl⟩:=r
  rename_i k' ks' es'
  have ih:=Ents.find (prog:=prog) (w:=w) (k:=k) t;rw[List.findIdx?_cons,B9];have hi:(C38 prog w).is k (R4 k' tk)=decide (k=k'):=by
   by_cases e:k=k'
   ·simp[C38,A39,e]
   ·have e':¬k'=k:=λz=>e z.symm;simp[C38,A39,e,e']
  dsimp only;rw[hi];by_cases e:k=k'
  ·simp[e]
  ·simp only[e,decide_false,O8,if_false,false_or,P7];exact ih
def byT (w:World):Bool:=w.params.followText "set-order"
def SetI (w:World)(a:Addr)(zs:List Int)(h:Heap):Prop:=
 ∃(es:Array (Int×Value)) (ep:Nat) (t:C16) (ks:List Int),h.get? a=some {cls:=.type "set",data:=.set es ep t}/\T7 (byT w) t es.size/\Ents ks es.toList/\ks.Perm zs/\zs.Nodup/\zs.length<=4
def addI (zs:List Int)(k:Int):List Int:=if k∈zs then zs else zs++[k]
variable{prog:B90}{w:World}{A:Around}{E:Aa1}{s:Shared}
theorem SetI.size {a:Addr} {zs:List Int} {h:Heap} {es:Array (Int×Value)} {ks:List Int} (c:Ents ks es.toList)(b:ks.Perm zs):es.size=zs.length:=by
 rw[<- b.length_eq,B4 c,C4]
def dedI:List Int->List Int:=λl=>l.foldl addI []
theorem qX9 (zs:List Int)(k:Int):(addI zs k).length<=zs.length+1:=by
 unfold addI
 split<;>simp
theorem qEF:∀(l zs:List Int),(l.foldl addI zs).length<=zs.length+l.length
 |[],zs=>by simp
 |k::r,zs=>by
  have h1:=qEF r (addI zs k);have h2:=qX9 zs k;rw[X6,C9]
  lia
noncomputable abbrev freshSet (w:World):Obj:={cls:=.type "set",dict:=none,data:=.set #[] 0 (.fresh 0 0 (!byT w))}
theorem qT1 (a:Value){Q₁:Aa1}(h:Q₁ (.ref s.heap.objs.size) {s with heap:=s.heap.push (freshSet w)}):
  C18 (model prog w) A (.call (.builtin "set.__new__") ⟨[.type "set",a],[]⟩) (wants Q₁ E) s:=by
 refine C66 ?_;show wpAny _ A.in1 (do checkBuiltinCall "set.__new__" ⟨[.type "set",a],[]⟩;again (.builtin "set.__new__" ⟨[.type "set",a],[]⟩)) _ _ s
 refine B87 (C37 (F.newCall_set_1 a) (B88 ⟨C12 F.plain_set_new _,C09 F.entry_set_new ?_⟩));rw[L7 F.plain_set_new _];unfold Builtin.«set.__new__» B52;have b:=sub_set_self;obtain⟨c,g,d,f,e⟩:=s;dsimp only
 wp_walk
 refine C41 (B88 ?_);dsimp only;simp only[newObj];exact B87 (wpAny_alloc (B88 (B88 h)))
set_option maxHeartbeats 3200000 in
theorem slot_si_next:Slot "set_iterator" "__next__" "set_iterator.__next__":=
 .of (owner:="set_iterator") (n:="__next__") (by rw[typeLookup_type,builtinLookup_eq_fast];kernel_rfl) (by decide +kernel) (by decide +kernel) (by decide +kernel)
  (by first|exact .inl (by decide +kernel)|exact .inr (by decide +kernel)) (by rw[isSubtype_type];kernel_rfl)
theorem qIK:Slot "set_iterator" "__iter__" "set_iterator.__iter__":=
 .of (owner:="set_iterator") (n:="__iter__") (by rw[typeLookup_type,builtinLookup_eq_fast];kernel_rfl) (by decide +kernel) (by decide +kernel) (by decide +kernel)
  (by first|exact .inl (by decide +kernel)|exact .inr (by decide +kernel)) (by rw[isSubtype_type];kernel_rfl)
theorem qHS:entryFor table "set_iterator.__next__" = some Builtin.«set_iterator.__next__»:=entryFor_of_tree (by kernel_rfl)
theorem qMJ:entryFor table "set_iterator.__iter__" = some Builtin.«dict_keyiterator.__iter__»:=
 entryFor_alias (id':="dict_keyiterator.__iter__") (by kernel_rfl) rfl (by decide +kernel) (by kernel_rfl)
theorem qL0:entryFor table "set.__iter__" = some Builtin.«frozenset.__iter__»:=
 entryFor_alias (id':="frozenset.__iter__") (by kernel_rfl) rfl (by decide +kernel) (by kernel_rfl)
theorem qQF:Manifest.owners.lookup (String.ofList "set_iterator".toList.reverse.reverse)=some Manifest.sig_set_iterator:=by kernel_rfl
theorem qIU (a:Value):argsOk "set_iterator.__next__" ⟨[a],[]⟩:=by
 unfold argsOk;rw[signature?_of (id:="set_iterator.__next__") (n:="__next__".toList.reverse) (o:="set_iterator".toList.reverse) (by kernel_rfl) qQF];kernel_rfl
theorem qOD (a:Value):argsOk "set_iterator.__iter__" ⟨[a],[]⟩:=by
 unfold argsOk;rw[signature?_of (id:="set_iterator.__iter__") (n:="__iter__".toList.reverse) (o:="set_iterator".toList.reverse) (by kernel_rfl) qQF];kernel_rfl
noncomputable def qFH (w:World)(a:Addr)(ep:Nat)(es:Array (Int×Value)):List (Int×Value):=if byT w=true then(pickOrder (w.params.setOrder a ep) es).toList else es.toList
noncomputable def qFJ (w:World)(t:C16)(i:Nat):Nat:=if byT w=true then 0 else if i=0 then 0 else t.place.getD (i-1) 0+1
theorem qFG (w:World)(a:Addr)(ep:Nat)(es:Array (Int×Value)):(qFH w a ep es).Perm es.toList:=by
 unfold qFH
 split
 ·exact qT9 _ _
 ·exact .refl _
def SetIt (w:World)(a I:Addr)(es:Array (Int×Value))(ep:Nat)(t:C16)(i:Nat)(h:Heap):Prop:=
 (∃o,h.get? I=some o/\o.cls=.type "set_iterator"/\o.data=.fields #[.int (qFJ w t i) 0,.int i 0,.ref a,.int es.size 0,.int ep 0])/\h.get? a=some {cls:=.type "set",data:=.set es ep t}
section
variable{prog:B90}{w:World}{A:Around}{E:Aa1}{s:Shared}{a I:Addr}{es:Array (Int×Value)}{ep:Nat}{t:C16}{i:Nat}
def SetIt.typeIs (x:SetIt w a I es ep t i s.heap):s.TypeIs (.ref I) "set_iterator":=let⟨⟨o,h1,h2,_⟩,_⟩:=x;⟨o,h1,h2⟩
theorem qYT {Q:Aa1} (b:SetIt w a I es ep t i s.heap)(h:Q (.ref I) s):wpAny (model prog w) A (pyIter (.ref I)) Q E s:=by
 refine wpAny_pyIter_slot b.typeIs qIK (C04 qIK b.typeIs qMJ ?_ (qOD _));show wpAny _ _ (ret (.ref I)) _ _ s;exact B88 ⟨_,rfl,"set_iterator",_,b.typeIs,slot_si_next.lookup,h⟩
theorem qYU {Q:Bool->Shared->Prop} (e:s.TypeIs (.ref a) "set") (h:Q false s):wpAny (model prog w) A (A04 (.ref a)) Q E s:=by
 unfold A04;refine B87 (wpAny_specialOf e PySem.F.slot_set_len.lookup ?_);generalize hid:("set.__len__" : String)=d
 wp_delta
 rw[show splitId d=some ("set","__len__") from by subst hid;decide +kernel]
 subst hid;refine B87 (C59 (T:="set") (b:=true) e (by rw[isSubtype_type];kernel_rfl) ?_)
 refine wpAny_ite_split (λc=>absurd c (by decide)) (λ_=>?_)
 refine wpAny_ite_split (λ_=>?_) (λc=>absurd (by decide +kernel) c)
 refine B87 (C65 e ?_);exact B88 h
end
theorem qDV {ns:List Int} :∀{us:List Value},Vals (ns.map V.int) us->C06 us ns:=by
 induction ns with
 |nil=>intro us h;cases h;exact .nil
 |cons n r ih=>
  intro us h;cases h with
  |cons r1 r2=>
   obtain⟨t,rfl⟩:=r1;exact IntsAre.cons _ _ (ih r2)
def qFI:∀{us:List Value} {ns:List Int},C06 us ns->Vals (ns.map V.int) us:=qJL
def SetO (w:World)(a:Addr)(zs:List Int):HO:=.ext (SetI w a zs)
theorem Inv.track {Ab:Aa2} {σ:St} {H:Hp} {T:Addr} {o:HO} (I:Inv X Ab σ H s)(k:H T=none)(m:X.s₀.heap.objs.size<=T)(i:T≠X.env.locals)(l:∀x c,X.env.cells.lookup x=some c->c≠T)(j:∀p∈X.pn++Ab,p.1≠T)
  (f:ObjOk X.prog X.w (Ag H T o) s.heap T o):Inv X Ab σ (Ag H T o) s:=by
 have d:∀b ob,X.s₀.heap.get? b=some ob->b≠T:=λb ob e=>D7 (F9 (B5 e) m);have a:∀b u,H b=some u->(Ag H T o) b=some u:=λb u e=>by rw[qA8 (qA9 e k)];exact e
 refine⟨I.ok,I.os,I.bare,⟨I.base.keep,I.base.slot,λb ob e n hx=>?_,I.base.there,λb xs e=>a _ _ (I.base.tups b xs e),λb ob u e=>a _ _ (I.base.frzs b ob u e),λb y e=>?_⟩,I.loc,I.cell,?_,λx c e=>?_,λp g=>?_,λb u e=>?_,I.len⟩
 ·rw[qA8 (d b ob e)];exact I.base.free b ob e n hx
 ·exact a _ _ (I.base.tbls b y e)
 ·rw[qA8 (K9 i)];exact I.free
 ·rw[qA8 (l x c e)];exact I.freeC x c e
 ·obtain⟨z,n,r⟩:=I.pin p g;exact⟨z,by rw[qA8 (j p g)];exact n,r⟩
 ·by_cases h:b=T
  ·subst h;rw[qA1] at e;cases e;exact f
  ·rw[qA8 h] at e;exact(I.hok b u e).stay (λc v _ q=>q) (λc q=>a _ _ q) (λc ys q=>a _ _ q) λc t q=>a _ _ q
theorem qRL {Ab:Aa2} {σ:St} {H:Hp} {vs:List Value} {ns:List Int} (I:Inv X Ab σ H s)(a:C06 vs ns)(hz:ns.length<=B89):
  Inv X Ab σ (Ag H s.heap.objs.size (.lst (ns.map V.int))) {s with heap:=s.heap.push {cls:=.type "list",data:=.seq vs.toArray}}:=
 I.lnew (t':=s.toks) (qFI a) (by rw[A0];exact hz)
def qGC (lo hi:Int):List V:=(G9 (hi-lo).toNat).map λ(i:Nat)=>V.int (lo+i)
theorem qVF:qCQ X (.type "range") (λxs H Q=>∃j,xs=[.int j]/\∀p,H p=none->Q (.ref p) (Ag H p (.rng 0 j))):=by
 intro c s σ H xs a Q I r h;obtain⟨j,rfl,q⟩:=h;obtain⟨u,rfl,t,rfl⟩:=qEC r;refine call_range_1 ⟨.ref s.heap.objs.size,_,I.laid (λb o e=>A4 _ e) (A9 _) ?_,rfl,q _ (I.hok.fresh (A9 _))⟩;exact⟨_,_,_,B7 _ rfl⟩
theorem qVE:qCQ X (.type "range") (λxs H Q=>∃i j,xs=[.int i,.int j]/\∀p,H p=none->Q (.ref p) (Ag H p (.rng i j))):=by
 intro c s σ H xs a Q I r h;obtain⟨i,j,rfl,q⟩:=h;obtain⟨u,v,rfl,⟨t,rfl⟩,⟨d,rfl⟩⟩:=qOI r;refine call_range_2 ⟨.ref s.heap.objs.size,_,I.laid (λb o e=>A4 _ e) (A9 _) ?_,rfl,q _ (I.hok.fresh (A9 _))⟩;exact⟨_,_,_,B7 _ rfl⟩
theorem qQ4 {lo hi:Int} {n:Nat} {acc:List Value} (d:n=(hi-lo).toNat)(a:acc.length=n)(h:∀(i:Nat) (v:Value),acc[i]?=some v->∃t,v=.int (lo+i*1) t):Vals (qGC lo hi) acc:=by
 have b:∀(m:Nat) (acc:List Value),acc.length=m->∀lo:Int,(∀(i:Nat) (v:Value),acc[i]?=some v->∃t,v=.int (lo+i) t)->Vals ((G9 m).map λ(i:Nat)=>V.int (lo+i)) acc:=by
  intro m
  induction m with
  |zero=>
   intro acc a lo h;have:acc=[]:=Y8.mp a;subst this;exact .nil
  |succ m ih=>
   intro acc a lo h;cases acc with
   |nil=>simp at a
   |cons v acc=>
    rw[A62,D4,Q1];have c:=h 0 v rfl;refine .cons c ?_;have f:=ih acc (by simpa using a) (lo+1) λi v hi=>by
     have:=h (i+1) v (by simpa using hi)
     obtain⟨t,e⟩:=this;refine⟨t,?_⟩;rw[e];congr 1
     push_cast
     lia
    have e:((λ(i:Nat)=>V.int (lo+i)) ∘ Nat.succ)=λ(i:Nat)=>V.int (lo+1+i):=by
     funext i
     simp only[Function.comp];congr 1
     push_cast
     lia
    rw[e];exact f
 unfold qGC;rw[<- d];refine b n acc a lo λi v hi=>?_;obtain⟨t,e⟩:=h i v hi;exact⟨t,by rw[e,Int.mul_one]⟩
theorem qL8 (lo hi:Int):(qGC lo hi).length=(hi-lo).toNat:=by unfold qGC;simp
theorem qbD {lo hi:Int} :G5 lo hi 1=((hi-lo).toNat:Nat):=by rw[rangeSize_one];split<;>lia
theorem qMP (y:X.calm=true):qCQ X (.type "list") (λxs H Q=>∃p lo hi,xs=[.ref p]/\H p=some (.rng lo hi)/\-1000000<=lo/\lo<=1000000/\-1000000<=hi/\hi<=1000000/\∀l,H l=none->Q (.ref l) (Ag H l (.lst (qGC lo hi)))):=by
 intro Ab s σ H xs z Q I r h;obtain⟨p,lo,hi,rfl,f,l1,l2,l3,l4,q⟩:=h;obtain⟨u,rfl,x⟩:=qEC r;cases x;obtain⟨t,u,v,e⟩:=(show∃t u v,s.heap.get? p=some {cls:=.type "range",data:=.fields #[.int lo t,.int hi u,.int 1 v]} from I.hok p _ f);refine call_list_range (n:=(hi-lo).toNat) (I.ok.hd y) (show IsRange s.heap p lo hi 1 t u v from e) (small_one (by lia) (by lia) (by lia) (by lia)) qbD (by lia) λo k b g j d a=>?_
 obtain⟨m,c⟩:=a;refine⟨.ref s.heap.objs.size,_,I.laid (t':=k) j (A9 _) (show ObjOk X.prog X.w _ o _ (.lst (qGC lo hi)) from⟨?_,b.toList,g,qQ4 rfl (by simpa using m) λi v hi=>c i v (by rw[<- G8];exact hi),by simpa using d⟩),rfl,q _ (I.hok.fresh (A9 _))⟩
 rw[qL8,B94]
 lia
theorem qMM {R:List Value->Shared->Prop} {r:Addr} {a b:Int} {t u v:Tok} {n:Nat} (hh:A.handled=none)(hr:IsRange s.heap r a b 1 t u v)(g:i8 a b 1=true)
  (hn:G5 a b 1=n) (j:n<=2^24)
  (h:∀(h':Heap) (tk:Nat) (acc:Array Value),(∀b o,s.heap.get? b=some o->h'.get? b=some o)->ItemsOf (λi v=>∃t,v=.int (a+i*1) t) acc n->R acc.toList {s with heap:=h',toks:=tk}):
  wpAny (model prog w) A (collect (.ref r)) R E s:=by
 unfold collect;refine B87 (wpAny_runValue (C09 entry_proto_collect' ?_));rw[L7 PySem.F.plain_proto_collect _];show wpAny _ A.in1 (newList [] >>= λl=>again (.builtin "list.__iadd__" ⟨[l,.ref r],[]⟩)) _ _ s;refine B87 (B98 (B88 ⟨C12 A45 _,C09 entry_list_iadd' ?_⟩));rw[L7 A45 _];have m:(s.heap.push {cls:=.type "list",data:=.seq ([]:List Value).toArray}).get? s.heap.objs.size=some {cls:=.type "list",data:=.seq #[]}:=B7 _ rfl;show wpAny _ A.in1 (Builtin.List.listExtendWith (.ref s.heap.objs.size) (.ref r) (.ref s.heap.objs.size)) _ _ _;have z:=wpAny_extend_range (prog:=prog) (w:=w) (A:=A) (s:={s with heap:=s.heap.push {cls:=.type "list",data:=.seq ([]:List Value).toArray}})
  (R:=fun (q:Result) (s':Shared)=>∃ (h':Heap) (tk:Nat) (acc':Array Value) (c':Nat),q=.ok (.ret (.ref s.heap.objs.size))/\s'={ s with heap:=h',toks:=tk }/\
   (∀b o,s.heap.get? b=some o->h'.get? b=some o)/\h'.get? s.heap.objs.size=some {cls:=.type "list",dict:=none,data:=.seq acc' c',slots:=#[]}/\ItemsOf (λi v=>∃t,v=.int (a+i*1) t) acc' n)
  hh (A4 _ hr) g hn j s.heap.objs.size (.ref s.heap.objs.size) 0 m
  (λh' tk acc' c' k d c=>⟨h',tk,acc',c',rfl,rfl,λb o e=>k b o (D7 (B5 e)) (A4 _ e),d,c⟩)
 refine B96 z (λp s' x=>?_) λe s' x=>?_
 ·cases p with
  |done f=>
   obtain⟨h',tk,acc',c',e,rfl,k,d,c⟩:=x;cases e;show wpAny _ A (load s.heap.objs.size >>= _) _ _ _;exact B87 (wpAny_load d (B88 (h h' tk acc' k c)))
  |again c₁=>
   refine⟨x.1,C32 x.2 λq s₂ y=>?_⟩;obtain⟨h',tk,acc',c',rfl,rfl,k,d,c⟩:=y;show wpAny _ A (load s.heap.objs.size >>= _) _ _ _;exact B87 (wpAny_load d (B88 (h h' tk acc' k c)))
 ·obtain⟨_,_,_,_,e',_⟩:=x;cases e'
theorem qOK {Q:Aa1} {r:Addr} {a b:Int} {t u v:Tok} {n:Nat} (y:A.handled=none)(q:IsRange s.heap r a b 1 t u v)(d:i8 a b 1=true)
  (z:G5 a b 1=n) (k:n<=2^24)
  (h:∀(h':Heap) (tk:Nat) (acc:Array Value),(∀b o,s.heap.get? b=some o->h'.get? b=some o)->ItemsOf (λi v=>∃t,v=.int (a+i*1) t) acc n->Q (.ref h'.objs.size) {s with heap:=h'.push {cls:=.type "tuple",data:=.seq acc},toks:=tk}):
  wpAny (model prog w) A (call (.type "tuple") [.ref r]) Q E s:=by
 have g:C18 (model prog w) A.in1 (.call (.builtin "tuple.__new__") ⟨[.type "tuple",.ref r],[]⟩) (wants (λc j=>j.TypeIs c "tuple"/\Q c j) E) s:=by
  refine C66 ?_;show wpAny _ A.in1.in1 (do checkBuiltinCall "tuple.__new__" ⟨[.type "tuple",.ref r],[]⟩;again (.builtin "tuple.__new__" ⟨[.type "tuple",.ref r],[]⟩)) _ _ s
  refine B87 (C37 (F.newCall_tuple_1 _) (B88 ⟨C12 B17 _,C09 F.entry_tuple_new ?_⟩));rw[L7 B17 _];have x:=sub_tuple_self;have m:=init_tuple_lookup;have a0:=madeHere_tuple;have l:s.TypeIs (.ref r) "range":=⟨_,q,rfl⟩
  wp_walk using C65 l,qMM (prog:=prog) (w:=w) (A:=A.in1.in1) y q d z k
  intro h' tk acc hk f;show wpAny _ _ (Q7 acc.toList.toArray >>= λv=>ret v) _ _ _;unfold Q7;refine B87 (B98 ?_ (by show acc.toList.toArray.size<=B89;simp only[Array.toArray_toList];rw[f.1,B94];lia))
  refine B88 ?_;have e:acc.toList.toArray=acc:=by simp
  rw[e];exact⟨⟨_,B7 _ rfl,rfl⟩,h h' tk acc hk f⟩
 exact callType_codes (Q₁:=λc j=>j.TypeIs c "tuple"/\Q c j) A91 (F.typeCall_tuple_1 _) F.entry_object_init g λc j p=>⟨p.1,A83 c _,object_init_meets A91.init.lookup A91.made (by decide) prog w A.in1 _ j ⟨p.1,rfl,p.2⟩⟩
theorem qL1 (hc:X.calm=true):qCQ X (.type "tuple") (λxs H Q=>∃p lo hi,xs=[.ref p]/\H p=some (.rng lo hi)/\-1000000<=lo/\lo<=1000000/\-1000000<=hi/\hi<=1000000/\∀l,H l=none->Q (.ref l) (Ag H l (.tup (qGC lo hi)))):=by
 intro m s σ H xs us Q I r h;obtain⟨p,lo,hi,rfl,k,l1,l2,l3,l4,q⟩:=h;obtain⟨u,rfl,z⟩:=qEC r;cases z;obtain⟨t,u,v,e⟩:=(show∃t u v,s.heap.get? p=some {cls:=.type "range",data:=.fields #[.int lo t,.int hi u,.int 1 v]} from I.hok p _ k);refine qOK (n:=(hi-lo).toNat) (I.ok.hd hc) (show IsRange s.heap p lo hi 1 t u v from e) (small_one (by lia) (by lia) (by lia) (by lia)) qbD (by lia) λd f c x a=>?_
 obtain⟨y,j⟩:=a;have g:Inv X m σ H {s with heap:=d,toks:=f}:=I.kept x;refine⟨.ref d.objs.size,_,g.laid (t':=f) (λb o e=>A4 _ e) (A9 _) (show ObjOk X.prog X.w _ _ _ (.tup (qGC lo hi)) from⟨?_,c.toList,qQ4 rfl (by simpa using y) λi v hi=>j i v (by rw[<- G8];exact hi),?_⟩),rfl,q _ (g.hok.fresh (A9 _))⟩
 ·rw[qL8,B94]
  lia
 ·have:=IsTup.new d c;simpa using this
theorem qRF:∀(bs:List Bool),((G9 bs.length).all λi=>(bs[i]?).getD true)=bs.all id:=by
 intro bs;rw[R8,F5,F5]
 constructor
 ·intro h b d;obtain⟨i,c,e⟩:=e7.mp d;have:=h i (G3.mpr c);rw[A5 c,e] at this;exact this
 ·intro h i c;have a:=G3.mp c;rw[A5 a];exact h _ (A50 a)
theorem qFB (z:X.calm=true):qCQ X (.builtin "all") (λxs H Q=>∃(p:Addr) (bs:List Bool),xs=[.ref p]/\SqL X.K H p (bs.map V.bl)/\Q (.bl (bs.all id)) H):=by
 intro Ab s σ H xs us Q I r h;obtain⟨p,bs,rfl,hq,q⟩:=h;obtain⟨u,rfl,w⟩:=qEC r;cases w;obtain⟨c,l,o,hz⟩:=I.list hq;have j:=o.isList;have g:p<s.heap.objs.size:=by obtain⟨_,e,_⟩:=j;exact B5 e
 have a:=l.length;rw[A0] at a;refine call_all_walk (C23 j ?_);refine⟨s.heap.objs.size,[s.heap.objs.size,p],[s.heap.objs.size],c.toArray.size,_,_,λi=>(bs[i]?).getD true,rfl,A79 (A:=X.A.in1) (I.ok.hd z) _ p (D7 g) c.toArray,
  ⟨⟨_,B7 _ rfl,rfl,rfl⟩,j.push _⟩,λi v s' Q' E' n f=>?_,λh' tk t=>?_⟩
 ·have d:c[i]?=some v:=by simpa using n
  have k:i<bs.length:=by rw[a];exact(A3.mp d).1
  obtain⟨u,m,ru⟩:=l.get (i:=i) (x:=.bl bs[i]) (by rw[C0,A5 k];rfl)
  rw[d] at m;cases m;cases ru;dsimp only at f;rw[A5 k,x5] at f;exact C08 f
 ·have e:((G9 c.toArray.size).all λi=>(bs[i]?).getD true)=bs.all id:=by
   rw[B6,<- a];exact qRF bs
  refine⟨.bl (bs.all id),H,I.kept λb x e=>t b x (λy=>by rw[A6.mp y] at e;exact Y5 _ (B5 e)) (A4 _ e),?_,q⟩
  rw[e]
  rfl
theorem qAP:qCQ X (.builtin "isinstance") (λxs H Q=>∃x T t b,xs=[x,.ty T]/\TyOf X.K H x t/\P5 X.K t (.type T)=some b/\Q (.bl b) H):=by
 intro g s σ H xs f Q I r h;obtain⟨x,T,t,b,rfl,c,e,q⟩:=h;obtain⟨u,v,rfl,d,a⟩:=qOI r;cases a;exact qUB I d c e λi=>⟨.bl b,H,I.tok _,rfl,q⟩
theorem qTP (b:X.A.units<cLine):OpR X (C03 .Eq) (λx y H Q=>∃p l xs,x=.ref p/\y=.ref l/\SqL X.K H p xs/\SqL X.K H l []/\Q (.bl xs.isEmpty) H):=by
 intro z s σ H x y v u Q I t o h;obtain⟨p,l,xs,rfl,rfl,m,i,q⟩:=h;cases t;cases o;obtain⟨n,f,d,z1⟩:=I.list m;obtain⟨c,k,g,w⟩:=I.list i;cases k;cases xs with
 |nil=>
  cases f;exact B43 (e:=λ_=>true) d.isList g.isList rfl b (λj h _=>absurd h (by simp)) ⟨.bl true,H,I,rfl,q⟩
 |cons a r=>
  cases f;exact SeqAt.eq_list_lengthsAt d.isList g.isList (by simp) b ⟨.bl false,H,I,rfl,q⟩
def Ite (K:Ab1)(l:Addr):It:=
 ⟨λi H=>∃xs x,SqL K H l xs/\xs[i]?=some x,λi H v H'=>∃T x,H T=none/\v=.ref T/\H'=Ag H T (.tup [.int (i:Int),x])/\∀xs,SqL K H l xs->xs[i]?=some x,λi H=>∃xs,SqL K H l xs/\xs.length<=i⟩
theorem Inv.turnedL {Ab:Aa2} {σ:St} {H:Hp} {h':Heap} {t':Nat} {ch:List Addr} (I:Inv X Ab σ H s)(k:∀b o,b∉ch->s.heap.get? b=some o->h'.get? b=some o)(d:∀b∈ch,FpOk X Ab H b):Inv X Ab σ H {s with heap:=h',toks:=t'}:=by
 have f:∀b u,H b=some u->b∉ch:=λb u e z=>by rw[(d b z).1] at e;cases e
 refine I.step (g':=s.gens) (d':=s.drawn) (ch:=ch) (λb g=>⟨(d b g).2.2.2.1,(d b g).2.1,(d b g).2.2.2.2.1,(d b g).2.2.2.2.2⟩) (λb o _ _ a e _=>k b o a e) (λb o _ _ a e _=>⟨o.slots,k b o a e⟩) (λ_ _ _ _ n=>n)
  (λb o a e=>⟨o,k b o a e⟩) (λ_ _ e=>e) (λ_ _ _ e=>e) (λ_ _ e=>e) (λm j=>?_) (λb u e=>?_) I.bare
 ·obtain⟨o,h,i,l,r⟩:=j;exact⟨o,h,i,k _ o (λz=>(d _ z).2.1 rfl) l,r⟩
 ·refine(I.hok b u e).stay (λc v a q=>k c v ?_ q) (λ_ q=>q) λ_ _ q=>q;rcases a with z|z
  ·rw[z];exact f b u e
  ·exact f c _ z
theorem qSK {K:Ab1} {n:List Expr} {k:Nat} {a0:Pos} (l c e:Addr)(m:e≠c):Turn P w K (.Tuple n k a0) (Ite K l) [e,c] e (λi h=>(∃old,IsEnum h e c i old)/\h.IsListIter c l i) where
 mem:=by simp
 obj:=λi h f b g=>by
  obtain⟨⟨old,d⟩,o,a,_,h4⟩:=f;have e':b=e\/b=c:=by simpa using g
  rcases e' with rfl|rfl
  ·exact⟨_,d,λv z=>by
    have z':A40 _=A28 v:=z;cases z'⟩
  ·exact⟨o,a,λv z=>by rw[h4] at z;cases z⟩
 keep:=λi h h' f kk=>by
  obtain⟨⟨old,d⟩,a⟩:=f;exact⟨⟨old,kk e (by simp) _ d⟩,a.at λo q=>kk c (by simp) o q⟩
 item:=by
  intro X hP hw hK hc i Ab s σ H E I t f hg;subst hP hw hK;obtain⟨xs,x,y,hx⟩:=hg;obtain⟨a7,rv,p,hz⟩:=I.list y;obtain⟨u,hu,ru⟩:=rv.get hx;obtain⟨⟨old,d⟩,a⟩:=f;refine wpAny_pyNext_enum_item d a p.isList (x:=u) (by simpa using hu) m λh' a1 a2 a3 a4 a5=>⟨_,rfl,wpAny_letOwnedTupleGo_enum a1 λa b1 b2=>?_⟩
  have r:e<s.heap.objs.size:=B5 d;have I1:Inv X Ab σ H { s with heap:=a,toks:=s.toks+1 }:=I.turnedL (ch:=[e,c]) (fun b o g q=>by
   have j:b≠e:=λz=>g (by simp[z])
   have a8:b≠c:=λz=>g (by simp[z])
   exact(b2.2 b j).trans (a5 b o j a8 q)) t
  have hT:H s.heap.objs.size=none:=I.hok.fresh (A9 _);have fT:=I.fpOk (H':=H) (b:=s.heap.objs.size) (A9 _) hT;have gT:a.get? s.heap.objs.size=some {cls:=.type "tuple",data:=.seq #[.int i s.toks,u]}:=(b2.2 _ (V8 r)).trans a3;refine⟨.ref s.heap.objs.size,Ag H s.heap.objs.size (.tup [.int (i:Int),x]),I1.track hT I.sz fT.2.1 fT.2.2.2.2.1 fT.2.2.2.2.2 ⟨by simp only[C9,O4];rw[B94];decide,[.int (i:Int) s.toks,u],.cons ⟨_,rfl⟩ (.cons ru .nil),⟨_,gT,rfl,_,rfl⟩⟩,rfl,
   ⟨_,x,hT,rfl,rfl,λys hy=>by rw[I.list_inj hy y];exact hx⟩,⟨⟨_,b1⟩,a2.at λo q=>(b2.2 c (K9 m)).trans q⟩,λb g=>?_⟩
  have a6:b<s.heap.objs.size:=by
   have e':b=e\/b=c:=by simpa using g
   rcases e' with rfl|rfl
   ·exact r
   ·obtain⟨o,q,_⟩:=a;exact B5 (by assumption)
  rw[qA8 (D7 a6)];exact(t b g).1
 done:=by
  intro X hP hw hK hc i Ab s σ H E I t f hg;subst hP hw hK;obtain⟨xs,y,hx⟩:=hg;obtain⟨a7,rv,p,hz⟩:=I.list y;have hl:=rv.length;obtain⟨⟨old,d⟩,a⟩:=f;exact wpAny_pyNext_enum_end (I.ok.hd hc) d a p.isList (by simp;lia) λh' eb=>⟨rfl,I.turnedL (t':=s.toks) (ch:=[e,c]) (λb o g q=>eb b o (λz=>g (by simp[z])) q) t⟩
 self:=λ_ _ _ _ _ f h=>by
  obtain⟨⟨old,d⟩,a⟩:=f;exact C55 d h
def qdT (K:Ab1)(ta:TA):TI:=λσ H R=>ta σ H λvs H1=>∃l,vs=[.ref l]/\(∃xs,SqL K H1 l xs)/\R (Ite K l) H1
theorem qZ8 {f:List Expr} {k:Nat} {d:Pos} {a:Expr} {g:TA} {p c:Pos} (m:Gl X "enumerate") (hm:X.mg "enumerate" = none) (hv:B97 "enumerate" = some (.type "enumerate")) (ha:PA X [a] g) (x:B95 [a] X.env=[(false,eval a X.env)]:=by rfl):
  PI X (.Tuple f k d) (.Call (.Name "enumerate" p) [a] [] c) (qdT X.K g):=by
 intro j s σ H R I h;refine Call_ (qIO I m hm hv (P4 (thn (ha c j s σ H _ I h) λus s1 ⟨vs,H1,I1,r1,q1⟩=>?_) x rfl));obtain⟨l,e,⟨xs,hq⟩,q⟩:=q1;subst e;obtain⟨u,rfl,y⟩:=qEC r1;cases y;obtain⟨t,rv,o,hz⟩:=I1.list hq;refine call_enumerate_list o.isList λv i w a0 hk=>C55 i ?_;have n:Inv X j σ H1 {s1 with heap:=v}:=I1.kept (t':=s1.toks) hk;refine⟨s1.heap.objs.size+1,[s1.heap.objs.size+1,s1.heap.objs.size],_,_,H1,rfl,n,qSK l s1.heap.objs.size (s1.heap.objs.size+1) (x6 _),⟨⟨_,i⟩,w⟩,λb z=>?_,q⟩;have r:b=s1.heap.objs.size+1\/b=s1.heap.objs.size:=by simpa using z
 rcases r with rfl|rfl
 ·exact I1.fpOk (W9 _) (I1.hok.fresh (W9 _))
 ·exact I1.fpOk (A9 _) (I1.hok.fresh (A9 _))
theorem qZP {K:Ab1} {a:Addr} {xs:List V} {g:TG} {f:TT} {h:TE} {Kf:Hp->Prop} {σ0:St} {H0:Hp} {p:Addr} (Pv:Nat->St->Hp->Prop)(l:Pv 0 σ0 H0)(o:∀i σ H,i<=xs.length->Pv i σ H->SqL K H a xs)
  (n:∀i x σ H T,xs[i]?=some x->Pv i σ H->H T=none->g (.ref T) σ (Ag H T (.tup [.int (i:Int),x])) λσ2 H2=>f σ2 H2 λb H3=>if b=true then h σ2 H3 λy H4=>∃ys,H4 p=some (.lst ys)/\ys.length<B89/\Pv (i+1) σ2 (Ag H4 p (.lst (ys++[y]))) else Pv (i+1) σ2 H3)
  (t:∀σ H,Pv xs.length σ H->Kf H):
  LcG (Ite K a) g f h Kf σ0 H0 p:=by
 refine⟨λi m σ H=>m=xs.length-i/\i<=xs.length/\Pv i σ H,⟨xs.length,by simp,G6 _,l⟩,?_⟩
 rintro i m σ H ⟨rfl,hi,q⟩;have d:=o i σ H hi q;by_cases c:i<xs.length
 ·refine .inr ⟨⟨xs,xs[i],d,by simp[c]⟩,Pv (i+1),λσ' j s=>⟨xs.length-(i+1),by lia,rfl,c,s⟩,λv j y=>?_⟩
  obtain⟨T,x,u,r,k,y⟩:=y;subst r k;exact n i x σ H T (y xs d) q u
 ·have e:i=xs.length:=by lia
  subst e;exact .inl ⟨⟨xs,d,A9 _⟩,t σ H q⟩
theorem qEI {c t:Addr} {i:Nat} {a:Array Value} {x:Value} {Q:Aa1} (b:s.heap.IsTupleIter c t i)(h:s.heap.IsTuple t a)(k:a[i]?=some x)
  (j:∀h':Heap,h'.IsTupleIter c t (i+1)->Heap.SameBut c s.heap h'->Q x {s with heap:=h'}):wpAny (model prog w) A (X0 (.ref c)) Q E s:=by
 obtain⟨o,e,l,d⟩:=id b;obtain⟨n,g,_,m,f⟩:=h;refine B87 (wpAny_callSpecial?_slot b.typeIs U9 (C04 U9 b.typeIs A05 ?_ (y9 _)));show wpAny _ _ (field (.ref c) 0 >>= _) _ _ _;refine B87 (B99 e d rfl (C28 rfl ?_));show wpAny _ _ (field (.ref c) 1 >>= _) _ _ _;refine B87 (B99 e d rfl ?_);show wpAny _ _ (seqItems? (.ref t) >>= _) _ _ _;refine B87 (C07 g f ?_);show wpAny _ _ (match a[i]? with|some x=>_|none=>_) _ _ _
 rw[k];refine B87 (C24 e d (by simp) (B88 ⟨x,rfl,B88 (j _ ⟨_,L0 _ e (W2 (Q2 d _)),(o8 o _).trans l,?_⟩ (U2 _ _ _))⟩))
 rw[Q2 d];simp
 rfl
theorem qFF {d t:Addr} {i:Nat} {b:Array Value} {Q:Aa1} (k:A.handled=none)(c:s.heap.IsTupleIter d t i)(p:s.heap.IsTuple t b)(n:b[i]?=none)
  (l:∀(h':Heap) (e:Addr),Heap.ExtBut d s.heap h'->(∃o,h'.get? e=some o/\o.cls=.type "StopIteration")->E (.ref e) {s with heap:=h'}):wpAny (model prog w) A (X0 (.ref d)) Q E s:=by
 obtain⟨o,j,u,h⟩:=id c;obtain⟨r,g,_,q,f⟩:=p;refine B87 (wpAny_callSpecial?_slot c.typeIs U9 (C04 U9 c.typeIs A05 ?_ (y9 _)));show wpAny _ _ (field (.ref d) 0 >>= _) _ _ _;refine B87 (B99 j h rfl (C28 rfl ?_));show wpAny _ _ (field (.ref d) 1 >>= _) _ _ _;refine B87 (B99 j h rfl ?_);show wpAny _ _ (seqItems? (.ref t) >>= _) _ _ _;refine B87 (C07 g f ?_);show wpAny _ _ (match b[i]? with|some x=>_|none=>_) _ _ _
 rw[n];refine B87 (C13 (B87 (C24 j h (by simp) ?_)))
 show wpAny _ _ (newExc (.type "StopIteration") [] >>= _) _ _ _;refine B87 ?_;simp only[newExc,newTuple];refine B87 (B98 ?_ (by size_fits))
 refine B87 (m:=firstArgMember _ _) (C37 (a:=Q3) (by first|rfl|(simp only[firstArgMember];rfl)) (B98 ?_ (by size_fits)))
 simp only[raiseNew];refine B87 (wpAny_handled ?_);rw[show A.in1.handled=none from k];exact B87 (B88 (wpAny_throw (l _ _ (((U2 ..).extBut.push _).push _) ⟨_,B7 _ rfl,rfl⟩)))
def SIt (b:Bool)(h:Heap)(it l:Addr)(i:Nat):Prop:=match b with|true=>h.IsTupleIter it l i|false=>h.IsListIter it l i
def SSq (b:Bool)(h:Heap)(l:Addr)(xs:Array Value):Prop:=match b with|true=>h.IsTuple l xs|false=>h.IsList l xs
theorem SIt.at {b:Bool} {h h':Heap} {a l:Addr} {i:Nat} (q:SIt b h a l i)(k:∀o,h.get? a=some o->h'.get? a=some o):SIt b h' a l i:=by
 cases b
 ·exact Heap.IsListIter.at q k
 ·exact Heap.IsTupleIter.at q k
theorem SSq.at {b:Bool} {h h':Heap} {l:Addr} {xs:Array Value} (q:SSq b h l xs)(k:∀o,h.get? l=some o->h'.get? l=some o):SSq b h' l xs:=by
 cases b
 ·obtain⟨o,e,r⟩:=q;exact⟨o,k o e,r⟩
 ·obtain⟨o,e,r⟩:=q;exact⟨o,k o e,r⟩
theorem qGQ {b:Bool} {d t:Addr} {i:Nat} {a:Array Value} {x:Value} {Q:Aa1} (c:SIt b s.heap d t i)(g:SSq b s.heap t a)(e:a[i]?=some x)
  (f:∀h':Heap,SIt b h' d t (i+1)->Heap.SameBut d s.heap h'->Q x {s with heap:=h'}):wpAny (model prog w) A (X0 (.ref d)) Q E s:=by
 cases b
 ·exact wpAny_nextOf_list_item c g e f
 ·exact qEI c g e f
theorem qLD {b:Bool} {d t:Addr} {i:Nat} {a:Array Value} {Q:Aa1} (f:A.handled=none)(c:SIt b s.heap d t i)(j:SSq b s.heap t a)(h:a[i]?=none)
  (g:∀(h':Heap) (e:Addr),Heap.ExtBut d s.heap h'->(∃o,h'.get? e=some o/\o.cls=.type "StopIteration")->E (.ref e) {s with heap:=h'}):wpAny (model prog w) A (X0 (.ref d)) Q E s:=by
 cases b
 ·exact wpAny_nextOf_list_end f c j h g
 ·exact qFF f c j h g
theorem qSA {b b':Bool} {z TI TO g f i l:Addr} {k1 k2:Nat} {xs ys:Array Value} {x y a c:Value} {Q:Aa1} (D:C60 z TI TO g f i l)(hz:IsZip s.heap z TI TO .none)(ab:IsPair s.heap TI (.ref g) (.ref f))(a5:IsPair s.heap TO a c)
  (h1:SIt b s.heap g i k1) (h2:SIt b' s.heap f l k2) (a0:SSq b s.heap i xs) (a4:SSq b' s.heap l ys) (hx:xs[k1]?=some x) (hy:ys[k2]?=some y)
  (hQ:∀ h':Heap,IsZip h' z TI TO (rawInt (s.heap.objs.size:Int))->IsPair h' TO x y->SIt b h' g i (k1+1)->SIt b' h' f l (k2+1)->IsPair h' s.heap.objs.size x y->h'.objs.size=s.heap.objs.size+1->
   (∀(c:Addr) (o:Obj),c≠z->c≠TO->c≠g->c≠f->s.heap.get? c=some o->h'.get? c=some o)->Q (.ref s.heap.objs.size) {s with heap:=h'}):
  wpAny (model prog w) A (Builtin.«zip.__next__» {pos:=[.ref z]}) (λfin s'=>∃v,fin=.done (.ret v)/\Q v s') E s:=by
 show wpAny _ _ (field (.ref z) 2 >>= _) _ _ _;refine B87 (B99 hz rfl rfl ?_);show wpAny _ _ (field (.ref z) 3 >>= _) _ _ _;refine B87 (B99 hz rfl rfl (B87 (C07 ab rfl ?_)));show wpAny _ _ (U3 (.ref z) >>= _) _ _ _;refine B87 ?_;show wpAny _ _ (field (.ref z) 0 >>= _) _ _ _;refine B87 (B99 hz rfl rfl (B88 (wpAny_ite_true rfl (B87 (C13 (B87 (B99 hz rfl rfl (B87 (C19 hz (by simp) λhA gz h=>B87 ?_)))))))))
 show wpAny _ _ (forIn [(D6 g,0),(D6 f,1)] _ _) _ _ _;rw[U1];refine B87 ?_;dsimp only;refine B87 (C43 ?_);have e:((#[Q3,T8 false,T8 false,D6 TI,D6 TO][2]==T8 true)=false):=rfl;rw[e];have a7:SIt b hA g i k1:=h1.at λo q=>(h.2 _ D.i1z).trans q;have a8:SSq b hA i xs:=a0.at λo q=>(h.2 _ D.l1z).trans q;refine B87 (qGQ (s:={s with heap:=hA}) a7 a8 hx λhB nB j=>B88 ?_);have tB:IsPair hB TO a c:=(j.2 _ D.TOi1).trans ((h.2 _ D.TOz).trans a5);refine B87 (C07 tB rfl (B87 (C67 tB λhC tC k=>B87 (C20 (B88 ?_)))));dsimp only;rw[U1];refine B87 (B87 (C43 ?_));have a9:SIt b' hC f l k2:=h2.at λo q=>(k.2 _ (K9 D.TOi2)).trans ((j.2 _ (K9 D.i12)).trans ((h.2 _ D.i2z).trans q));have a6:SSq b' hC l ys:=a4.at λo q=>(k.2 _ D.l2TO).trans ((j.2 _ D.l2i1).trans ((h.2 _ D.l2z).trans q));refine B87 (qGQ (s:={s with heap:=hC}) a9 a6 hy λhD nD p=>B88 ?_);have tD:IsPair hD TO x c:=(p.2 _ D.TOi2).trans tC;refine B87 (C07 tD rfl (B87 (C67 tD λd tF m=>B87 (C20 (B88 ?_)))));dsimp only;rw[B54];refine B88 ?_;dsimp only;have u:IsPair d TO x y:=tF;refine B87 (C07 u rfl (B87 (C53 ?_ (by show 2<=B89;decide))))
 have t:d.get? z=some {cls:=.type "zip",data:=.fields #[.ellipsis,.bool false,.bool false,.ref TI,.ref TO]}:=(m.2 _ (K9 D.TOz)).trans ((p.2 _ (K9 D.i2z)).trans ((k.2 _ (K9 D.TOz)).trans ((j.2 _ (K9 D.i1z)).trans gz)));have a3:d.objs.size=s.heap.objs.size:=m.1.trans (p.1.trans (k.1.trans (j.1.trans h.1)));have aa:z<d.objs.size:=B5 t;have a2:(d.push {cls:=.type "tuple",data:=.seq #[x,y]}).get? z=some {cls:=.type "zip",data:=.fields #[.ellipsis,.bool false,.bool false,.ref TI,.ref TO]}:=A4 _ t;refine B87 ?_;show wpAny _ _ (setField (.ref z) 0 (rawInt _) >>= _) _ _ _;refine B87 (C19 a2 (by simp) λhG gG sG=>C19 gG (by simp) λr gI sI=>B88 ⟨_,rfl,?_⟩)
 have o4:∀(c:Addr) (o:Obj),c≠z->c≠TO->c≠g->c≠f->s.heap.get? c=some o->r.get? c=some o:=λc o n1 n2 n3 n4 e=>
  (sI.2 _ n1).trans ((sG.2 _ n1).trans (A4 _ ((m.2 _ n2).trans ((p.2 _ n4).trans ((k.2 _ n2).trans ((j.2 _ n3).trans ((h.2 _ n1).trans e)))))))
 have nz:d.objs.size≠z:=V8 aa;have gT:r.get? d.objs.size=some {cls:=.type "tuple",data:=.seq #[x,y]}:=(sI.2 _ nz).trans ((sG.2 _ nz).trans (B7 _ rfl));have a1:r.objs.size=d.objs.size+1:=sI.1.trans (sG.1.trans (M7 ..));have pz:∀{c:Addr} {o:Obj},c≠z->d.get? c=some o->r.get? c=some o:=λn e=>(sI.2 _ n).trans ((sG.2 _ n).trans (A4 _ e));have q:=hQ r;rw[<- a3] at q;refine q gI (pz D.TOz u) (nB.at λo e=>pz D.i1z ((m.2 _ (K9 D.TOi1)).trans ((p.2 _ D.i12).trans ((k.2 _ (K9 D.TOi1)).trans e)))) (nD.at λo e=>pz D.i2z ((m.2 _ (K9 D.TOi2)).trans e)) gT a1 o4
theorem qVV {b:Bool} {z TI TO a j d y:Addr} {m:Nat} {xs:Array Value} {Q:PySem.Fin->Shared->Prop} (hh:A.handled=none)(D:C60 z TI TO a j d y)(hz:IsZip s.heap z TI TO .none)(p:IsPair s.heap TI (.ref a) (.ref j))
  (x:SIt b s.heap a d m) (g:SSq b s.heap d xs) (hx:xs[m]?=none)
  (hE:∀(h':Heap) (e:Addr),(∀(c:Addr) (o:Obj),c≠z->c≠a->s.heap.get? c=some o->h'.get? c=some o)->(∃o,h'.get? e=some o/\o.cls=.type "StopIteration")->E (.ref e) {s with heap:=h'}):
  wpAny (model prog w) A (Builtin.«zip.__next__» {pos:=[.ref z]}) Q E s:=by
 show wpAny _ _ (field (.ref z) 2 >>= _) _ _ _;refine B87 (B99 hz rfl rfl ?_);show wpAny _ _ (field (.ref z) 3 >>= _) _ _ _;refine B87 (B99 hz rfl rfl (B87 (C07 p rfl ?_)));show wpAny _ _ (U3 (.ref z) >>= _) _ _ _;refine B87 ?_;show wpAny _ _ (field (.ref z) 0 >>= _) _ _ _;refine B87 (B99 hz rfl rfl (B88 (wpAny_ite_true rfl (B87 (C13 (B87 (B99 hz rfl rfl (B87 (C19 hz (by simp) λh v i=>B87 ?_)))))))))
 show wpAny _ _ (forIn [(D6 a,0),(D6 j,1)] _ _) _ _ _;rw[U1];refine B87 ?_;dsimp only;refine B87 (C43 ?_);have e:((#[Q3,T8 false,T8 false,D6 TI,D6 TO][2]==T8 true)=false):=rfl;rw[e];have l:SIt b h a d m:=x.at λo q=>(i.2 _ D.i1z).trans q;have n:SSq b h d xs:=g.at λo q=>(i.2 _ D.l1z).trans q;refine B87 (qLD (s:={s with heap:=h}) hh l n hx λhB ea xB ⟨ob,gb,cb⟩=>?_);have f:=xB z _ (K9 D.i1z) v;refine C19 f (by simp) λhC gC r=>?_
 have k:ea≠z:=λq=>by
  rw[q,f] at gb;cases gb;exact absurd (show V1 "zip" = V1 "StopIteration" from cb) (by decide)
 exact hE hC ea (λc o t u q=>(r.2 _ t).trans (xB c o u ((i.2 _ t).trans q))) ⟨ob,(r.2 _ k).trans gb,cb⟩
theorem qSB {b n:Bool} {z TI TO g f i k:Addr} {k1 k2:Nat} {xs ys:Array Value} {x a c:Value} {Q:PySem.Fin->Shared->Prop} (hh:A.handled=none)(D:C60 z TI TO g f i k)(hz:IsZip s.heap z TI TO .none)(a4:IsPair s.heap TI (.ref g) (.ref f))(v:IsPair s.heap TO a c)
  (h1:SIt b s.heap g i k1) (h2:SIt n s.heap f k k2) (p:SSq b s.heap i xs) (u:SSq n s.heap k ys) (hx:xs[k1]?=some x) (hy:ys[k2]?=none)
  (hE:∀(h':Heap) (e:Addr),(∀(c:Addr) (o:Obj),c≠z->c≠TO->c≠g->c≠f->s.heap.get? c=some o->h'.get? c=some o)->(∃o,h'.get? e=some o/\o.cls=.type "StopIteration")->E (.ref e) {s with heap:=h'}):
  wpAny (model prog w) A (Builtin.«zip.__next__» {pos:=[.ref z]}) Q E s:=by
 show wpAny _ _ (field (.ref z) 2 >>= _) _ _ _;refine B87 (B99 hz rfl rfl ?_);show wpAny _ _ (field (.ref z) 3 >>= _) _ _ _;refine B87 (B99 hz rfl rfl (B87 (C07 a4 rfl ?_)));show wpAny _ _ (U3 (.ref z) >>= _) _ _ _;refine B87 ?_;show wpAny _ _ (field (.ref z) 0 >>= _) _ _ _;refine B87 (B99 hz rfl rfl (B88 (wpAny_ite_true rfl (B87 (C13 (B87 (B99 hz rfl rfl (B87 (C19 hz (by simp) λr gz d=>B87 ?_)))))))))
 show wpAny _ _ (forIn [(D6 g,0),(D6 f,1)] _ _) _ _ _;rw[U1];refine B87 ?_;dsimp only;refine B87 (C43 ?_);have e:((#[Q3,T8 false,T8 false,D6 TI,D6 TO][2]==T8 true)=false):=rfl;rw[e];have a0:SIt b r g i k1:=h1.at λo q=>(d.2 _ D.i1z).trans q;have a1:SSq b r i xs:=p.at λo q=>(d.2 _ D.l1z).trans q;refine B87 (qGQ (s:={s with heap:=r}) a0 a1 hx λhB nB j=>B88 ?_);have tB:IsPair hB TO a c:=(j.2 _ D.TOi1).trans ((d.2 _ D.TOz).trans v);refine B87 (C07 tB rfl (B87 (C67 tB λm tC l=>B87 (C20 (B88 ?_)))));dsimp only;rw[U1];refine B87 (B87 (C43 ?_));have a2:SIt n m f k k2:=h2.at λo q=>(l.2 _ (K9 D.TOi2)).trans ((j.2 _ (K9 D.i12)).trans ((d.2 _ D.i2z).trans q));have y:SSq n m k ys:=u.at λo q=>(l.2 _ D.l2TO).trans ((j.2 _ D.l2i1).trans ((d.2 _ D.l2z).trans q));refine B87 (qLD (s:={s with heap:=m}) hh a2 y hy λhD ea xD ⟨ob,gb,cb⟩=>?_);have a3:m.get? z=some {cls:=.type "zip",data:=.fields #[.ellipsis,.bool false,.bool false,.ref TI,.ref TO]}:=(l.2 _ (K9 D.TOz)).trans ((j.2 _ (K9 D.i1z)).trans gz);have h:=xD z _ (K9 D.i2z) a3;refine C19 h (by simp) λhF gF sF=>?_
 have t:ea≠z:=λq=>by
  rw[q,h] at gb;cases gb;exact absurd (show V1 "zip" = V1 "StopIteration" from cb) (by decide)
 exact hE hF ea (λc o n1 n2 n3 n4 q=>(sF.2 _ n1).trans (xD c o n4 ((l.2 _ n2).trans ((j.2 _ n3).trans ((d.2 _ n1).trans q))))) ⟨ob,(sF.2 _ t).trans gb,cb⟩
section
variable{b b':Bool}{prog:B90}{w:World}{A:Around}{E:Aa1}{s:Shared}{z TI TO i1 i2 l1 l2:Addr}{k1 k2:Nat}{xs ys:Array Value}
theorem qJ0 {x y a c:Value} {Q:Option Value->Shared->Prop} (D:C60 z TI TO i1 i2 l1 l2)(hz:IsZip s.heap z TI TO .none)(e:IsPair s.heap TI (.ref i1) (.ref i2))(g:IsPair s.heap TO a c)
  (p:SIt b s.heap i1 l1 k1) (k:SIt b' s.heap i2 l2 k2) (d:SSq b s.heap l1 xs) (f:SSq b' s.heap l2 ys) (t:xs[k1]?=some x) (l:ys[k2]?=some y)
  (u:∀ h':Heap,IsZip h' z TI TO (rawInt (s.heap.objs.size:Int))->IsPair h' TO x y->SIt b h' i1 l1 (k1+1)->SIt b' h' i2 l2 (k2+1)->IsPair h' s.heap.objs.size x y->h'.objs.size=s.heap.objs.size+1->
   (∀(c:Addr) (o:Obj),c≠z->c≠TO->c≠i1->c≠i2->s.heap.get? c=some o->h'.get? c=some o)->Q (some (.ref s.heap.objs.size)) {s with heap:=h'}):
  wpAny (model prog w) A (pyNext (.ref z)) Q E s:=by
 have h:s.TypeIs (.ref z) "zip":=⟨_,hz,rfl⟩;unfold pyNext;refine B87 (C44 (wpAny_callSpecial?_slot (name:=J7 "__next__") h a8 (C04 a8 h A51 ?_ (A32 _))));exact qSA (Q:=λv m=>wpAny (model prog w) A (pure (some v)) Q E m) D hz e g p k d f t l λh' q1 q r i j n q7=>B88 (u h' q1 q r i j n q7)
theorem qJT {Q:Option Value->Shared->Prop} (h:A.handled=none)(D:C60 z TI TO i1 i2 l1 l2)(hz:IsZip s.heap z TI TO .none)(d:IsPair s.heap TI (.ref i1) (.ref i2))
  (i:SIt b s.heap i1 l1 k1) (a:SSq b s.heap l1 xs) (l:xs[k1]?=none)
  (j:∀h':Heap,(∀(c:Addr) (o:Obj),c≠z->c≠i1->s.heap.get? c=some o->h'.get? c=some o)->Q none {s with heap:=h'}):
  wpAny (model prog w) A (pyNext (.ref z)) Q E s:=by
 have f:s.TypeIs (.ref z) "zip":=⟨_,hz,rfl⟩;unfold pyNext;refine B87 (C44 (wpAny_callSpecial?_slot (name:=J7 "__next__") f a8 (C04 a8 f A51 ?_ (A32 _))));exact qVV h D hz d i a l λh' e k ⟨o,g,c⟩=>B87 (C59 (T:="StopIteration") (b:=true) ⟨_,g,c⟩ isSubtype_stop (B88 (j h' k)))
theorem qJ1 {x a c:Value} {Q:Option Value->Shared->Prop} (m:A.handled=none)(D:C60 z TI TO i1 i2 l1 l2)(hz:IsZip s.heap z TI TO .none)(f:IsPair s.heap TI (.ref i1) (.ref i2))(i:IsPair s.heap TO a c)
  (n:SIt b s.heap i1 l1 k1) (l:SIt b' s.heap i2 l2 k2) (d:SSq b s.heap l1 xs) (h:SSq b' s.heap l2 ys) (q:xs[k1]?=some x) (p:ys[k2]?=none)
  (r:∀h':Heap,(∀(c:Addr) (o:Obj),c≠z->c≠TO->c≠i1->c≠i2->s.heap.get? c=some o->h'.get? c=some o)->Q none {s with heap:=h'}):
  wpAny (model prog w) A (pyNext (.ref z)) Q E s:=by
 have j:s.TypeIs (.ref z) "zip":=⟨_,hz,rfl⟩;unfold pyNext;refine B87 (C44 (wpAny_callSpecial?_slot (name:=J7 "__next__") j a8 (C04 a8 j A51 ?_ (A32 _))));exact qSB m D hz f i n l d h q p λh' e k ⟨o,g,c⟩=>B87 (C59 (T:="StopIteration") (b:=true) ⟨_,g,c⟩ isSubtype_stop (B88 (r h' k)))
end
noncomputable abbrev itObj (b:Bool) (l:Addr):Obj:={cls:=.type (match b with|true=>"tuple_iterator" |false=>"list_iterator"),data:=.fields #[.ref l,.int 0 0]}
theorem qI5 {b:Bool} {l:Addr} {xs:Array Value} {Q:Aa1} (h:SSq b s.heap l xs)(a:Q (.ref s.heap.objs.size) {s with heap:=s.heap.push (itObj b l)}):wpAny (model prog w) A (pyIter (.ref l)) Q E s:=by
 cases b
 ·exact C23 h a
 ·exact wpAny_pyIter_tuple h a
abbrev zb1 (b:Bool)(h:Heap)(l1:Addr):Heap:=h.push (itObj b l1)
abbrev zb2 (b b':Bool)(h:Heap)(l1 l2:Addr):Heap:=(zb1 b h l1).push (itObj b' l2)
noncomputable abbrev zb3 (b b':Bool) (h:Heap) (l1 l2:Addr):Heap:=(zb2 b b' h l1 l2).push {cls:=.type "tuple",data:=.seq #[.ref h.objs.size,.ref (zb1 b h l1).objs.size]}
noncomputable abbrev zb4 (b b':Bool) (h:Heap) (l1 l2:Addr):Heap:=(zb3 b b' h l1 l2).push {cls:=.type "tuple",data:=.seq #[.none,.none]}
noncomputable abbrev zb5 (b b':Bool) (h:Heap) (l1 l2:Addr):Heap:=(zb4 b b' h l1 l2).push {cls:=.type "zip",data:=.fields #[.none,.bool false,.bool false,.ref (zb2 b b' h l1 l2).objs.size,.ref (zb3 b b' h l1 l2).objs.size]}
theorem qVU (b e:Bool) (a c:Addr) (xs ys:Array Value):Meets (Builtin.«zip.__new__» {pos:=[.type "zip",.ref a,.ref c]}) λ_ R s=>
  SSq b s.heap a xs/\SSq e s.heap c ys/\R (.ok (.ret (.ref (zb4 b e s.heap a c).objs.size))) {s with heap:=zb5 b e s.heap a c}:=by
 refine Meets.of_wp λk w A R s h=>?_;obtain⟨l,g,d,m,n⟩:=s;obtain⟨f,j,h⟩:=h;have i:SSq e (l.push (itObj b a)) c ys:=SSq.at j λo q=>A4 _ q;refine B87 (B87 (B88 (C28 rfl (B87 (C37 sub_zip (C28 rfl (B88 (C28 rfl (B87 (B87 ?_))))))))));show wpAny _ _ (forIn [D6 a,D6 c] #[] _) _ _ _;rw[U1];refine B87 (B87 (C00 (qI5 f (B88 ?_))));dsimp only;rw[U1];refine B87 (B87 (C00 (qI5 i (B88 ?_))));dsimp only;rw[B54];refine B88 (B88 (B87 (C53 ?_ (by show 2<=B89;decide))))
 refine B87 (C53 ?_ (by show 2<=B89;decide))
 refine B87 ?_;unfold Z7;dsimp only;refine B98 ?_ (by first|rfl|(show(5:Nat)<=_;decide)|(show(5:Nat)<=B89+2;rw[B94];decide))
 refine B88 ⟨_,rfl,h⟩
theorem qVD {b f:Bool} {a d:Addr} {xs ys:Array Value} {Q:Aa1} (g:SSq b s.heap a xs)(h:SSq f s.heap d ys)
  (x:∀ (h':Heap) (z TI TO i1 i2:Addr),C60 z TI TO i1 i2 a d->IsZip h' z TI TO .none->IsPair h' TI (.ref i1) (.ref i2)->IsPair h' TO .none .none->SIt b h' i1 a 0->SIt f h' i2 d 0->(∀ c ∈ [z,TI,TO,i1,i2],s.heap.objs.size<=c)->
   (∀(c:Addr) (o:Obj),s.heap.get? c=some o->h'.get? c=some o)->Q (.ref z) {s with heap:=h'}):
  wpAny (model prog w) A (call (.type "zip") [.ref a,.ref d]) Q E s:=by
 refine callType_new F.called_zip (by decide) (F.typeCall_zip_2 _ _) (F.newCall_zip_2 _ _) (λi=>F.args_object_init_3 i _ _) F.entry_zip_new (qVU b f a d xs ys) ⟨g,h,?_⟩
 have u:(zb1 b s.heap a).objs.size=s.heap.objs.size+1:=M7 ..;have j:(zb2 b f s.heap a d).objs.size=s.heap.objs.size+2:=(M7 ..).trans (by rw[u])
 have t:(zb3 b f s.heap a d).objs.size=s.heap.objs.size+3:=(M7 ..).trans (by rw[j])
 have v:(zb4 b f s.heap a d).objs.size=s.heap.objs.size+4:=(M7 ..).trans (by rw[t])
 have k:(zb5 b f s.heap a d).get? (zb4 b f s.heap a d).objs.size=some {cls:=.type "zip",data:=.fields #[.none,.bool false,.bool false,.ref (zb2 b f s.heap a d).objs.size,.ref (zb3 b f s.heap a d).objs.size]}:=B7 _ rfl;have g4:(zb5 b f s.heap a d).get? (zb3 b f s.heap a d).objs.size=some {cls:=.type "tuple",data:=.seq #[.none,.none]}:=A4 _ (B7 _ rfl);have g3:(zb5 b f s.heap a d).get? (zb2 b f s.heap a d).objs.size=some {cls:=.type "tuple",data:=.seq #[.ref s.heap.objs.size,.ref (zb1 b s.heap a).objs.size]}:=A4 _ (A4 _ (B7 _ rfl));have m:(zb5 b f s.heap a d).get? (zb1 b s.heap a).objs.size=some (itObj f d):=A4 _ (A4 _ (A4 _ (B7 _ rfl)));have p:(zb5 b f s.heap a d).get? s.heap.objs.size=some (itObj b a):=A4 _ (A4 _ (A4 _ (A4 _ (B7 _ rfl))));have r:∀{b:Bool} {l:Addr} {zs:Array Value},SSq b s.heap l zs->l<s.heap.objs.size:=λ{b l zs} q=>by
  cases b
  ·obtain⟨o,e,_⟩:=q;exact B5 e
  ·obtain⟨o,e,_⟩:=q;exact B5 e
 refine⟨⟨_,k,rfl⟩,?_⟩;have D:=zipApart_new (n:=s.heap.objs.size) (r g) (r h);rw[<- v,<- t,<- j,<- u] at D;refine x _ _ _ _ _ _ D k g3 g4 ?_ ?_ ?_ λc o e=>A4 _ (A4 _ (A4 _ (A4 _ (A4 _ e))))
 ·cases b
  ·exact⟨_,p,rfl,rfl⟩
  ·exact⟨_,p,rfl,rfl⟩
 ·cases f
  ·exact⟨_,m,rfl,rfl⟩
  ·exact⟨_,m,rfl,rfl⟩
 ·intro c hc;have y:c=(zb4 b f s.heap a d).objs.size\/c=(zb2 b f s.heap a d).objs.size\/c=(zb3 b f s.heap a d).objs.size\/c=s.heap.objs.size\/c=(zb1 b s.heap a).objs.size:=by simpa using hc
  rcases y with rfl|rfl|rfl|rfl|rfl
  ·lia
  ·lia
  ·lia
  ·exact A9 _
  ·lia
def SqB (b:Bool)(K:Ab1)(H:Hp)(a:Addr)(xs:List V):Prop:=match b with|true=>SqT K H a xs|false=>SqL K H a xs
def Itz2 (K:Ab1)(b b':Bool)(l1 l2:Addr):It:=
 ⟨λi H=>∃xs ys x y,SqB b K H l1 xs/\SqB b' K H l2 ys/\xs[i]?=some x/\ys[i]?=some y,λi H v H'=>∃T x y,H T=none/\v=.ref T/\H'=Ag H T (.tup [x,y])/\∀xs ys,SqB b K H l1 xs->SqB b' K H l2 ys->xs[i]?=some x/\ys[i]?=some y,λi H=>∃xs,SqB b K H l1 xs/\(xs.length<=i\/∃ys x,SqB b' K H l2 ys/\xs[i]?=some x/\ys.length<=i)⟩
abbrev Itz (K:Ab1)(b:Bool)(l1 l2:Addr):It:=Itz2 K b b l1 l2
theorem Inv.seqB {b:Bool} {Ab:Aa2} {σ:St} {H:Hp} {a:Addr} {xs:List V} (I:Inv X Ab σ H s)(h:SqB b X.K H a xs):∃its:List Value,Vals xs its/\SSq b s.heap a its.toArray:=by
 cases b
 ·obtain⟨its,c,p,_⟩:=I.list h;exact⟨its,c,p.isList⟩
 ·obtain⟨its,c,p,_⟩:=I.tuple h;exact⟨its,c,p⟩
theorem Inv.seqB_inj {b:Bool} {Ab:Aa2} {σ:St} {H:Hp} {a:Addr} {xs ys:List V} (I:Inv X Ab σ H s)(h:SqB b X.K H a xs)(h':SqB b X.K H a ys):xs=ys:=by
 cases b
 ·exact I.list_inj h h'
 ·exact I.tuple_inj h h'
theorem qVX {K:Ab1} {a8:List Expr} {k:Nat} {ab:Pos} {b b':Bool} {z TI TO g f l1 l2:Addr} (D:C60 z TI TO g f l1 l2):Turn P w K (.Tuple a8 k ab) (Itz2 K b b' l1 l2) [z,TI,TO,g,f] z (λi h=>IsZip h z TI TO .none/\IsPair h TI (.ref g) (.ref f)/\(∃a c,IsPair h TO a c)/\SIt b h g l1 i/\SIt b' h f l2 i) where
 mem:=by simp
 obj:=λi h ⟨h1,h2,⟨a,c,h3⟩,h4,h5⟩ d hd=>by
  have it:∀{b:Bool} {j l:Addr},SIt b h j l i->∃o,h.get? j=some o/\∀v,o.data≠.cell v:=λ{b j l} q=>by
   cases b
   ·obtain⟨o,e,_,q⟩:=q;exact⟨o,e,λv z=>by rw[q] at z;cases z⟩
   ·obtain⟨o,e,_,q⟩:=q;exact⟨o,e,λv z=>by rw[q] at z;cases z⟩
  have e':d=z\/d=TI\/d=TO\/d=g\/d=f:=by simpa using hd
  rcases e' with rfl|rfl|rfl|rfl|rfl
  ·exact⟨_,h1,λv z=>by
    have z':A40 _=A28 v:=z;cases z'⟩
  ·exact⟨_,h2,λv z=>by
    have z':B67 _=A28 v:=z;cases z'⟩
  ·exact⟨_,h3,λv z=>by
    have z':B67 _=A28 v:=z;cases z'⟩
  ·exact it h4
  ·exact it h5
 keep:=λi h h' ⟨h1,h2,⟨a,c,h3⟩,h4,h5⟩ kk=>⟨kk z (by simp) _ h1,kk TI (by simp) _ h2,⟨a,c,kk TO (by simp) _ h3⟩,h4.at λo q=>kk g (by simp) o q,h5.at λo q=>kk f (by simp) o q⟩
 item:=by
  intro X hP hw hK hc i Ab s σ H E I hf st hg;subst hP hw hK;obtain⟨xs,ys,x,y,aa,m,hx,hy⟩:=hg;obtain⟨ae,rv,p1⟩:=I.seqB aa;obtain⟨af,r,p2⟩:=I.seqB m;obtain⟨u,hu,ru⟩:=rv.get hx;obtain⟨v,hv,ac⟩:=r.get hy;obtain⟨h1,h2,⟨a,c,h3⟩,h4,h5⟩:=st;refine qJ0 D h1 h2 h3 h4 h5 p1 p2 (x:=u) (y:=v) (by simpa using hu) (by simpa using hv) λh' a1 a2 a3 a4 a5 a6 a7=>⟨_,rfl,wpAny_letOwnedTupleGo_zip a1 λa0 b1 t=>?_⟩
  have a9:z<s.heap.objs.size:=B5 h1;have nz:s.heap.objs.size ≠ z:=V8 a9;have I1:Inv X Ab σ H { s with heap:=a0,toks:=s.toks }:=I.turnedL (ch:=[z,TI,TO,g,f]) (fun d o hd q=>by
   have e1:d≠z:=λq=>hd (by simp[q])
   exact(t.2 d e1).trans (a7 d o e1 (λq=>hd (by simp[q])) (λq=>hd (by simp[q])) (λq=>hd (by simp[q])) q)) hf
  have hT:H s.heap.objs.size=none:=I.hok.fresh (A9 _);have fT:=I.fpOk (H':=H) (b:=s.heap.objs.size) (A9 _) hT;have gT:a0.get? s.heap.objs.size=some {cls:=.type "tuple",data:=.seq #[u,v]}:=(t.2 _ nz).trans a5;refine⟨.ref s.heap.objs.size,Ag H s.heap.objs.size (.tup [x,y]),I1.track hT I.sz fT.2.1 fT.2.2.2.2.1 fT.2.2.2.2.2 ⟨by simp only[C9,O4];rw[B94];decide,[u,v],.cons ru (.cons ac .nil),⟨_,gT,rfl,_,rfl⟩⟩,rfl,
   ⟨_,x,y,hT,rfl,rfl,λai ag e1 e2=>by rw[I.seqB_inj e1 aa,I.seqB_inj e2 m];exact⟨hx,hy⟩⟩,⟨b1,(t.2 _ D.TIz).trans (a7 _ _ D.TIz D.TITO D.TIi1 D.TIi2 h2),⟨u,v,(t.2 _ D.TOz).trans a2⟩,a3.at λo q=>(t.2 _ D.i1z).trans q,a4.at λo q=>(t.2 _ D.i2z).trans q⟩,λd hd=>?_⟩
  have ad:d<s.heap.objs.size:=by
   have it:∀{b:Bool} {j l:Addr} {n:Nat},SIt b s.heap j l n->j<s.heap.objs.size:=λ{b j l n} q=>by
    cases b
    ·obtain⟨o,e,_,q⟩:=q;exact B5 e
    ·obtain⟨o,e,_,q⟩:=q;exact B5 e
   have e':d=z\/d=TI\/d=TO\/d=g\/d=f:=by simpa using hd
   rcases e' with rfl|rfl|rfl|rfl|rfl
   ·exact a9
   ·exact B5 h2
   ·exact B5 h3
   ·exact it h4
   ·exact it h5
  rw[qA8 (D7 ad)];exact(hf d hd).1
 done:=by
  intro X hP hw hK hc i Ab s σ H E I hf st hg;subst hP hw hK;obtain⟨xs,hq,hx⟩:=hg;obtain⟨ae,rv,p⟩:=I.seqB hq;have hl:=rv.length;obtain⟨h1,h2,⟨a,c,h3⟩,h4,h5⟩:=st;rcases hx with hx|⟨ys,x,m,hxx,hy⟩
  rotate_left
  ·obtain⟨af,r,p2⟩:=I.seqB m;have ah:=r.length;obtain⟨u,hu,ru⟩:=rv.get hxx;exact qJ1 (I.ok.hd hc) D h1 h2 h3 h4 h5 p p2 (x:=u) (by simpa using hu) (by simp;lia) λh' eb=>⟨rfl,I.turnedL (t':=s.toks) (ch:=[z,TI,TO,g,f]) (λd o hd q=>eb d o (λz=>hd (by simp[z])) (λz=>hd (by simp[z])) (λz=>hd (by simp[z])) (λz=>hd (by simp[z])) q) hf⟩
  exact qJT (I.ok.hd hc) D h1 h2 h4 p (by simp;lia) λh' eb=>⟨rfl,I.turnedL (t':=s.toks) (ch:=[z,TI,TO,g,f]) (λd o hd q=>eb d o (λz=>hd (by simp[z])) (λz=>hd (by simp[z])) q) hf⟩
 self:=λ_ _ _ _ _ ⟨h1,_⟩ h=>wpAny_pyIter_zip h1 h
theorem qaP {e:List Expr} {k:Nat} {a:Pos} {Ab:Aa2} {σ:St} {R:It->Hp->Prop} {H1:Hp} {b o:Bool} {l m:Addr} {xs ys:List V} (I1:Inv X Ab σ H1 s1)(hq:SqB b X.K H1 l xs)(f:SqB o X.K H1 m ys)(q:R (Itz2 X.K b o l m) H1):
  wpAny (model X.prog X.w) X.A (call (.type "zip") [.ref l,.ref m]) (λv s=>wpAny (model X.prog X.w) X.A (pyIter v) (PIE X Ab σ (.Tuple e k a) R) X.xe s) X.xe s1:=by
 obtain⟨a0,rv,x⟩:=I1.seqB hq;obtain⟨a1,a2,r⟩:=I1.seqB f;refine qVD x r λh' z TI u i1 y D p i h j g d hk=>wpAny_pyIter_zip p ?_;have t:Inv X Ab σ H1 {s1 with heap:=h'}:=I1.kept (t':=s1.toks) hk;exact⟨z,[z,TI,u,i1,y],_,_,H1,rfl,t,qVX D,⟨p,i,⟨_,_,h⟩,j,g⟩,λc n=>I1.fpOk (d c n) (I1.hok.fresh (d c n)),q⟩
def iZip (K:Ab1)(ta:TA):TI:=λσ H R=>ta σ H λvs H1=>E3 λb l m=>vs=[.ref l,.ref m]/\(∃xs,SqB b K H1 l xs)/\(∃xs,SqB b K H1 m xs)/\R (Itz K b l m) H1
theorem qNG {c:List Expr} {k:Nat} {d:Pos} {a b:Expr} {j:TA} {p f:Pos} (r:Gl X "zip") (n:X.mg "zip" = none) (o:B97 "zip" = some (.type "zip")) (y:PA X [a,b] j) (x:B95 [a,b] X.env=[(false,eval a X.env),(false,eval b X.env)]:=by rfl) (g:B95 [b] X.env=[(false,eval b X.env)]:=by rfl):
  PI X (.Tuple c k d) (.Call (.Name "zip" p) [a,b] [] f) (iZip X.K j):=by
 intro w s σ H R I h;refine Call_ (qIO I r n o (P4 (thn (y f w s σ H _ I h) λus s1 ⟨vs,H1,I1,r1,q1⟩=>?_) (by rw[x,g]) (by rw[g];rfl)))
 obtain⟨bb,l,m,e,⟨xs,t⟩,⟨ys,i⟩,q⟩:=q1;subst e;obtain⟨u,v,rfl,rx,z⟩:=qOI r1;cases rx;cases z;exact qaP I1 t i q
theorem qXU {K:Ab1} {b:Bool} {l m:Addr} {xs ys:List V} {g:TG} {f:TT} {j:TE} {Kf:Hp->Prop} {σ0:St} {H0:Hp} {p:Addr} (h:xs.length=ys.length)(Pv:Nat->St->Hp->Prop)(r:Pv 0 σ0 H0)(t:∀i σ H,i<=xs.length->Pv i σ H->SqB b K H l xs/\SqB b K H m ys)
  (s:∀i x y σ H T,xs[i]?=some x->ys[i]?=some y->Pv i σ H->H T=none->g (.ref T) σ (Ag H T (.tup [x,y])) λσ2 H2=>f σ2 H2 λb H3=>if b=true then j σ2 H3 λy H4=>∃ys,H4 p=some (.lst ys)/\ys.length<B89/\Pv (i+1) σ2 (Ag H4 p (.lst (ys++[y]))) else Pv (i+1) σ2 H3)
  (z:∀σ H,Pv xs.length σ H->Kf H):
  LcG (Itz K b l m) g f j Kf σ0 H0 p:=by
 refine⟨λi n σ H=>n=xs.length-i/\i<=xs.length/\Pv i σ H,⟨xs.length,by simp,G6 _,r⟩,?_⟩
 rintro i n σ H ⟨rfl,hi,q⟩;have a:=t i σ H hi q;by_cases c:i<xs.length
 ·refine .inr ⟨⟨xs,ys,xs[i],ys[i]'(by lia),a.1,a.2,by simp[c],A5 _⟩,Pv (i+1),λσ' k w=>⟨xs.length-(i+1),by lia,rfl,c,w⟩,λv k y=>?_⟩
  obtain⟨T,x,y,hT,u,o,d⟩:=y;subst u o;exact s i x y σ H T (d xs ys a.1 a.2).1 (d xs ys a.1 a.2).2 q hT
 ·have e:i=xs.length:=by lia
  subst e;exact .inl ⟨⟨xs,a.1,.inl (A9 _)⟩,z σ H q⟩
theorem qZO {K:Ab1} {b:Bool} {l m:Addr} {xs ys:List V} {g:TG} {h:TT} {o:TE} {Kf:Hp->Prop} {σ0:St} {H0:Hp} {p:Addr} (j:ys.length<=xs.length)(Pv:Nat->St->Hp->Prop)(w:Pv 0 σ0 H0)(u:∀i σ H,i<=ys.length->Pv i σ H->SqB b K H l xs/\SqB b K H m ys)
  (t:∀i x y σ H T,xs[i]?=some x->ys[i]?=some y->Pv i σ H->H T=none->g (.ref T) σ (Ag H T (.tup [x,y])) λσ2 H2=>h σ2 H2 λb H3=>if b=true then o σ2 H3 λy H4=>∃ys,H4 p=some (.lst ys)/\ys.length<B89/\Pv (i+1) σ2 (Ag H4 p (.lst (ys++[y]))) else Pv (i+1) σ2 H3)
  (k:∀σ H,Pv ys.length σ H->Kf H):
  LcG (Itz K b l m) g h o Kf σ0 H0 p:=by
 refine⟨λi n σ H=>n=ys.length-i/\i<=ys.length/\Pv i σ H,⟨ys.length,by simp,G6 _,w⟩,?_⟩
 rintro i n σ H ⟨rfl,hi,q⟩;have a:=u i σ H hi q;by_cases d:i<ys.length
 ·refine .inr ⟨⟨xs,ys,xs[i]'(by lia),ys[i],a.1,a.2,A5 _,by simp[d]⟩,Pv (i+1),λσ' r p'=>⟨ys.length-(i+1),by lia,rfl,d,p'⟩,λv r y=>?_⟩
  obtain⟨T,x,y,hT,z,s,f⟩:=y;subst z s;exact t i x y σ H T (f xs ys a.1 a.2).1 (f xs ys a.1 a.2).2 q hT
 ·have e:i=ys.length:=by lia
  subst e;by_cases c:ys.length<xs.length
  ·exact .inl ⟨⟨xs,a.1,.inr ⟨ys,xs[ys.length],a.2,A5 _,A9 _⟩⟩,k σ H q⟩
  ·exact .inl ⟨⟨xs,a.1,.inl (by lia)⟩,k σ H q⟩
theorem qS0 {M:Model} {c:Value} {Q:Bool->Shared->Prop} (h:∀b,Q b s):wpAny M A (i4 c) Q E s:=by
 unfold i4;exact B87 (wpAny_stack_any λa=>B88 (h _))
theorem qUV (l:Addr) (a:Array Value):Meets (Builtin.«enumerate.__new__» {pos:=[.type "enumerate",.ref l]}) λ_ R s=>
  s.heap.IsTuple l a/\R (.ok (.ret (.ref (s.heap.push (itObj true l)).objs.size))) {s with heap:=(s.heap.push (itObj true l)).push {cls:=.type "enumerate",data:=.fields #[.none,.bool false,.ref s.heap.objs.size,rawInt 0,.none,.none]}}:=by
 refine Meets.of_wp λc w A R s h=>?_;obtain⟨j,h⟩:=h;refine B87 (B87 (B88 (C28 rfl (B87 (C37 sub_enumerate (C28 rfl (B88 (wpAny_ite_true rfl (B87 (qS0 λk=>?_))))))))));have g:wpAny (model c w) A.in1 (pyIter (.ref l) >>= λi=>Z7 (.type "enumerate") (A97++[i,rawInt 0,.none,.none]) >>= λv=>ret v) (λd f=>∃v,d=.done (.ret v)/\R (.ok (.ret v)) f) (λe f=>R (.error e) f) s:=by
  refine B87 (qI5 (b:=true) j (B87 ?_));unfold Z7;dsimp only;refine B98 ?_ (by first|rfl|(show(6:Nat)<=B89+2;rw[B94];decide))
  exact B88 ⟨_,rfl,h⟩
 cases k
 ·exact g
 ·exact g
theorem qS6 {l:Addr} {a:Array Value} {Q:Aa1} (f:s.heap.IsTuple l a)
  (h:∀h':Heap,IsEnum h' (s.heap.objs.size+1) s.heap.objs.size 0 .none->h'.IsTupleIter s.heap.objs.size l 0->h'.objs.size=s.heap.objs.size+2->(∀(b:Addr) (o:Obj),s.heap.get? b=some o->h'.get? b=some o)->Q (.ref (s.heap.objs.size+1)) {s with heap:=h'}):
  wpAny (model prog w) A (call (.type "enumerate") [.ref l]) Q E s:=by
 refine callType_new F.called_enumerate (by decide) (F.typeCall_enumerate_1 _) (F.newCall_enumerate_1 _) (λd=>A83 d _) F.entry_enumerate_new (qUV l a) ⟨f,?_⟩
 have c:(s.heap.push (itObj true l)).objs.size=s.heap.objs.size+1:=M7 ..;rw[c];have g:((s.heap.push (itObj true l)).push {cls:=.type "enumerate",data:=.fields #[.none,.bool false,.ref s.heap.objs.size,rawInt 0,.none,.none]}).get? (s.heap.objs.size+1)=some {cls:=.type "enumerate",data:=.fields #[.none,.bool false,.ref s.heap.objs.size,rawInt 0,.none,.none]}:=by
  rw[<- c];exact B7 _ rfl
 exact⟨⟨_,g,rfl⟩,h _ g ⟨_,A4 _ (B7 _ rfl),rfl,rfl⟩ ((M7 ..).trans (by rw[c])) λb o e=>A4 _ (A4 _ e)⟩
theorem qY4 (g:A.handled=none)(d l:Addr)(f:l≠d)(c:Array Value):Draws prog w A d [d,l] c.size (λi v=>c[i]?=some v) λi h=>h.IsTupleIter d l i/\h.IsTuple l c where
 live:=λi h ⟨⟨o,e,_⟩,_⟩=>⟨o,e⟩
 frame:=λi h h' ⟨⟨o,e,r⟩,⟨o2,e2,r2⟩⟩ k=>⟨⟨o,k d (by simp) _ e,r⟩,⟨o2,k l (by simp) _ e2,r2⟩⟩
 item:=λi s Q E hi ⟨h1,h2⟩ hQ=>qEI h1 h2 (D0 hi) λh' a b=>hQ _ h' s.toks (D0 hi) ⟨a,by obtain⟨o,e,r⟩:=h2;exact⟨o,(b.2 l f).trans e,r⟩⟩ b
 done:=λs Q E ⟨h1,h2⟩ hE=>qFF g h1 h2 (by simp) hE
def IteT (K:Ab1)(l:Addr):It:=
 ⟨λi H=>∃xs x,SqT K H l xs/\xs[i]?=some x,λi H v H'=>∃T x,H T=none/\v=.ref T/\H'=Ag H T (.tup [.int (i:Int),x])/\∀xs,SqT K H l xs->xs[i]?=some x,λi H=>∃xs,SqT K H l xs/\xs.length=i⟩
theorem qRB {K:Ab1} {y:List Expr} {k:Nat} {a7:Pos} (l a e:Addr)(m:e≠a)(hl:l≠a)(a8:l≠e):Turn P w K (.Tuple y k a7) (IteT K l) [e,a] e (λi h=>(∃old,IsEnum h e a i old)/\h.IsTupleIter a l i) where
 mem:=by simp
 obj:=λi h f b j=>by
  obtain⟨⟨old,d⟩,o,g,_,h4⟩:=f;have e':b=e\/b=a:=by simpa using j
  rcases e' with rfl|rfl
  ·exact⟨_,d,λv z=>by
    have z':A40 _=A28 v:=z;cases z'⟩
  ·exact⟨o,g,λv z=>by rw[h4] at z;cases z⟩
 keep:=λi h h' f kk=>by
  obtain⟨⟨old,d⟩,g⟩:=f;exact⟨⟨old,kk e (by simp) _ d⟩,g.at λo q=>kk a (by simp) o q⟩
 item:=by
  intro X hP hw hK hc i Ab s σ H E I hf f hg;subst hP hw hK;obtain⟨xs,x,hq,hx⟩:=hg;obtain⟨c,rv,p,hz⟩:=I.tuple hq;obtain⟨u,hu,ru⟩:=rv.get hx;obtain⟨⟨old,d⟩,g⟩:=f;have n:i<c.toArray.size:=by have:=(A3.mp hu).1;simpa using this
  refine wpAny_pyNext_enum_itemD (qY4 (A:=X.A.in1) (I.ok.hd hc) a l hl c.toArray) d ⟨g,p⟩ n m (by simp[m,K9 a8]) λu' h' tk a0 a1 a2 a3 a4 a5=>?_
  have eu:u'=u:=by
   have:c[i]?=some u':=by simpa using a0
   rw[hu] at this;exact(G0 this).symm
  subst eu;refine ⟨_,rfl,wpAny_letOwnedTupleGo_enum a1 fun r b1 b2=>?_⟩;have a6:e<s.heap.objs.size:=B5 d;have I1:Inv X Ab σ H { s with heap:=r,toks:=tk+1 }:=I.turnedL (ch:=[e,a]) (fun b o j q=>by
   have t:b≠e:=λz=>j (by simp[z])
   have aa:b≠a:=λz=>j (by simp[z])
   exact(b2.2 b t).trans (a5 b o t aa q)) hf
  have hT:H s.heap.objs.size=none:=I.hok.fresh (A9 _);have fT:=I.fpOk (H':=H) (b:=s.heap.objs.size) (A9 _) hT;have gT:r.get? s.heap.objs.size=some {cls:=.type "tuple",data:=.seq #[.int i tk,u']}:=(b2.2 _ (V8 a6)).trans a3;refine⟨.ref s.heap.objs.size,Ag H s.heap.objs.size (.tup [.int (i:Int),x]),I1.track hT I.sz fT.2.1 fT.2.2.2.2.1 fT.2.2.2.2.2 ⟨by simp only[C9,O4];rw[B94];decide,[.int (i:Int) tk,u'],.cons ⟨_,rfl⟩ (.cons ru .nil),⟨_,gT,rfl,_,rfl⟩⟩,rfl,
   ⟨_,x,hT,rfl,rfl,λys hy=>by rw[I.tuple_inj hy hq];exact hx⟩,⟨⟨_,b1⟩,a2.1.at λo q=>(b2.2 a (K9 m)).trans q⟩,λb j=>?_⟩
  have a9:b<s.heap.objs.size:=by
   have e':b=e\/b=a:=by simpa using j
   rcases e' with rfl|rfl
   ·exact a6
   ·obtain⟨o,q,_⟩:=g;exact B5 q
  rw[qA8 (D7 a9)];exact(hf b j).1
 done:=by
  intro X hP hw hK hc i Ab s σ H E I hf f hg;subst hP hw hK;obtain⟨xs,hq,hx⟩:=hg;obtain⟨c,rv,p,hz⟩:=I.tuple hq;have ab:=rv.length;obtain⟨⟨old,d⟩,g⟩:=f;have n:i=c.toArray.size:=by simp;lia
  subst n;exact wpAny_pyNext_enum_endD (qY4 (A:=X.A.in1) (I.ok.hd hc) a l hl c.toArray) d ⟨g,p⟩ λh' eb=>⟨rfl,I.turnedL (t':=s.toks) (ch:=[e,a]) (λb o j q=>eb b o (λz=>j (by simp[z])) q) hf⟩
 self:=λ_ _ _ _ _ f h=>by
  obtain⟨⟨old,d⟩,g⟩:=f;exact C55 d h
def qcH (K:Ab1)(ta:TA):TI:=λσ H R=>ta σ H λvs H1=>∃l,vs=[.ref l]/\(∃xs,SqT K H1 l xs)/\R (IteT K l) H1
theorem qWB {g:List Expr} {k:Nat} {f:Pos} {a:Expr} {i:TA} {p c:Pos} (r:Gl X "enumerate") (hm:X.mg "enumerate" = none) (hv:B97 "enumerate" = some (.type "enumerate")) (ha:PA X [a] i) (z:B95 [a] X.env=[(false,eval a X.env)]:=by rfl):
  PI X (.Tuple g k f) (.Call (.Name "enumerate" p) [a] [] c) (qcH X.K i):=by
 intro n s σ H R I h;refine Call_ (qIO I r hm hv (P4 (thn (ha c n s σ H _ I h) λus s1 ⟨vs,H1,I1,r1,q1⟩=>?_) z rfl));obtain⟨l,e,⟨xs,hq⟩,q⟩:=q1;subst e;obtain⟨u,rfl,rx⟩:=qEC r1;cases rx;obtain⟨w,rv,j,hz⟩:=I1.tuple hq;have d:l<s1.heap.objs.size:=by obtain⟨o,e,_⟩:=j;exact B5 e
 refine qS6 j λx m y a0 hk=>C55 m ?_;have t:Inv X n σ H1 {s1 with heap:=x}:=I1.kept (t':=s1.toks) hk;refine⟨s1.heap.objs.size+1,[s1.heap.objs.size+1,s1.heap.objs.size],_,_,H1,rfl,t,qRB l s1.heap.objs.size (s1.heap.objs.size+1) (x6 _) (D7 d) (D7 (O2 d)),⟨⟨_,m⟩,y⟩,λb hb=>?_,q⟩;have v:b=s1.heap.objs.size+1\/b=s1.heap.objs.size:=by simpa using hb
 rcases v with rfl|rfl
 ·exact I1.fpOk (W9 _) (I1.hok.fresh (W9 _))
 ·exact I1.fpOk (A9 _) (I1.hok.fresh (A9 _))
theorem qUQ {K:Ab1} {a:Addr} {xs:List V} {g:TG} {d:TS} {D:Ends} {σ0:St} {H0:Hp} (Pv:Nat->St->Hp->Prop)(h:Pv 0 σ0 H0)(k:∀i σ H,i<=xs.length->Pv i σ H->SqT K H a xs)
  (j:∀i x σ H T,xs[i]?=some x->Pv i σ H->H T=none->g (.ref T) σ (Ag H T (.tup [.int (i:Int),x])) λσ2 H2=>d {D with nx:=Pv (i+1),ct:=Pv (i+1),bk:=D.nx} σ2 H2)
  (o:∀σ H,Pv xs.length σ H->D.nx σ H):
  ∃W:Nat->Nat->St->Hp->Prop,(∃m,W 0 m σ0 H0)/\∀i m σ H,W i m σ H->
   ((IteT K a).stop i H/\D.nx σ H)\/((IteT K a).go i H/\∃N:St->Hp->Prop,(∀σ' H',N σ' H'->∃m',m'<m/\W (i+1) m' σ' H')/\∀x H',(IteT K a).yld i H x H'->g x σ H' λσ2 H2=>d {D with nx:=N,ct:=N,bk:=D.nx} σ2 H2):=by
 refine⟨λi m σ H=>m=xs.length-i/\i<=xs.length/\Pv i σ H,⟨xs.length,by simp,G6 _,h⟩,?_⟩
 rintro i m σ H ⟨rfl,hi,q⟩;have c:=k i σ H hi q;by_cases b:i<xs.length
 ·refine .inr ⟨⟨xs,xs[i],c,by simp[b]⟩,Pv (i+1),λσ' H' n=>⟨xs.length-(i+1),by lia,rfl,b,n⟩,λv H' y=>?_⟩
  obtain⟨T,x,p,l,f,y⟩:=y;subst l f;exact j i x σ H T (y xs c) q p
 ·have e:i=xs.length:=by lia
  subst e;exact .inl ⟨⟨xs,c,rfl⟩,o σ H q⟩
open PySem
@[irreducible] def cst (i:Int)(p:Pos):Expr:=.Constant (.int i) 0 p
@[elab_as_elim] theorem us0 {α:Type}{P:List α->Prop}(a:List α)(b:a.length=0)(h:P []):P a:=by
 match a,b with
 |[],_=>exact h
@[elab_as_elim] theorem us1 {α:Type}{P:List α->Prop}(b:List α)(c:b.length=1)(h:∀a,P [a]):P b:=by
 match b,c with
 |[a],_=>exact h a
@[elab_as_elim] theorem us2 {α:Type}{P:List α->Prop}(c:List α)(d:c.length=2)(h:∀a b,P [a,b]):P c:=by
 match c,d with
 |[a,b],_=>exact h a b
@[elab_as_elim] theorem us3 {α:Type}{P:List α->Prop}(d:List α)(e:d.length=3)(h:∀a b c,P [a,b,c]):P d:=by
 match d,e with
 |[a,b,c],_=>exact h a b c
@[elab_as_elim] theorem us4 {α:Type}{P:List α->Prop}(e:List α)(f:e.length=4)(h:∀a b c d,P [a,b,c,d]):P e:=by
 match e,f with
 |[a,b,c,d],_=>exact h a b c d
end L2
namespace L2.G
open PySem PyProof.Rows
abbrev gSM:=StateT SortSt Sem
class NM where
 nm:Value->Int
 good:Value->Prop
variable[NM]
def gkv (p:Keyed):Int:=NM.nm p.1
def gIK (p:Keyed):Prop:=NM.good p.1
class LtOk (prog:B90)(w:World)(A:Around)(s:Shared)(κ0:C25):Prop where
 lt:∀{x y:Value} {Q:Bool->Shared->Prop} {E:Aa1},NM.good x->NM.good y->Q (decide (NM.nm x<NM.nm y)) s->wpAny (model prog w) A (keyLt' κ0 x y) Q E s
def gK (xs:Array Keyed)(i:Nat):Int:=match xs[i]? with
 |some p=>NM.nm p.1
 |none=>0
def gSortedTo (xs:Array Keyed)(k:Nat):Prop:=∀i j,i<=j->j<k->gK xs i<=gK xs j
def qCN (xs:Array Keyed):Prop:=∀p,p∈xs.toList->NM.good p.1
theorem qZZ {xs:Array Keyed} {i:Nat} (hi:i<xs.size):gK xs i=NM.nm xs[i].1:=by unfold gK;rw[getElem?_pos xs i hi]
theorem qG5 {xs ys:Array Keyed} {i j:Nat} (h:xs[i]?=ys[j]?):gK xs i=gK ys j:=by unfold gK;rw[h]
theorem qK9 {xs:Array Keyed} {a d:Nat} (f:a<xs.size)(g:d<=a)(k:Nat):
  gK (bubble xs a d) k=if k=a-d then gK xs a else if a-d<k/\k<=a then gK xs (k-1) else gK xs k:=by
 have e:=getElem?_bubble f d g k;by_cases c:k=a-d
 ·rw[if_pos c] at e ⊢;exact qG5 e
 ·rw[if_neg c] at e ⊢;by_cases b:a-d<k/\k<=a
  ·rw[if_pos b] at e ⊢;exact qG5 e
  ·rw[if_neg b] at e ⊢;exact qG5 e
theorem qHM {xs:Array Keyed} {i j:Nat} (b:j<=xs.size)(k:Nat):
  gK (mirror xs i j ((j-i)/2)) k=if i<=k/\k<j then gK xs (i+j-1-k) else gK xs k:=by
 have e:=getElem?_mirror_all (i:=i) b k;by_cases a:i<=k/\k<j
 ·rw[if_pos a] at e ⊢;exact qG5 e
 ·rw[if_neg a] at e ⊢;exact qG5 e
theorem qB1 {xs:Array Keyed} {i j:Nat} (c:j<=xs.size)(a:∀k,i<=k->k<j->gK xs k=gK xs (j-1))(k:Nat):
  gK (mirror xs i j ((j-i)/2)) k=gK xs k:=by
 rw[qHM c]
 split
 ·rw[a _ (by omega) (by omega),a k (by omega) (by omega)]
 ·rfl
def qWX:Bool->Keyed->Array Keyed->Nat->Nat->Nat->gSM (Option Nat):=sortPriv% PySem.Builtin.gallop
noncomputable def gbey (left:Bool)(key:Keyed)(arr:Array Keyed)(base i:Nat):gSM (Option Bool):=do
 let x <- elem' arr (base+i)
 if left=true then lt' x key else do
  let r <- lt' key x
  pure (r.map λb=>!b)
section
variable{prog:B90}{w:World}{A:Around}{E:Aa1}{s:Shared}{κ0:C25}[LtOk prog w A s κ0]
theorem qHJ {st:SortSt} {x y:Keyed} {Q:Option Bool->SortSt->Prop} (c:kindOf st=κ0)(b:gIK x)(a:gIK y)(h:Q (some (decide (gkv x<gkv y))) st):wpS (model prog w) A E s (lt' x y) Q st:=by
 rw[lt'_eq];refine B91 (C33 ?_);rw[c];exact B91 (wpS_lift (C44 (LtOk.lt b a ⟨rfl,B92 h⟩)))
theorem qBC {st:SortSt} {a:Array Keyed} {i:Nat} {x:Keyed} {Q:Keyed->SortSt->Prop} (h:a[i]?=some x)(b:Q x st):wpS (model prog w) A E s (elem' a i) Q st:=by
 rw[elem'_eq,h];exact B92 b
noncomputable def qAR (left:Bool)(key:Keyed)(a:Array Keyed)(base i:Nat):Bool:=match a[base+i]? with
 |some x=>if left=true then decide (gkv x<gkv key) else decide (gkv x<=gkv key)
 |none=>false
theorem qHK {st:SortSt} {left:Bool} {b:Keyed} {a:Array Keyed} {base i:Nat} {Q:Option Bool->SortSt->Prop} (f:kindOf st=κ0)(c:gIK b)(g:∀x∈a.toList,gIK x)(hi:base+i<a.size)(h:Q (some (qAR left b a base i)) st):
  wpS (model prog w) A E s (gbey left b a base i) Q st:=by
 unfold gbey;have e:a[base+i]?=some (a[base+i]'hi):=D0 hi;have d:gIK (a[base+i]'hi):=g _ (by simp)
 unfold qAR at h;rw[e] at h;refine B91 (qBC e ?_);cases left with
 |true=>exact qHJ f d c h
 |false=>
  refine B91 (qHJ f c d (B92 ?_));have:(!decide (gkv b<gkv a[base+i]))=decide (gkv a[base+i]<=gkv b):=by
   by_cases q:gkv b<gkv a[base+i]
   ·rw[decide_eq_true q,decide_eq_false (by omega)];rfl
   ·rw[decide_eq_false q,decide_eq_true (by omega)];rfl
  show Q (some (!decide (gkv b<gkv a[base+i]))) st;rw[this];exact h
theorem qG3 {st:SortSt} {left:Bool} {b:Keyed} {a:Array Keyed} {base n hint:Nat} {Q:Option Nat->SortSt->Prop} (hk:kindOf st=κ0)(t:gIK b)(ha:∀x∈a.toList,gIK x)(hn:base+n<=a.size)(hh:hint<n)
  (p:∀i j,i<=j->j<n->qAR left b a base j=true->qAR left b a base i=true)
  (h:∀k,k<=n->(∀i,i<k->qAR left b a base i=true)->(∀i,k<=i->i<n->qAR left b a base i=false)->Q (some k) st):
  wpS (model prog w) A E s (qWX left b a base n hint) Q st:=by
 have m:∀i j,i<=j->j<n->qAR left b a base i=false->qAR left b a base j=false:=λi j a0 hj e=>by
  cases q:qAR left b a base j with
  |false=>rfl
  |true=>rw[p i j a0 hj q] at e;cases e
 unfold qWX;show wpS _ _ _ _ (gbey left b a base hint >>= _) _ _;refine B91 (qHK hk t ha (by omega) ?_)
 dsimp only;cases e:qAR left b a base hint with
 |true=>
  rw [if_pos rfl];refine B91 (C17 (C05 (I:=fun x c f=>f=st/\∃ l o,c=(none,l,o)/\l<o/\x+1<=o/\hint+l<n/\qAR left b a base (hint+l)=true)
   (Q:=λc f=>f=st/\∃l o,c=(none,l,o)/\l<o/\hint+l<n/\qAR left b a base (hint+l)=true/\(o>=n-hint\/qAR left b a base (hint+o)=false)) ?step ?fin ⟨rfl,0,1,rfl,by omega,by omega,by omega,e⟩) ?post)
  case fin=>
   rintro c f ⟨rfl,l,o,rfl,h1,h2,h3,h4⟩;exact⟨rfl,l,o,rfl,h1,h3,h4,.inl (by omega)⟩
  case step=>
   rintro x c f _ hx ⟨rfl,l,o,rfl,h1,h2,h3,h4⟩;dsimp only;by_cases g:o>=n-hint
   ·rw[if_pos g];exact B92 ⟨rfl,l,o,rfl,h1,h3,h4,.inl g⟩
   ·rw[if_neg g];show wpS _ _ _ _ (gbey left b a base (hint+o) >>= _) _ _;refine B91 (qHK hk t ha (by omega) ?_)
    dsimp only;cases e2:qAR left b a base (hint+o) with
    |false=>
     rw[if_pos (by rfl)]
     exact B92 ⟨rfl,l,o,rfl,h1,h3,h4,.inr e2⟩
    |true=>
     rw[if_neg (by simp)]
     exact B92 ⟨rfl,o,2*o+1,rfl,by omega,by omega,by omega,e2⟩
  case post=>
   rintro c f ⟨rfl,l,o,rfl,h1,h3,h4,h5⟩;dsimp only;have z:∀i,i<hint+l+1->qAR left b a base i=true:=λi v=>p i (hint+l) (by omega) h3 h4
   have y:∀i,hint+min o (n-hint)<=i->i<n->qAR left b a base i=false:=λi v u=>by
    rcases h5 with h5|h5
    ·omega
    ·exact m (hint+o) i (by omega) u h5
   refine B91 (C17 (C05 (I:=fun x c d=>d=f/\∃ l r,c=(none,l,r)/\l<=r/\r<=n/\r - l<=n - x/\(∀ i,i<l->qAR left b a base i=true)/\∀ i,r<=i->i<n->qAR left b a base i=false)
    (Q:=λc d=>d=f/\∃l,c=(none,l,l)/\l<=n/\(∀i,i<l->qAR left b a base i=true)/\∀i,l<=i->i<n->qAR left b a base i=false) ?bstep ?bfin ⟨rfl,hint+l+1,hint+min o (n-hint),rfl,by omega,by omega,by omega,z,y⟩) ?bpost)
   case bfin=>
    rintro c d ⟨rfl,l,r,rfl,h1,h2,h3,h4,h5⟩;have:l=r:=by omega
    subst this;exact⟨rfl,l,rfl,h2,h4,h5⟩
   case bpost=>
    rintro c d ⟨rfl,l,rfl,h1,h2,h3⟩;exact B92 (h l h1 h2 h3)
   case bstep=>
    rintro x c d _ hx ⟨rfl,l,r,rfl,h1,h2,h3,h4,h5⟩;dsimp only;by_cases g:l>=r
    ·rw[if_pos g];have:l=r:=by omega
     subst this;exact B92 ⟨rfl,l,rfl,h2,h4,h5⟩
    ·rw[if_neg g];show wpS _ _ _ _ (gbey left b a base (l+(r-l)/2) >>= _) _ _;refine B91 (qHK hk t ha (by omega) ?_)
     dsimp only;cases e9:qAR left b a base (l+(r-l)/2) with
     |true=>
      rw[if_pos rfl];exact B92 ⟨rfl,_,_,rfl,by omega,h2,by omega,λi v=>p i _ (by omega) (by omega) e9,h5⟩
     |false=>
      rw[if_neg B8];exact B92 ⟨rfl,_,_,rfl,by omega,by omega,by omega,h4,λi v u=>m _ i v u e9⟩
 |false=>
  rw [if_neg B8];refine B91 (C17 (C05 (I:=fun x c f=>f=st/\∃ l o,c=(none,l,o)/\l<o/\x+1<=o/\l<=hint/\qAR left b a base (hint - l)=false)
   (Q:=λc f=>f=st/\∃l o,c=(none,l,o)/\l<o/\l<=hint/\qAR left b a base (hint-l)=false/\(o>=hint+1\/qAR left b a base (hint-o)=true)) ?step ?fin ⟨rfl,0,1,rfl,by omega,by omega,by omega,e⟩) ?post)
  case fin=>
   rintro c f ⟨rfl,l,o,rfl,h1,h2,h3,h4⟩;exact⟨rfl,l,o,rfl,h1,h3,h4,.inl (by omega)⟩
  case step=>
   rintro x c f _ hx ⟨rfl,l,o,rfl,h1,h2,h3,h4⟩;dsimp only;by_cases g:o>=hint+1
   ·rw[if_pos g];exact B92 ⟨rfl,l,o,rfl,h1,h3,h4,.inl g⟩
   ·rw[if_neg g];show wpS _ _ _ _ (gbey left b a base (hint-o) >>= _) _ _;refine B91 (qHK hk t ha (by omega) ?_)
    dsimp only;cases e2:qAR left b a base (hint-o) with
    |true=>
     rw[if_pos rfl];exact B92 ⟨rfl,l,o,rfl,h1,h3,h4,.inr e2⟩
    |false=>
     rw[if_neg B8];exact B92 ⟨rfl,o,2*o+1,rfl,by omega,by omega,by omega,e2⟩
  case post=>
   rintro c f ⟨rfl,l,o,rfl,h1,h3,h4,h5⟩;dsimp only;have z:∀i,i<hint+1-min o (hint+1)->qAR left b a base i=true:=λi v=>by
    rcases h5 with h5|h5
    ·omega
    ·exact p i (hint-o) (by omega) (by omega) h5
   have y:∀ i,hint - l<=i->i<n->qAR left b a base i=false:=fun i v u=>m (hint - l) i v u h4;refine B91 (C17 (C05 (I:=fun x c d=>d=f/\∃ l r,c=(none,l,r)/\l<=r/\r<=n/\r - l<=n - x/\(∀ i,i<l->qAR left b a base i=true)/\∀ i,r<=i->i<n->qAR left b a base i=false)
    (Q:=λc d=>d=f/\∃l,c=(none,l,l)/\l<=n/\(∀i,i<l->qAR left b a base i=true)/\∀i,l<=i->i<n->qAR left b a base i=false) ?bstep ?bfin ⟨rfl,hint+1-min o (hint+1),hint-l,rfl,by omega,by omega,by omega,z,y⟩) ?bpost)
   case bfin=>
    rintro c d ⟨rfl,l,r,rfl,h1,h2,h3,h4,h5⟩;have:l=r:=by omega
    subst this;exact⟨rfl,l,rfl,h2,h4,h5⟩
   case bpost=>
    rintro c d ⟨rfl,l,rfl,h1,h2,h3⟩;exact B92 (h l h1 h2 h3)
   case bstep=>
    rintro x c d _ hx ⟨rfl,l,r,rfl,h1,h2,h3,h4,h5⟩;dsimp only;by_cases g:l>=r
    ·rw[if_pos g];have:l=r:=by omega
     subst this;exact B92 ⟨rfl,l,rfl,h2,h4,h5⟩
    ·rw[if_neg g];show wpS _ _ _ _ (gbey left b a base (l+(r-l)/2) >>= _) _ _;refine B91 (qHK hk t ha (by omega) ?_)
     dsimp only;cases e9:qAR left b a base (l+(r-l)/2) with
     |true=>
      rw[if_pos rfl];exact B92 ⟨rfl,_,_,rfl,by omega,h2,by omega,λi v=>p i _ (by omega) (by omega) e9,h5⟩
     |false=>
      rw[if_neg B8];exact B92 ⟨rfl,_,_,rfl,by omega,by omega,by omega,h4,λi v u=>m _ i v u e9⟩
end
end L2.G
namespace L2.G
open PySem PyProof.Rows
variable[NM]
structure gMR (R:Keyed->Keyed->Prop)(all out ra rb:List Keyed):Prop where
 perm:(out++(ra++rb)).Perm all
 up:out.Pairwise R
 ua:ra.Pairwise R
 ub:rb.Pairwise R
 la:∀x∈out,∀y∈ra,R x y
 lb:∀x∈out,∀y∈rb,R x y
section
variable{R:Keyed->Keyed->Prop}{all out ra rb xs:List Keyed}
def gMR.symm (h:gMR R all out ra rb):gMR R all out rb ra:=⟨((List.Perm.refl out).append (List.perm_append_comm)).trans h.perm,h.up,h.ub,h.ua,h.lb,h.la⟩
theorem gMR.takeA (h:gMR R all out (xs++ra) rb)(c:∀x∈xs,∀y∈rb,R x y):gMR R all (out++xs) ra rb:=by
 have ua:=O6.mp h.ua;refine⟨?_,O6.mpr ⟨h.up,ua.1,λx hx y a=>h.la x hx y (C1.mpr (.inl a))⟩,ua.2.1,h.ub,λx hx y a=>?_,λx hx y a=>?_⟩
 ·have e:out++xs++(ra++rb)=out++((xs++ra)++rb):=by simp[J4]
  rw[e];exact h.perm
 ·rcases C1.mp hx with hx|hx
  ·exact h.la x hx y (C1.mpr (.inr a))
  ·exact ua.2.2 x hx y a
 ·rcases C1.mp hx with hx|hx
  ·exact h.lb x hx y a
  ·exact c x hx y a
def gMR.takeB (h:gMR R all out ra (xs++rb))(c:∀x∈xs,∀y∈ra,R x y):gMR R all (out++xs) ra rb:=(gMR.takeA h.symm c).symm
theorem gMR.allA (h:gMR R all out ra []):(out++ra).Perm all/\(out++ra).Pairwise R:=by
 have a:gMR R all out (ra++[]) []:=by rw[M6];exact h
 have q:=a.takeA λ_ _ _ z=>nomatch z;exact⟨by have:=q.perm;simpa using this,q.up⟩
def gMR.allB (h:gMR R all out [] rb):(out++rb).Perm all/\(out++rb).Pairwise R:=h.symm.allA
theorem gMR.lastA {z:Keyed} (h:gMR R all out [z] rb)(c:∀y∈rb,R y z):(out++rb++[z]).Perm all/\(out++rb++[z]).Pairwise R:=by
 have b:gMR R all out [z] (rb++[]):=by rw[M6];exact h
 exact(b.takeB λx d y a=>by rw[A6.mp a];exact c x d).allA
end
abbrev grUp (x y:Keyed):Prop:=gkv x<=gkv y
abbrev grDn (x y:Keyed):Prop:=gkv y<=gkv x
def gRes (all r:List Keyed):Prop:=r.Perm all/\r.Pairwise grUp
def gSE (st st':SortSt):Prop:=kindOf st'=kindOf st/\arrOf st'=arrOf st/\B93 st'=B93 st/\failedOf st'=failedOf st
def gSE.refl (st:SortSt):gSE st st:=⟨rfl,rfl,rfl,rfl⟩
def gmLo:Array Keyed->Array Keyed->gSM (Array Keyed):=sortPriv% PySem.Builtin.mergeLo
def gmHi:Array Keyed->Array Keyed->gSM (Array Keyed):=sortPriv% PySem.Builtin.mergeHi
theorem qDN {l:List Keyed} {i:Nat} {x:Keyed} (h:l[i]?=some x):l.drop i=[x]++l.drop (i+1):=by
 obtain⟨a,e⟩:=A3.mp h;rw[i5 a,e]
 rfl
theorem qCM {a:Array Keyed} {i:Nat} (h:i<a.size):∃x,a[i]?=some x/\a.toList[i]?=some x/\x∈a.toList:=⟨a[i],D0 h,by simp[h],by simp⟩
theorem qAT (a:Array Keyed)(i j:Nat):(a.extract i j).toList=(a.toList.drop i).take (j-i):=by simp
theorem qGU {l:List Keyed} {i k:Nat} :l.drop i=(l.drop i).take k++l.drop (i+k):=by
 rw[<- A24,S0]
theorem qF2 {left:Bool} {b:Keyed} {a:Array Keyed} {base n:Nat} (l:base+n<=a.size)(u:(a.toList.drop base).Pairwise grUp):∀i j,i<=j->j<n->qAR left b a base j=true->qAR left b a base i=true:=by
 intro i j h k e;by_cases c:i=j
 ·subst c;exact e
 have g:base+j<a.size:=by omega
 have d:base+i<a.size:=by omega
 have m:gkv a[base+i]<=gkv a[base+j]:=by
  have:=P2.mp u i j (by simp;omega) (by simp;omega) (by omega)
  simpa using this
 unfold qAR at e ⊢;rw[D0 g] at e;rw[D0 d];cases left with
 |true=>
  have f:decide (gkv a[base+j]<gkv b)=true:=e;show decide (gkv a[base+i]<gkv b)=true;have:=of_decide_eq_true f;exact decide_eq_true (by omega)
 |false=>
  have f:decide (gkv a[base+j]<=gkv b)=true:=e;show decide (gkv a[base+i]<=gkv b)=true;have:=of_decide_eq_true f;exact decide_eq_true (by omega)
theorem qNX {b:Keyed} {a:Array Keyed} {base n k:Nat} (j:k<=n)(g:base+n<=a.size)(h:∀i,i<k->qAR true b a base i=true):∀x∈(a.toList.drop base).take k,gkv x<gkv b:=by
 intro x c;obtain⟨i,f,rfl⟩:=U4 c;simp only[D3,J5,C4] at f;have e:=h i (by omega)
 unfold qAR at e;rw[D0 (show base+i<a.size by omega)] at e
 have d:decide (gkv a[base+i]<gkv b)=true:=e;simpa using of_decide_eq_true d
theorem qNY {b:Keyed} {a:Array Keyed} {base n k:Nat} (j:k<=n)(g:base+n<=a.size)(h:∀i,i<k->qAR false b a base i=true):∀x∈(a.toList.drop base).take k,gkv x<=gkv b:=by
 intro x c;obtain⟨i,f,rfl⟩:=U4 c;simp only[D3,J5,C4] at f;have e:=h i (by omega)
 unfold qAR at e;rw[D0 (show base+i<a.size by omega)] at e
 have d:decide (gkv a[base+i]<=gkv b)=true:=e;simpa using of_decide_eq_true d
theorem qLK {b:Keyed} {a:Array Keyed} {base n k:Nat} (g:base+n<=a.size)(h:∀i,k<=i->i<n->qAR true b a base i=false):∀x∈((a.toList.drop base).take n).drop k,gkv b<=gkv x:=by
 intro x f;obtain⟨i,d,rfl⟩:=U4 f;simp only[D3,J5,C4] at d;have e:=h (k+i) (by omega) (by omega)
 unfold qAR at e;rw[D0 (show base+(k+i)<a.size by omega)] at e
 have c:decide (gkv a[base+(k+i)]<gkv b)=false:=e;have:=of_decide_eq_false c;simp only[A33,A34,A84];omega
theorem qLJ {b:Keyed} {a:Array Keyed} {base n k:Nat} (g:base+n<=a.size)(h:∀i,k<=i->i<n->qAR false b a base i=false):∀x∈((a.toList.drop base).take n).drop k,gkv b<gkv x:=by
 intro x f;obtain⟨i,d,rfl⟩:=U4 f;simp only[D3,J5,C4] at d;have e:=h (k+i) (by omega) (by omega)
 unfold qAR at e;rw[D0 (show base+(k+i)<a.size by omega)] at e
 have c:decide (gkv a[base+(k+i)]<=gkv b)=false:=e;have:=of_decide_eq_false c;simp only[A33,A34,A84];omega
end L2.G
namespace L2.G
open PySem PyProof.Rows
variable[NM]
theorem gifT {α:Type} {c:Prop} [Decidable c]{x y:gSM α}{Q:α->SortSt->Prop}{st:SortSt}(h:c)(k:wpS (model prog w) A E s x Q st):wpS (model prog w) A E s (if c then x else y) Q st:=by rw[if_pos h];exact k
theorem gifF {α:Type} {c:Prop} [Decidable c]{x y:gSM α}{Q:α->SortSt->Prop}{st:SortSt}(h:¬c)(k:wpS (model prog w) A E s y Q st):wpS (model prog w) A E s (if c then x else y) Q st:=by rw[if_neg h];exact k
def gtwo {α:Type} {A:Prop} {M G:α->Prop} (a:(∀o,M o->G o)->A)(b:∀o,M o->G o):A:=a b
section
variable{prog:B90}{w:World}{A:Around}{E:Aa1}{s:Shared}{κ0:C25}[LtOk prog w A s κ0]
def gopq {A:Prop} (h:∀G:Prop,(A->G)->G):A:=h A id
def gnm {α:Type} {x:gSM α} {Q:α->SortSt->Prop} {st:SortSt} (h:∀R:α->SortSt->Prop,(∀a st,Q a st->R a st)->wpS (model prog w) A E s x R st):wpS (model prog w) A E s x Q st:=h Q λ_ _ z=>z
theorem qWQ {st:SortSt} {a b:Array Keyed} {Q:Array Keyed->SortSt->Prop} (hk:kindOf st=κ0)(ka:∀x∈a.toList,gIK x)(kb:∀x∈b.toList,gIK x)(ua:a.toList.Pairwise grUp)(ub:b.toList.Pairwise grUp)(na:0<a.size)(nb:0<b.size)
  (first:∀y,b.toList[0]?=some y->∀x∈a.toList,gkv y<=gkv x) (av:∀z,a.toList[a.size-1]?=some z->∀y∈b.toList,gkv y<=gkv z)
  (h:∀r st',gSE st st'->gRes (a.toList++b.toList) r.toList->Q r st'):wpS (model prog w) A E s (gmLo a b) Q st:=by
 have tl:(a.toList++b.toList).length=a.size+b.size:=by simp
 -- ways out
 have a0:∀(out:Array Keyed) (ia:Nat),gMR grUp (a.toList++b.toList) out.toList (a.toList.drop ia) (b.toList.drop b.size)->gRes (a.toList++b.toList) (out++a.extract ia a.size++b.extract b.size b.size).toList:=by
  intro out ia m;have e:b.toList.drop b.size=[]:=m6 (by simp)
  rw[e] at m;have q:=m.allA;have e2:(out++a.extract ia a.size++b.extract b.size b.size).toList=out.toList++a.toList.drop ia:=by
   rw[G7,G7,qAT,qAT,e,B71,M6,F7 (by simp)]
  rw[e2];exact q
 have ay:∀(out:Array Keyed) (ib:Nat),gMR grUp (a.toList++b.toList) out.toList (a.toList.drop a.size) (b.toList.drop ib)->gRes (a.toList++b.toList) (out++a.extract a.size a.size++b.extract ib b.size).toList:=by
  intro out ib m;have e:a.toList.drop a.size=[]:=m6 (by simp)
  rw[e] at m;have q:=m.allB;have e2:(out++a.extract a.size a.size++b.extract ib b.size).toList=out.toList++b.toList.drop ib:=by
   rw[G7,G7,qAT,qAT,e,B71,M6,F7 (by simp)]
  rw[e2];exact q
 have v:∀(out:Array Keyed) (ia ib:Nat),ia+1=a.size->gMR grUp (a.toList++b.toList) out.toList (a.toList.drop ia) (b.toList.drop ib)->gRes (a.toList++b.toList) (out++b.extract ib b.size++a.extract ia a.size).toList:=by
  intro out ia ib bm m;refine gopq λb5 ah=>?_;obtain⟨z,_,hz,_⟩:=qCM (a:=a) (i:=ia) (by lia)
  refine ah ?_;have e:a.toList.drop ia=[z]:=by rw[qDN hz,m6 (by simp;lia)];rfl
  rw[e] at m;have q:=m.lastA λy hy=>av z (by rw[show a.size-1=ia by lia];exact hz) y (P3 hy)
  have e2:(out++b.extract ib b.size++a.extract ia a.size).toList=out.toList++b.toList.drop ib++[z]:=by
   rw[G7,G7,qAT,qAT,e,F7 (by simp),F7 (by simp;lia)]
  rw[e2];exact q
 -- the first of b
 refine gopq λb0 a9=>?_;obtain⟨y0,bg,aq,_⟩:=qCM (a:=b) (i:=0) nb;refine a9 ?_;have m0:gMR grUp (a.toList++b.toList) #[y0].toList (a.toList.drop 0) (b.toList.drop 1):=by
  have m:gMR grUp (a.toList++b.toList) [] a.toList ([y0]++b.toList.drop 1):=by
   rw[<- qDN aq];exact⟨.refl _,.nil,ua,ub,(λ_ z=>nomatch z),(λ_ z=>nomatch z)⟩
  exact m.takeB λx g y hy=>by rw[A6.mp g];exact first y0 aq y hy
 -- a step of b,a step of a
 have a3:∀{out:Array Keyed} {ia ib:Nat} {y:Keyed},gMR grUp (a.toList++b.toList) out.toList (a.toList.drop ia) (b.toList.drop ib)->b.toList[ib]?=some y->(∀x∈a.toList.drop ia,gkv y<=gkv x)->gMR grUp (a.toList++b.toList) (out.push y).toList (a.toList.drop ia) (b.toList.drop (ib+1)):=by
  intro out ia ib y m hy c;rw[qDN hy] at m;rw[X9];exact m.takeB λx g z hz=>by rw[A6.mp g];exact c z hz
 have a4:∀{out:Array Keyed} {ia ib:Nat} {x:Keyed},gMR grUp (a.toList++b.toList) out.toList (a.toList.drop ia) (b.toList.drop ib)->a.toList[ia]?=some x->(∀y∈b.toList.drop ib,gkv x<=gkv y)->gMR grUp (a.toList++b.toList) (out.push x).toList (a.toList.drop (ia+1)) (b.toList.drop ib):=by
  intro out ia ib x m g c;rw[qDN g] at m;rw[X9];exact m.takeA λz hz y hy=>by rw[A6.mp hz];exact c y hy
 have f:∀{l:List Keyed} {i:Nat} {x:Keyed},l.Pairwise grUp->l[i]?=some x->∀y∈l.drop i,gkv x<=gkv y:=by
  intro l i x u g y hy;have u':=u.sublist (d5 i l);rw[qDN g] at u' hy;rcases C1.mp hy with hy|hy
  ·rw[A6.mp hy];exact J9 _
  ·exact(O6.mp u').2.2 x (by simp) y hy
 have bk:∀{out:Array Keyed} {ia ib:Nat},gMR grUp (a.toList++b.toList) out.toList (a.toList.drop ia) (b.toList.drop ib)->ia<a.size->ib<b.size->ia+ib<a.size+b.size:=λ_ _ _=>by lia
 unfold gmLo;show wpS _ _ _ _ (liftM (rule "list.sort.merge-lo") >>= _) _ _;refine B91 (wpS_lift (C13 ⟨rfl,B91 (qBC bg ?_)⟩));dsimp only;by_cases ar:b.size=1
 ·refine gifT (by simp[ar]) (B92 (h _ _ (.refl st) ?_))
  have:=a0 #[y0] 0 (by rw[ar];exact m0)
  rw[ar] at this ⊢;exact this
 refine gifF (by simp;lia) ?_
 by_cases ba:a.size=1
 ·exact gifT (by simp[ba]) (B92 (h _ _ (.refl st) (v #[y0] 0 1 (by lia) m0)))
 refine gifF (by simp;lia) (B91 (C33 ?_))
 refine B91 (C17 (C05
  (I:=λx c st'=>gSE st st'/\∃(out:Array Keyed) (ia ib mg:Nat),c=(none,out,ia,ib,mg)/\gMR grUp (a.toList++b.toList) out.toList (a.toList.drop ia) (b.toList.drop ib)/\ia+1<a.size/\ib<b.size/\x+1<=ia+ib)
  (Q:=λc st'=>gSE st st'/\∃r rest,c=(some r,rest)/\gRes (a.toList++b.toList) r.toList) ?ostep ?ofin ⟨.refl st,_,0,1,_,rfl,m0,by lia,by lia,by lia⟩) ?opost)
 case opost=>
  refineλc st' ad=>gopq λaz af=>?_;obtain⟨d,r,rest,rfl,hr⟩:=ad;exact af (B92 (h r st' d hr))
 case ofin=>
  refineλc st' ae=>gopq λbj a8=>?_;obtain⟨d,out,ia,ib,mg,rfl,m,h1,h2,h3⟩:=ae;refine a8 ?_
  lia
 case ostep=>
  refine fun x c bl _ g am=>gopq fun bb ai=>?_;obtain ⟨d,out,ia,ib,mg,rfl,m,h1,h2,h3⟩:=am;refine ai ?_;dsimp only;refine B91 (C17 (C05
   (I:=λy c st'=>gSE st st'/\∃(out:Array Keyed) (ia' ib' ac bc:Nat),c=(none,out,ia',ib',ac,bc)/\gMR grUp (a.toList++b.toList) out.toList (a.toList.drop ia') (b.toList.drop ib')/\ia'+1<a.size/\ib'<b.size/\ia+ib+y<=ia'+ib')
   (Q:=λc st'=>gSE st st'/\((∃r rest,c=(some r,rest)/\gRes (a.toList++b.toList) r.toList)\/∃(out:Array Keyed) (ia' ib' ac bc:Nat),c=(none,out,ia',ib',ac,bc)/\gMR grUp (a.toList++b.toList) out.toList (a.toList.drop ia') (b.toList.drop ib')/\ia'+1<a.size/\ib'<b.size/\ia+ib+1<=ia'+ib')) ?istep ?ifin ⟨d,out,ia,ib,0,0,rfl,m,h1,h2,by lia⟩) ?ipost)
  case ifin=>
   refineλc st' aj=>gopq λb8 ab=>?_;obtain⟨d,out,ia',ib',ac,bc,rfl,m,g1,g2,g3⟩:=aj;refine ab ?_
   lia
  case istep=>
   refineλy c st' _ hy a6=>gopq λb4 an=>?_;obtain⟨d,out,ia',ib',ac,bc,rfl,m,g1,g2,g3⟩:=a6;refine an ?_;dsimp only;refine gnm λR hR=>gopq λb3 al=>?_;obtain⟨yb,e1,a1,mb⟩:=qCM (a:=b) (i:=ib') g2;refine al (gopq λb9 a7=>?_);obtain⟨xa,e2,a2,ma⟩:=qCM (a:=a) (i:=ia') (by lia)
   refine a7 ?_;have b1:kindOf st'=κ0:=d.1.trans hk;refine B91 (qBC e1 (B91 (qBC e2 (B91 (qHJ b1 (kb _ mb) (ka _ ma) ?_)))));dsimp only;by_cases hw:gkv yb<gkv xa
   ·rw[decide_eq_true hw,if_pos rfl];refine B91 (qBC e1 ?_);have m':=a3 m a1 λx g=>by have:=f ua a2 x g;lia
    by_cases p:ib'+1=b.size
    ·refine gifT (by simp[p]) (B92 (hR _ _ ⟨d,.inl ⟨_,_,rfl,?_⟩⟩))
     rw[p] at m' ⊢;exact a0 _ _ m'
    ·refine gifF (by simp;exact p) ?_
     split
     ·exact B92 (hR _ _ ⟨d,.inr ⟨_,_,_,_,_,rfl,m',g1,by lia,by lia⟩⟩)
     ·exact B92 (hR _ _ ⟨d,_,_,_,_,_,rfl,m',g1,by lia,by lia⟩)
   ·rw[decide_eq_false hw,if_neg B8];refine B91 (qBC e2 ?_);have m':=a4 m a2 λy hy=>by have:=f ub a1 y hy;lia
    by_cases j:ia'+1+1=a.size
    ·exact gifT (by simp[j]) (B92 (hR _ _ ⟨d,.inl ⟨_,_,rfl,v _ _ _ j m'⟩⟩))
    ·refine gifF (by simp;exact j) ?_
     split
     ·exact B92 (hR _ _ ⟨d,.inr ⟨_,_,_,_,_,rfl,m',by lia,g2,by lia⟩⟩)
     ·exact B92 (hR _ _ ⟨d,_,_,_,_,_,rfl,m',by lia,g2,by lia⟩)
  case ipost=>
   rintro c st2 ⟨d,⟨r,rest,rfl,hr⟩|⟨out,ia1,ib1,ac,bc,rfl,m,g1,g2,g3⟩⟩
   ·exact B92 ⟨d,r,_,rfl,hr⟩
   dsimp only;refine B91 (wpS_lift (C13 ⟨rfl,?_⟩));refine B91 (C17 (C05
    (I:=λy c st'=>gSE st st'/\∃(out:Array Keyed) (ia' ib' mg ac bc:Nat),c=(none,out,ia',ib',mg,ac,bc)/\gMR grUp (a.toList++b.toList) out.toList (a.toList.drop ia') (b.toList.drop ib')/\ia'+1<a.size/\ib'<b.size/\ia1+ib1+y<=ia'+ib')
    (Q:=λc st'=>gSE st st'/\((∃r rest,c=(some r,rest)/\gRes (a.toList++b.toList) r.toList)\/∃(out:Array Keyed) (ia' ib' mg ac bc:Nat),c=(none,out,ia',ib',mg,ac,bc)/\gMR grUp (a.toList++b.toList) out.toList (a.toList.drop ia') (b.toList.drop ib')/\ia'+1<a.size/\ib'<b.size/\ia1+ib1<=ia'+ib')) ?gstep ?gfin ⟨d,out,ia1,ib1,_,ac,bc,rfl,m,g1,g2,by lia⟩) ?gpost)
   case gfin=>
    refineλc st' aa=>gopq λbi ak=>?_;obtain⟨d,out,ia',ib',mg,ac,bc,rfl,m,q1,q2,q3⟩:=aa;refine ak ?_
    lia
   case gpost=>
    rintro c st3 ⟨d,⟨r,rest,rfl,hr⟩|⟨out,ia',ib',mg,ac,bc,rfl,m,q1,q2,q3⟩⟩
    ·exact B92 ⟨d,r,_,rfl,hr⟩
    dsimp only;exact B91 (C10 (B92 ⟨⟨d.1,d.2.1,d.2.2.1,d.2.2.2⟩,out,ia',ib',_,rfl,m,q1,q2,by lia⟩))
   case gstep=>
    refineλy c b6 _ hy ap=>gopq λbf ag=>?_;obtain⟨d,out,ia',ib',mg,ac,bc,rfl,m,q1,q2,q3⟩:=ap;refine ag ?_;dsimp only;refine gnm λR hR=>gopq λb7 ao=>?_;obtain⟨yb,e1,a1,mb⟩:=qCM (a:=b) (i:=ib') q2;refine ao ?_;have hm:b.toList.drop ib'=[yb]++b.toList.drop (ib'+1):=qDN a1;apply gtwo (α:=Nat) (M:=λ_=>True)
    ·intro J;by_cases au:mg>1
     ·refine gifT au (B91 (C10 ?_));generalize mg-1=n;exact J n trivial
     ·refine gifF au (B91 (C10 ?_));generalize mg=n;exact J n trivial
    ·intro n _;have t:gSE st b6:=d;refine B91 (qBC e1 (B91 (qG3 (left:=false) (n:=a.size-ia') (hint:=0) (d.1.trans hk) (kb _ mb) ka (by lia) (by lia) (qF2 (by lia) (ua.sublist (d5 _ _))) λk k1 k2 k3=>?_)))
     dsimp only;have bd:∀x∈a.toList.drop (ia'+k),gkv yb<=gkv x:=λx g=>by
      have q:=qLJ (base:=ia') (n:=a.size-ia') (by lia) k3 x
      rw[F7 (by simp),A24] at q
      exact A71 (q g)
     apply gtwo (α:=Array Keyed) (M:=λo=>gMR grUp (a.toList++b.toList) o.toList (a.toList.drop (ia'+k)) (b.toList.drop ib')/\ia'+k+1<a.size)
     ·intro J;by_cases k0:k>0
      ·refine gifT k0 ?_;have mk:gMR grUp (a.toList++b.toList) (out++a.extract ia' (ia'+k)).toList (a.toList.drop (ia'+k)) (b.toList.drop ib'):=by
        rw[G7,qAT,show ia'+k-ia'=k by lia]
        rw[qGU (l:=a.toList) (i:=ia') (k:=k)] at m;exact m.takeA λx g z hz=>by
         have q1:=qNY k1 (by lia) k2 x g
         have q2:=f ub a1 z hz;show gkv x<=gkv z
         lia
       by_cases c1:ia'+k+1=a.size
       ·exact gifT (by simp[c1]) (B92 (hR _ _ ⟨t,.inl ⟨_,_,rfl,v _ _ _ c1 mk⟩⟩))
       refine gifF (by simp;exact c1) ?_
       by_cases c2:ia'+k=a.size
       ·refine gifT (by simp[c2]) (B92 (hR _ _ ⟨t,.inl ⟨_,_,rfl,?_⟩⟩))
        rw[c2] at mk ⊢;exact ay _ _ mk
       refine gifF (by simp;exact c2) ?_
       generalize out++a.extract ia' (ia'+k)=o at mk ⊢;exact J o ⟨mk,by lia⟩
      ·refine gifF k0 ?_;have b2:k=0:=by lia
       subst b2;exact J out ⟨m,by lia⟩
     ·rintro o ⟨mk,kp⟩;refine B91 (qBC e1 ?_);have m1:=a3 mk a1 bd;by_cases p:ib'+1=b.size
      ·refine gifT (by simp[p]) (B92 (hR _ _ ⟨t,.inl ⟨_,_,rfl,?_⟩⟩))
       rw[p] at m1 ⊢;exact a0 _ _ m1
      refine gifF (by simp;exact p) (gopq λbe a5=>?_)
      obtain⟨xa,e2,a2,ma⟩:=qCM (a:=a) (i:=ia'+k) (by lia)
      refine a5 (B91 (qBC e2 (B91 (qG3 (left:=true) (n:=b.size-(ib'+1)) (hint:=0) (d.1.trans hk) (ka _ ma) kb (by lia) (by lia) (qF2 (by lia) (ub.sublist (d5 _ _))) λk' j1 j2 j3=>?_))))
      dsimp only;have bh:∀y∈b.toList.drop (ib'+1+k'),gkv xa<=gkv y:=λy hy=>by
       have q:=qLK (base:=ib'+1) (n:=b.size-(ib'+1)) (by lia) j3 y
       rw[F7 (by simp),A24] at q
       exact q hy
      generalize o.push yb=o1 at m1 ⊢;apply gtwo (α:=Array Keyed) (M:=λo=>gMR grUp (a.toList++b.toList) o.toList (a.toList.drop (ia'+k)) (b.toList.drop (ib'+1+k'))/\ib'+1+k'<b.size)
      ·intro J;by_cases ax:k'>0
       ·rw[if_pos ax];have m2:gMR grUp (a.toList++b.toList) (o1++b.extract (ib'+1) (ib'+1+k')).toList (a.toList.drop (ia'+k)) (b.toList.drop (ib'+1+k')):=by
         rw[G7,qAT,show ib'+1+k'-(ib'+1)=k' by lia]
         rw[qGU (l:=b.toList) (i:=ib'+1) (k:=k')] at m1;exact m1.takeB λx g z hz=>by
          have q1:=qNX j1 (by lia) j2 x g
          have q2:=f ua a2 z hz;show gkv x<=gkv z
          lia
        by_cases as:ib'+1+k'=b.size
        ·refine gifT (by simp[as]) (B92 (hR _ _ ⟨t,.inl ⟨_,_,rfl,?_⟩⟩))
         rw[as] at m2 ⊢;exact a0 _ _ m2
        refine gifF (by simp;exact as) ?_
        generalize o1++b.extract (ib'+1) (ib'+1+k')=o2 at m2 ⊢;exact J o2 ⟨m2,by lia⟩
       ·rw[if_neg ax];have aw:k'=0:=by lia
        subst aw;exact J o1 ⟨m1,by lia⟩
      ·rintro o2 ⟨m2,kp'⟩;refine B91 (qBC e2 ?_);have m3:=a4 m2 a2 bh;by_cases j:ia'+k+1+1=a.size
       ·exact gifT (by simp[j]) (B92 (hR _ _ ⟨t,.inl ⟨_,_,rfl,v _ _ _ j m3⟩⟩))
       refine gifF (by simp;exact j) ?_
       split
       ·exact B92 (hR _ _ ⟨t,.inr ⟨_,_,_,_,_,_,rfl,m3,by lia,by lia,by lia⟩⟩)
       ·exact B92 (hR _ _ ⟨t,_,_,_,_,_,_,rfl,m3,by lia,by lia,by lia⟩)
end
end L2.G
namespace L2.G
open PySem PyProof.Rows
variable[NM]
theorem qDX {l:List Keyed} {i:Nat} {x:Keyed} (b:0<i)(h:l[i-1]?=some x):(l.take i).reverse=[x]++(l.take (i-1)).reverse:=by
 obtain⟨j,rfl⟩:∃j,i=j+1:=⟨i-1,by lia⟩
 have a:l[j]?=some x:=h;rw[C5,a,D8,U5]
 rfl
theorem qK6 {l:List Keyed} {i j:Nat} (h:i<=j):(l.take j).reverse=((l.drop i).take (j-i)).reverse++(l.take i).reverse:=by
 rw[<- U5];congr 1;have e:=B72 (l:=l) (i:=i) (j:=j-i);rw[show i+(j-i)=j by lia] at e
 exact e
section
variable{prog:B90}{w:World}{A:Around}{E:Aa1}{s:Shared}{κ0:C25}[LtOk prog w A s κ0]
theorem qWR {st:SortSt} {a b:Array Keyed} {Q:Array Keyed->SortSt->Prop} (hk:kindOf st=κ0)(ka:∀x∈a.toList,gIK x)(kb:∀x∈b.toList,gIK x)(ua:a.toList.Pairwise grUp)(ub:b.toList.Pairwise grUp)(na:0<a.size)(nb:0<b.size)
  (first:∀y,b.toList[0]?=some y->∀x∈a.toList,gkv y<=gkv x) (b3:∀z,a.toList[a.size-1]?=some z->∀y∈b.toList,gkv y<=gkv z)
  (h:∀r st',gSE st st'->gRes (a.toList++b.toList) r.toList->Q r st'):wpS (model prog w) A E s (gmHi a b) Q st:=by
 have aa:∀{l:List Keyed},l.Perm (a.toList++b.toList)/\l.Pairwise grDn->gRes (a.toList++b.toList) l.reverse:=λ{l} q=>⟨(d6 l).trans q.1,a9.mpr q.2⟩;have a0:∀(out:Array Keyed) (nb':Nat),gMR grDn (a.toList++b.toList) out.toList (a.toList.take 0).reverse (b.toList.take nb').reverse->gRes (a.toList++b.toList) (a.extract 0 0++b.extract 0 nb'++out.reverse).toList:=by
  intro out nb' m;have q:=aa (gMR.allB m);have e2:(a.extract 0 0++b.extract 0 nb'++out.reverse).toList=(out.toList++(b.toList.take nb').reverse).reverse:=by
   rw[G7,G7,qAT,qAT,X3,U5,f9];simp
  rw[e2];exact q
 have b7:∀(out:Array Keyed) (na':Nat),gMR grDn (a.toList++b.toList) out.toList (a.toList.take na').reverse (b.toList.take 0).reverse->gRes (a.toList++b.toList) (a.extract 0 na'++b.extract 0 0++out.reverse).toList:=by
  intro out na' m;have q:=aa (gMR.allA m);have e2:(a.extract 0 na'++b.extract 0 0++out.reverse).toList=(out.toList++(a.toList.take na').reverse).reverse:=by
   rw[G7,G7,qAT,qAT,X3,U5,f9];simp
  rw[e2];exact q
 refine gopq λbf an=>?_;obtain⟨y0,bt,ax,_⟩:=qCM (a:=b) (i:=0) nb;refine an ?_;have g:∀(out:Array Keyed) (na':Nat),gMR grDn (a.toList++b.toList) out.toList (a.toList.take na').reverse (b.toList.take 1).reverse->gRes (a.toList++b.toList) (b.extract 0 1++a.extract 0 na'++out.reverse).toList:=by
  intro out na' m;have e:(b.toList.take 1).reverse=[y0]:=by rw[qDX (by decide) ax];simp
  rw[e] at m;have q:=aa (m.symm.lastA λy hy=>first y0 ax y (X4 (O9.mp hy)));have e1:b.toList.take 1=[y0]:=by have:=congrArg List.reverse e;simpa using this
  have e2:(b.extract 0 1++a.extract 0 na'++out.reverse).toList=(out.toList++(a.toList.take na').reverse++[y0]).reverse:=by
   rw[G7,G7,qAT,qAT,X3];simp only[t7,B28,e1];simp
  rw[e2];exact q
 refine gopq λb9 ag=>?_;obtain⟨z0,bl,ay,_⟩:=qCM (a:=a) (i:=a.size-1) (by lia)
 refine ag ?_;have m0:gMR grDn (a.toList++b.toList) #[z0].toList (a.toList.take (a.size-1)).reverse (b.toList.take b.size).reverse:=by
  have m:gMR grDn (a.toList++b.toList) [] ([z0]++(a.toList.take (a.size-1)).reverse) (b.toList.take b.size).reverse:=by
   rw[<- qDX na ay,F7 (by simp),F7 (by simp)]
   refine⟨?_,.nil,a9.mpr ua,a9.mpr ub,(λ_ z=>nomatch z),(λ_ z=>nomatch z)⟩;exact(d6 _).append (d6 _)
  exact m.takeA λx p y hy=>by rw[A6.mp p];exact b3 z0 ay y (X4 (O9.mp hy))
 have a7:∀{out:Array Keyed} {na' nb':Nat} {y:Keyed},gMR grDn (a.toList++b.toList) out.toList (a.toList.take na').reverse (b.toList.take nb').reverse->0<nb'->b.toList[nb'-1]?=some y->(∀x∈(a.toList.take na').reverse,gkv x<=gkv y)->gMR grDn (a.toList++b.toList) (out.push y).toList (a.toList.take na').reverse (b.toList.take (nb'-1)).reverse:=by
  intro out na' nb' y m h0 hy c;rw[qDX h0 hy] at m;rw[X9];exact m.takeB λx p z hz=>by rw[A6.mp p];exact c z hz
 have a8:∀{out:Array Keyed} {na' nb':Nat} {x:Keyed},gMR grDn (a.toList++b.toList) out.toList (a.toList.take na').reverse (b.toList.take nb').reverse->0<na'->a.toList[na'-1]?=some x->(∀y∈(b.toList.take nb').reverse,gkv y<=gkv x)->gMR grDn (a.toList++b.toList) (out.push x).toList (a.toList.take (na'-1)).reverse (b.toList.take nb').reverse:=by
  intro out na' nb' x m h0 p c;rw[qDX h0 p] at m;rw[X9];exact m.takeA λz hz y hy=>by rw[A6.mp hz];exact c y hy
 have t:∀{l:List Keyed} {i:Nat} {x:Keyed},l.Pairwise grUp->0<i->l[i-1]?=some x->∀y∈(l.take i).reverse,gkv y<=gkv x:=by
  intro l i x u h0 p y hy;have u':((l.take i).reverse).Pairwise grDn:=a9.mpr (u.sublist (c8 i l));rw[qDX h0 p] at u' hy;rcases C1.mp hy with hy|hy
  ·rw[A6.mp hy];exact J9 _
  ·exact(O6.mp u').2.2 x (by simp) y hy
 unfold gmHi;show wpS _ _ _ _ (liftM (rule "list.sort.merge-hi") >>= _) _ _;refine B91 (wpS_lift (C13 ⟨rfl,B91 (qBC bl ?_)⟩));dsimp only;by_cases b4:a.size-1=0
 ·refine gifT (by simp[b4]) (B92 (h _ _ (.refl st) ?_))
  rw[b4] at m0 ⊢;exact a0 _ _ m0
 refine gifF (by simp;lia) ?_
 by_cases b2:b.size=1
 ·refine gifT (by simp[b2]) (B92 (h _ _ (.refl st) ?_))
  rw[b2] at m0 ⊢;exact g _ _ m0
 refine gifF (by simp;lia) (B91 (C33 ?_))
 refine B91 (C17 (C05
  (I:=λx c st'=>gSE st st'/\∃(na' nb':Nat) (out:Array Keyed) (mg:Nat),c=(none,na',nb',out,mg)/\gMR grDn (a.toList++b.toList) out.toList (a.toList.take na').reverse (b.toList.take nb').reverse/\(0<na'/\na'<=a.size)/\(1<nb'/\nb'<=b.size)/\na'+nb'+x+1<=a.size+b.size)
  (Q:=λc st'=>gSE st st'/\∃r rest,c=(some r,rest)/\gRes (a.toList++b.toList) r.toList) ?ostep ?ofin ⟨.refl st,_,_,_,_,rfl,m0,by lia,by lia,by lia⟩) ?opost)
 case opost=>
  refineλc st' aj=>gopq λb8 al=>?_;obtain⟨d,r,rest,rfl,hr⟩:=aj;exact al (B92 (h r st' d hr))
 case ofin=>
  refineλc st' ak=>gopq λbr af=>?_;obtain⟨d,na',nb',out,mg,rfl,m,h1,h2,h3⟩:=ak;refine af ?_
  lia
 case ostep=>
  refine fun x c bs _ p as=>gopq fun bk ao=>?_;obtain ⟨d,az,b0,out,mg,rfl,m,h1,h2,h3⟩:=as;refine ao ?_;dsimp only;refine B91 (C17 (C05
   (I:=λy c st'=>gSE st st'/\∃(na' nb':Nat) (out:Array Keyed) (ac bc:Nat),c=(none,na',nb',out,ac,bc)/\gMR grDn (a.toList++b.toList) out.toList (a.toList.take na').reverse (b.toList.take nb').reverse/\(0<na'/\na'<=a.size)/\(1<nb'/\nb'<=b.size)/\na'+nb'+y<=az+b0)
   (Q:=λc st'=>gSE st st'/\((∃r rest,c=(some r,rest)/\gRes (a.toList++b.toList) r.toList)\/∃(na' nb':Nat) (out:Array Keyed) (ac bc:Nat),c=(none,na',nb',out,ac,bc)/\gMR grDn (a.toList++b.toList) out.toList (a.toList.take na').reverse (b.toList.take nb').reverse/\(0<na'/\na'<=a.size)/\(1<nb'/\nb'<=b.size)/\na'+nb'+1<=az+b0)) ?istep ?ifin ⟨d,az,b0,out,0,0,rfl,m,h1,h2,by lia⟩) ?ipost)
  case ifin=>
   refineλc st' ap=>gopq λbi ai=>?_;obtain⟨d,na',nb',out,ac,bc,rfl,m,g1,g2,g3⟩:=ap;refine ai ?_
   lia
  case istep=>
   refineλy c st' _ hy ad=>gopq λbe au=>?_;obtain⟨d,na',nb',out,ac,bc,rfl,m,g1,g2,g3⟩:=ad;refine au ?_;dsimp only;refine gnm λR v=>gopq λbd ar=>?_;obtain⟨yb,e1,a4,mb⟩:=qCM (a:=b) (i:=nb'-1) (by lia)
   refine ar (gopq λbj ae=>?_);obtain⟨xa,e2,a6,ma⟩:=qCM (a:=a) (i:=na'-1) (by lia)
   refine ae ?_;have ba:kindOf st'=κ0:=d.1.trans hk;refine B91 (qBC e1 (B91 (qBC e2 (B91 (qHJ ba (kb _ mb) (ka _ ma) ?_)))));dsimp only;by_cases hw:gkv yb<gkv xa
   ·rw[decide_eq_true hw,if_pos rfl];refine B91 (qBC e2 ?_);have m':=a8 m (by lia) a6 λz hz=>by have:=t ub (by lia) a4 z hz;lia
    by_cases a1:na'-1=0
    ·refine gifT (by simp[a1]) (B92 (v _ _ ⟨d,.inl ⟨_,_,rfl,?_⟩⟩))
     rw[a1] at m' ⊢;exact a0 _ _ m'
    ·refine gifF (by simp;lia) ?_
     split
     ·exact B92 (v _ _ ⟨d,.inr ⟨_,_,_,_,_,rfl,m',by lia,by lia,by lia⟩⟩)
     ·exact B92 (v _ _ ⟨d,_,_,_,_,_,rfl,m',by lia,by lia,by lia⟩)
   ·rw[decide_eq_false hw,if_neg B8];refine B91 (qBC e1 ?_);have m':=a7 m (by lia) a4 λz hz=>by have:=t ua (by lia) a6 z hz;lia
    by_cases a3:nb'-1=1
    ·refine gifT (by simp[a3]) (B92 (v _ _ ⟨d,.inl ⟨_,_,rfl,?_⟩⟩))
     rw[a3] at m' ⊢;exact g _ _ m'
    ·refine gifF (by simp;lia) ?_
     split
     ·exact B92 (v _ _ ⟨d,.inr ⟨_,_,_,_,_,rfl,m',by lia,by lia,by lia⟩⟩)
     ·exact B92 (v _ _ ⟨d,_,_,_,_,_,rfl,m',by lia,by lia,by lia⟩)
  case ipost=>
   rintro c st2 ⟨d,⟨r,rest,rfl,hr⟩|⟨na2,nb2,out,ac,bc,rfl,m,g1,g2,g3⟩⟩
   ·exact B92 ⟨d,r,_,rfl,hr⟩
   dsimp only;refine B91 (wpS_lift (C13 ⟨rfl,?_⟩));refine B91 (C17 (C05
    (I:=λy c st'=>gSE st st'/\∃(na' nb':Nat) (out:Array Keyed) (mg ac bc:Nat),c=(none,na',nb',out,mg,ac,bc)/\gMR grDn (a.toList++b.toList) out.toList (a.toList.take na').reverse (b.toList.take nb').reverse/\(0<na'/\na'<=a.size)/\(1<nb'/\nb'<=b.size)/\na'+nb'+y<=na2+nb2)
    (Q:=λc st'=>gSE st st'/\((∃r rest,c=(some r,rest)/\gRes (a.toList++b.toList) r.toList)\/∃(na' nb':Nat) (out:Array Keyed) (mg ac bc:Nat),c=(none,na',nb',out,mg,ac,bc)/\gMR grDn (a.toList++b.toList) out.toList (a.toList.take na').reverse (b.toList.take nb').reverse/\(0<na'/\na'<=a.size)/\(1<nb'/\nb'<=b.size)/\na'+nb'<=na2+nb2)) ?gstep ?gfin ⟨d,na2,nb2,out,_,ac,bc,rfl,m,g1,g2,by lia⟩) ?gpost)
   case gfin=>
    refineλc st' ah=>gopq λbq aq=>?_;obtain⟨d,na',nb',out,mg,ac,bc,rfl,m,q1,q2,q3⟩:=ah;refine aq ?_
    lia
   case gpost=>
    rintro c st3 ⟨d,⟨r,rest,rfl,hr⟩|⟨na',nb',out,mg,ac,bc,rfl,m,q1,q2,q3⟩⟩
    ·exact B92 ⟨d,r,_,rfl,hr⟩
    dsimp only;exact B91 (C10 (B92 ⟨⟨d.1,d.2.1,d.2.2.1,d.2.2.2⟩,na',nb',out,_,rfl,m,q1,q2,by lia⟩))
   case gstep=>
    refineλy c bg _ hy aw=>gopq λbo am=>?_;obtain⟨d,na',nb',out,mg,ac,bc,rfl,m,q1,q2,q3⟩:=aw;refine am ?_;dsimp only;refine gnm λR v=>gopq λbh av=>?_;obtain⟨yb,e1,a4,mb⟩:=qCM (a:=b) (i:=nb'-1) (by lia)
    refine av ?_;apply gtwo (α:=Nat) (M:=λ_=>True)
    ·intro J;by_cases b1:mg>1
     ·refine gifT b1 (B91 (C10 ?_));generalize mg-1=n;exact J n trivial
     ·refine gifF b1 (B91 (C10 ?_));generalize mg=n;exact J n trivial
    ·intro n _;have f:gSE st bg:=d;refine B91 (qBC e1 (B91 (qG3 (left:=false) (base:=0) (n:=na') (hint:=na'-1) (d.1.trans hk) (kb _ mb) ka (by lia) (by lia) (qF2 (by lia) ua) λk k1 k2 k3=>?_)))
     dsimp only;have bp:∀x∈(a.toList.take k).reverse,gkv x<=gkv yb:=λx p=>qNY (base:=0) k1 (by lia) k2 x (by simpa using p)
     apply gtwo (α:=Array Keyed) (M:=λo=>gMR grDn (a.toList++b.toList) o.toList (a.toList.take k).reverse (b.toList.take nb').reverse/\0<k)
     ·intro J;by_cases k0:na'-k>0
      ·refine gifT k0 ?_;have mk:gMR grDn (a.toList++b.toList) (out++(a.extract k na').reverse).toList (a.toList.take k).reverse (b.toList.take nb').reverse:=by
        rw[G7,X3,qAT];rw[qK6 (l:=a.toList) (i:=k) (j:=na') (by lia)] at m
        exact m.takeA λx p z hz=>by
         have q1:=qLJ (base:=0) (n:=na') (by lia) k3 x (by rw[t7,B55];exact O9.mp p)
         have q2:=t ub (by lia) a4 z hz
         show gkv z<=gkv x
         lia
       by_cases c1:k=0
       ·refine gifT (by simp[c1]) (B92 (v _ _ ⟨f,.inl ⟨_,_,rfl,?_⟩⟩))
        subst c1;exact a0 _ _ mk
       refine gifF (by simp;exact c1) ?_
       generalize out++(a.extract k na').reverse=o at mk ⊢;exact J o ⟨mk,by lia⟩
      ·refine gifF k0 ?_;have bb:k=na':=by lia
       subst bb;exact J out ⟨m,by lia⟩
     ·rintro o ⟨mk,kp⟩;refine B91 (qBC e1 ?_);have m1:=a7 mk (by lia) a4 bp
      by_cases a3:nb'-1=1
      ·refine gifT (by simp[a3]) (B92 (v _ _ ⟨f,.inl ⟨_,_,rfl,?_⟩⟩))
       rw[a3] at m1 ⊢;exact g _ _ m1
      refine gifF (by simp;lia) (gopq λbn ab=>?_)
      obtain⟨xa,e2,a6,ma⟩:=qCM (a:=a) (i:=k-1) (by lia)
      refine ab (B91 (qBC e2 (B91 (qG3 (left:=true) (base:=0) (n:=nb'-1) (hint:=nb'-1-1) (d.1.trans hk) (ka _ ma) kb (by lia) (by lia) (qF2 (by lia) ub) λk' j1 j2 j3=>?_))))
      dsimp only;have bm:∀y∈(b.toList.take k').reverse,gkv y<=gkv xa:=λy hy=>by
       have q:=qNX (base:=0) j1 (by lia) j2 y (by simpa using hy)
       lia
      generalize o.push yb=o1 at m1 ⊢;apply gtwo (α:=Array Keyed) (M:=λo=>gMR grDn (a.toList++b.toList) o.toList (a.toList.take k).reverse (b.toList.take k').reverse/\1<k')
      ·intro J;by_cases b6:nb'-1-k'>0
       ·rw[if_pos b6];have m2:gMR grDn (a.toList++b.toList) (o1++(b.extract k' (nb'-1)).reverse).toList (a.toList.take (k)).reverse (b.toList.take k').reverse:=by
         rw[G7,X3,qAT];rw[qK6 (l:=b.toList) (i:=k') (j:=nb'-1) (by lia)] at m1
         exact m1.takeB λx p z hz=>by
          have q1:=qLK (base:=0) (n:=nb'-1) (by lia) j3 x (by rw[t7,B55];exact O9.mp p)
          have q2:=t ua (by lia) a6 z hz
          show gkv z<=gkv x
          lia
        by_cases a5:k'=1
        ·refine gifT (by simp[a5]) (B92 (v _ _ ⟨f,.inl ⟨_,_,rfl,?_⟩⟩))
         subst a5;exact g _ _ m2
        refine gifF (by simp;exact a5) ?_
        by_cases a2:k'=0
        ·refine gifT (by simp[a2]) (B92 (v _ _ ⟨f,.inl ⟨_,_,rfl,?_⟩⟩))
         subst a2;exact b7 _ _ m2
        refine gifF (by simp;exact a2) ?_
        generalize o1++(b.extract k' (nb'-1)).reverse=o2 at m2 ⊢;exact J o2 ⟨m2,by lia⟩
       ·rw[if_neg b6];have b5:k'=nb'-1:=by lia
        subst b5;exact J o1 ⟨m1,by lia⟩
      ·rintro o2 ⟨m2,kp'⟩;refine B91 (qBC e2 ?_);have m3:=a8 m2 (by lia) a6 bm
       by_cases a1:k-1=0
       ·refine gifT (by simp[a1]) (B92 (v _ _ ⟨f,.inl ⟨_,_,rfl,?_⟩⟩))
        rw[a1] at m3 ⊢;exact a0 _ _ m3
       refine gifF (by simp;lia) ?_
       split
       ·exact B92 (v _ _ ⟨f,.inr ⟨_,_,_,_,_,_,rfl,m3,by lia,by lia,by lia⟩⟩)
       ·exact B92 (v _ _ ⟨f,_,_,_,_,_,_,rfl,m3,by lia,by lia,by lia⟩)
end
end L2.G
namespace L2.G
open PySem PyProof.Rows
variable[NM]
theorem qNW (b:Nat):∀(r:List Keyed) (k:Nat) (xs:Array Keyed),b+k+r.length<=xs.size->((r.zipIdx k).foldl (λa (p:Keyed×Nat)=>a.setIfInBounds (b+p.2) p.1) xs).toList=xs.toList.take (b+k)++r++xs.toList.drop (b+k+r.length)
 |[],k,xs,_=>by simp
 |p::r,k,xs,h=>by
  have hl:b+k<xs.toList.length:=by simp at h ⊢;lia
  rw[List.zipIdx_cons,X6,qNW b r (k+1) _ (by simp at h ⊢;lia)]
  simp only[A11,C9];have e1:(xs.toList.set (b+k) p).take (b+(k+1))=xs.toList.take (b+k)++[p]:=by
   rw[<- z8,C5,List.take_set_of_le (A9 _),U8 hl]
   rfl
  have e2:(xs.toList.set (b+k) p).drop (b+(k+1)+r.length)=xs.toList.drop (b+k+(r.length+1)):=by
   rw[List.drop_set_of_lt (by lia)]
   congr 1
   lia
  rw[e1,e2];simp
def gSeg (xs:Array Keyed)(lo hi:Nat):Prop:=∀i j,lo<=i->i<=j->j<hi->gK xs i<=gK xs j
def qUM {xs:Array Keyed} {i:Nat} (h:i<xs.size):gK xs i=gkv (xs[i]'h):=qZZ h
theorem qK8 {xs:Array Keyed} {i:Nat} {x:Keyed} (h:xs[i]?=some x):gK xs i=gkv x:=by
 unfold gK;rw[h]
 rfl
theorem qHL {left:Bool} {b:Keyed} {a:Array Keyed} {base i:Nat} (h:base+i<a.size):qAR left b a base i=if left=true then decide (gK a (base+i)<gkv b) else decide (gK a (base+i)<=gkv b):=by
 unfold qAR;rw[D0 h,qUM h]
theorem qIP {left:Bool} {b:Keyed} {a:Array Keyed} {base n:Nat} (f:base+n<=a.size)(u:gSeg a base (base+n)):∀i j,i<=j->j<n->qAR left b a base j=true->qAR left b a base i=true:=by
 intro i j c d e;have g:=u (base+i) (base+j) (by lia) (by lia) (by lia)
 rw[qHL (by lia)] at e ⊢
 cases left with
 |true=>
  have:=of_decide_eq_true e;exact decide_eq_true (by lia)
 |false=>
  have:=of_decide_eq_true e;exact decide_eq_true (by lia)
theorem qNT {xs:Array Keyed} {lo hi:Nat} (h:hi<=xs.size)(u:gSeg xs lo hi):(xs.extract lo hi).toList.Pairwise grUp:=by
 rw[P2];intro i j a b d;have e:(xs.extract lo hi).size=hi-lo:=by simp;lia
 have c:i<hi-lo:=by simp at a;lia
 have f:j<hi-lo:=by simp at b;lia
 have:=u (lo+i) (lo+j) (by lia) (by lia) (by lia)
 rw[qUM (by lia),qUM (by lia)] at this
 simpa using this
theorem qG4 {xs:Array Keyed} {lo hi:Nat} {x:Keyed} (m:x∈(xs.extract lo hi).toList):∃j,lo<=j/\j<hi/\j<xs.size/\gK xs j=gkv x:=by
 obtain⟨i,a,e⟩:=U4 m;have b:i<hi-lo/\i<xs.size-lo:=by simp at a;lia
 refine⟨lo+i,by lia,by lia,by lia,?_⟩
 rw[qUM (by lia),<- e]
 simp
theorem qUK {xs:Array Keyed} {lo hi i:Nat} {x:Keyed} (m:(xs.extract lo hi).toList[i]?=some x):gK xs (lo+i)=gkv x:=by
 obtain⟨a,e⟩:=A3.mp m;have b:i<hi-lo/\i<xs.size-lo:=by simp at a;lia
 rw[qUM (by lia),<- e]
 simp
theorem qcI {xs ys:Array Keyed} {b:Nat} {r:List Keyed} (e:ys.toList=xs.toList.take b++r++xs.toList.drop (b+r.length))(d:b+r.length<=xs.size)(j:Nat):
  (j<b\/b+r.length<=j->gK ys j=gK xs j)/\(b<=j->j<b+r.length->∃x,r[j-b]?=some x/\gK ys j=gkv x):=by
 have a:(xs.toList.take b).length=b:=by simp;lia
 constructor
 ·intro hj;apply qG5;rw[<- G8,<- G8,e,J4];rcases hj with hj|hj
  ·rw[F4 (by lia),T3 hj]
  ·rw[E1 (by lia),a,E1 (by lia),k4]
   congr 1
   lia
 ·intro c f;refine⟨r[j-b]'(by lia),A5 _,qK8 ?_⟩
  rw[<- G8,e,J4,E1 (by lia),a,F4 (by lia)]
  exact A5 _
section
variable{prog:B90}{w:World}{A:Around}{E:Aa1}{s:Shared}{κ0:C25}[LtOk prog w A s κ0]
theorem qWP {st a:SortSt} {Q:PUnit->SortSt->Prop} (h:Q ⟨⟩ a):wpS (model prog w) A E s (set a:StateT SortSt Sem PUnit) Q st:=by
 unfold wpS;rw[StateT.run_set];exact B88 ⟨rfl,h⟩
structure gSG (κ0:C25)(a₀:Array Keyed)(st:SortSt):Prop where
 perm:(arrOf st).Perm a₀
 kind:kindOf st=κ0
 failed:failedOf st=none
def gSG.size {a₀:Array Keyed} {st:SortSt} (h:gSG κ0 a₀ st):(arrOf st).size=a₀.size:=h.perm.size_eq
def gSG.ik {a₀:Array Keyed} {st:SortSt} (h:gSG κ0 a₀ st)(a:qCN a₀):∀x∈(arrOf st).toList,gIK x:=λx b=>a x ((d8.mp h.perm).mem_iff.mp b)
theorem qWS {a₀:Array Keyed} {st:SortSt} {i b d p t q:Nat} {o u:List (Nat×Nat×Nat)} {Q:Bool->SortSt->Prop} (h0:qCN a₀)(g:gSG κ0 a₀ st)
  (hp:(B93 st).toList=o++(b,d,p)::(b+d,t,q)::u) (hi:i=o.length) (ac:0<d) (af:0<t) (hsz:b+d+t<=a₀.size)
  (ua:gSeg (arrOf st) b (b+d)) (ub:gSeg (arrOf st) (b+d) (b+d+t))
  (h:∀st',gSG κ0 a₀ st'->(B93 st').toList=o++(b,d+t,p)::u->gSeg (arrOf st') b (b+d+t)->(∀k,k<b\/b+d+t<=k->gK (arrOf st') k=gK (arrOf st) k)->Q true st'):
  wpS (model prog w) A E s (mergeAt' i) Q st:=by
 have p1:(B93 st)[i]?=some (b,d,p):=by
  rw[<- G8,hp,hi,E1 (A9 _),Y3]
  rfl
 have p2:(B93 st)[i+1]?=some (b+d,t,q):=by
  rw[<- G8,hp,hi,E1 (by lia),show o.length+1-o.length=1 by lia]
  rfl
 have p3:(((B93 st).setIfInBounds i (b,d+t,p)).eraseIdxIfInBounds (i+1)).toList=o++(b,d+t,p)::u:=by
  rw[Array.toList_eraseIdxIfInBounds,A11,hp,hi];rw[List.set_append_right _ _ (A9 _),Y3,List.eraseIdx_append_of_length_le (by lia),show o.length+1-o.length=1 by lia]
  rfl
 have size:=g.size;have ik:=g.ik h0;unfold mergeAt';refine B91 (C33 ?_);dsimp only;rw[p1,p2];dsimp only;obtain⟨kb,a6,_,ad⟩:=qCM (a:=arrOf st) (i:=b+d) (by lia)
 have ag:gK (arrOf st) (b+d)=gkv kb:=qK8 a6;refine B91 (qWP (B91 (qBC a6 ?_)));have g1:gSG κ0 a₀ (setPending st (((B93 st).setIfInBounds i (b,d+t,p)).eraseIdxIfInBounds (i+1))):=⟨g.perm,g.kind,g.failed⟩;show wpS _ _ _ _ (qWX false kb (arrOf st) b d 0 >>= _) _ _;refine B91 (qG3 g1.kind (ik kb ad) ik (by lia) ac (qIP (by lia) ua) λk hk h1 h2=>?_)
 have a1:∀j,b<=j->j<b+k->gK (arrOf st) j<=gkv kb:=λj n l=>by
  have e:=h1 (j-b) (by lia)
  rw[qHL (by lia),show b+(j-b)=j by lia] at e
  exact of_decide_eq_true e
 have a2:∀j,b+k<=j->j<b+d->gkv kb<gK (arrOf st) j:=λj n l=>by
  have e:=h2 (j-b) (by lia) (by lia)
  rw[qHL (by lia),show b+(j-b)=j by lia] at e
  have:=of_decide_eq_false e
  lia
 dsimp only;by_cases ek:d-k=0
 ·refine gifT (by simpa using ek) (B92 (h _ g1 p3 (λi j n f l=>?_) λ_ _=>rfl))
  show gK (arrOf st) i<=gK (arrOf st) j;by_cases c1:j<b+d
  ·exact ua i j n f c1
  ·by_cases c2:i<b+d
   ·have q1:=a1 i n (by lia)
    have q2:=ub (b+d) j (by lia) (by lia) l
    lia
   ·exact ub i j (by lia) f l
 refine gifF (by simpa using ek) ?_
 rw[show b+k+(d-k)-1=b+d-1 by lia]
 obtain⟨kz,a8,_,ae⟩:=qCM (a:=arrOf st) (i:=b+d-1) (by lia)
 have ah:gK (arrOf st) (b+d-1)=gkv kz:=qK8 a8;refine B91 (qBC a8 ?_);show wpS _ _ _ _ (qWX true kz (arrOf st) (b+d) t (t-1) >>= _) _ _;refine B91 (qG3 g1.kind (ik kz ae) ik (by lia) (by lia) (qIP (by lia) ub) λm hm h3 h4=>?_)
 have b1:∀j,b+d<=j->j<b+d+m->gK (arrOf st) j<gkv kz:=λj n l=>by
  have e:=h3 (j-(b+d)) (by lia)
  rw[qHL (by lia),show b+d+(j-(b+d))=j by lia] at e
  exact of_decide_eq_true e
 have b2:∀j,b+d+m<=j->j<b+d+t->gkv kz<=gK (arrOf st) j:=λj n l=>by
  have e:=h4 (j-(b+d)) (by lia) (by lia)
  rw[qHL (by lia),show b+d+(j-(b+d))=j by lia] at e
  have:=of_decide_eq_false e
  lia
 dsimp only;by_cases em:m=0
 ·refine gifT (by simpa using em) (B92 (h _ g1 p3 (λi j n f l=>?_) λ_ _=>rfl))
  show gK (arrOf st) i<=gK (arrOf st) j;by_cases c1:j<b+d
  ·exact ua i j n f c1
  ·by_cases c2:i<b+d
   ·have q1:=ua i (b+d-1) n (by lia) (by lia)
    have q2:=b2 j (by lia) l
    lia
   ·exact ub i j (by lia) f l
 refine gifF (by simpa using em) ?_
 have sx:((arrOf st).extract (b+k) (b+d)).size=d-k:=by simp;lia
 have sy:((arrOf st).extract (b+d) (b+d+m)).size=m:=by simp;lia
 have ux:=qNT (xs:=arrOf st) (lo:=b+k) (hi:=b+d) (by lia) λi j n f l=>ua i j (by lia) f l
 have uy:=qNT (xs:=arrOf st) (lo:=b+d) (hi:=b+d+m) (by lia) λi j n f l=>ub i j n f (by lia)
 have kx:∀x∈((arrOf st).extract (b+k) (b+d)).toList,gIK x:=λx hx=>ik x (by rw[qAT] at hx;exact P3 (X4 hx))
 have ky:∀x∈((arrOf st).extract (b+d) (b+d+m)).toList,gIK x:=λx hx=>ik x (by rw[qAT] at hx;exact P3 (X4 hx))
 have a5:∀y,((arrOf st).extract (b+d) (b+d+m)).toList[0]?=some y->∀x∈((arrOf st).extract (b+k) (b+d)).toList,gkv y<=gkv x:=by
  intro y hy x hx;have e:=qUK hy;obtain⟨j,v,j2,_,ej⟩:=qG4 hx;have:=a2 j v j2;rw[u8] at e
  lia
 have a9:∀z,((arrOf st).extract (b+k) (b+d)).toList[((arrOf st).extract (b+k) (b+d)).size-1]?=some z->∀y∈((arrOf st).extract (b+d) (b+d+m)).toList,gkv y<=gkv z:=by
  intro z hz y hy;have e:=qUK hz;obtain⟨j,v,j2,_,ej⟩:=qG4 hy;have:=b1 j v j2;rw[sx,show b+k+(d-k-1)=b+d-1 by lia] at e
  lia
 have aa:∀(r:Array Keyed) (st2:SortSt),gSE (setPending st (((B93 st).setIfInBounds i (b,d+t,p)).eraseIdxIfInBounds (i+1))) st2->gRes (((arrOf st).extract (b+k) (b+d)).toList++((arrOf st).extract (b+d) (b+d+m)).toList) r.toList->
   Q true (setArr st2 (r.toList.zipIdx.foldl (λa (p:Keyed×Nat)=>a.setIfInBounds (b+k+p.2) p.1) (arrOf st2))):=by
  rintro r st2 ⟨q1,q2,q3,q4⟩ ⟨rp,ru⟩;have a4:arrOf st2=arrOf st:=q2;have rl:r.toList.length=d-k+m:=by
   rw[rp.length_eq,B0,C4,C4,sx,sy]
  have e:=qNW (b+k) r.toList 0 (arrOf st2) (by rw[a4,rl];lia)
  rw[u8,a4] at e;have LK:=qcI e (by rw[rl];lia)
  have e0:(arrOf st).toList=(arrOf st).toList.take (b+k)++(((arrOf st).extract (b+k) (b+d)).toList++((arrOf st).extract (b+d) (b+d+m)).toList)++(arrOf st).toList.drop (b+k+r.toList.length):=by
   rw[qAT,qAT,rl,show b+d-(b+k)=d-k by lia,show b+d+m-(b+d)=m by lia]
   have t1:(arrOf st).toList.drop (b+d)=((arrOf st).toList.drop (b+k)).drop (d-k):=by rw[A24];congr 1;lia
   have t2:(arrOf st).toList.drop (b+k)=((arrOf st).toList.drop (b+k)).take (d-k+m)++(arrOf st).toList.drop (b+k+(d-k+m)):=qGU;rw[t1,<- B72,J4,<- t2,S0]
  have gp:(r.toList.zipIdx.foldl (λa (p:Keyed×Nat)=>a.setIfInBounds (b+k+p.2) p.1) (arrOf st)).Perm (arrOf st):=by
   rw[d8,e]
   conv=>rhs;rw[e0]
   exact(u7 _ rp).append_right _
  have a7:∀x∈r.toList,∀i,b<=i->i<b+k->gK (arrOf st) i<=gkv x:=by
   intro x hx i n hi;rcases C1.mp (rp.mem_iff.mp hx) with hx|hx
   ·obtain⟨j,v,j2,_,ej⟩:=qG4 hx;rw[<- ej];exact ua i j n (by lia) j2
   ·obtain⟨j,v,j2,_,ej⟩:=qG4 hx;have z1:=a1 i n hi;have z2:=ub (b+d) j (by lia) v (by lia)
    lia
  have a0:∀x∈r.toList,∀j,b+d+m<=j->j<b+d+t->gkv x<=gK (arrOf st) j:=by
   intro x hx j n l;rcases C1.mp (rp.mem_iff.mp hx) with hx|hx
   ·obtain⟨i,v,j2,_,ej⟩:=qG4 hx;have z1:=ua i (b+d-1) (by lia) (by lia) (by lia)
    have z2:=b2 j n l
    lia
   ·obtain⟨i,v,j2,_,ej⟩:=qG4 hx;rw[<- ej];exact ub i j v (by lia) l
  rw[a4];refine h _ ⟨gp.trans g.perm,q1.trans g.kind,q4.trans g.failed⟩ ((congrArg B26 q3).trans p3) ?_ λj l=>(LK j).1 (by rw[rl];lia)
  intro i j n f l;show gK (r.toList.zipIdx.foldl (λa (p:Keyed×Nat)=>a.setIfInBounds (b+k+p.2) p.1) (arrOf st)) i<=gK (r.toList.zipIdx.foldl (λa (p:Keyed×Nat)=>a.setIfInBounds (b+k+p.2) p.1) (arrOf st)) j;have K1:∀j,j<b+k\/b+k+(d-k+m)<=j->gK (r.toList.zipIdx.foldl (λa (p:Keyed×Nat)=>a.setIfInBounds (b+k+p.2) p.1) (arrOf st)) j=gK (arrOf st) j:=λj l=>(LK j).1 (by rw[rl];exact l)
  have K2:∀j,b+k<=j->j<b+k+(d-k+m)->∃x,r.toList[j-(b+k)]?=some x/\gK (r.toList.zipIdx.foldl (λa (p:Keyed×Nat)=>a.setIfInBounds (b+k+p.2) p.1) (arrOf st)) j=gkv x:=λj h1 h2=>(LK j).2 h1 (by rw[rl];exact h2)
  by_cases c1:i<b+k
  ·rw[K1 i (.inl c1)];by_cases c2:j<b+k
   ·rw[K1 j (.inl c2)];exact ua i j n f (by lia)
   ·by_cases c3:j<b+k+(d-k+m)
    ·obtain⟨x,ex,a3⟩:=K2 j (by lia) c3
     rw[a3];exact a7 x (B3 ex) i n c1
    ·rw[K1 j (.inr (by lia))]
     have z1:=a1 i n c1;have z2:=ub (b+d) j (by lia) (by lia) l
     lia
  ·by_cases c2:i<b+k+(d-k+m)
   ·obtain⟨x,ex,a3⟩:=K2 i (by lia) c2
    rw[a3];by_cases c3:j<b+k+(d-k+m)
    ·obtain⟨y,ey,ab⟩:=K2 j (by lia) c3
     rw[ab];by_cases c4:i=j
     ·rw[c4] at ex;rw[ex] at ey;cases ey;exact J9 _
     ·obtain⟨x1,x2⟩:=A3.mp ex;obtain⟨y1,y2⟩:=A3.mp ey;have:=P2.mp ru (i-(b+k)) (j-(b+k)) x1 y1 (by lia)
      rw[x2,y2] at this;exact this
    ·rw[K1 j (.inr (by lia))]
     exact a0 x (B3 ex) j (by lia) l
   ·rw[K1 i (.inr (by lia)),K1 j (.inr (by lia))]
    exact ub i j (by lia) f l
 by_cases c:d-k<=m
 ·refine gifT c ?_;show wpS _ _ _ _ (gmLo ((arrOf st).extract (b+k) (b+d)) ((arrOf st).extract (b+d) (b+d+m)) >>= _) _ _;refine B91 (qWQ g1.kind kx ky ux uy (by rw[sx];lia) (by rw[sy];lia) a5 a9 λr st2 se rs=>B91 (C10 (B91 (C33 (B92 ?_)))))
  have e:(failedOf st2).isNone=true:=by rw[se.2.2.2,g1.failed];rfl
  show Q (failedOf st2).isNone _;rw[e];exact aa r st2 se rs
 ·refine gifF c ?_;show wpS _ _ _ _ (gmHi ((arrOf st).extract (b+k) (b+d)) ((arrOf st).extract (b+d) (b+d+m)) >>= _) _ _;refine B91 (qWR g1.kind kx ky ux uy (by rw[sx];lia) (by rw[sy];lia) a5 a9 λr st2 se rs=>B91 (C10 (B91 (C33 (B92 ?_)))))
  have e:(failedOf st2).isNone=true:=by rw[se.2.2.2,g1.failed];rfl
  show Q (failedOf st2).isNone _;rw[e];exact aa r st2 se rs
end
end L2.G
namespace L2.G
open PySem PyProof.Rows
variable[NM]
def gOut (xs ys:Array Keyed)(lo hi:Nat):Prop:=∀k,k<lo\/hi<=k->gK ys k=gK xs k
def gOut.refl (xs:Array Keyed)(lo hi:Nat):gOut xs xs lo hi:=λ_ _=>rfl
def gOut.trans {xs ys zs:Array Keyed} {lo hi:Nat} (b:gOut xs ys lo hi)(c:gOut ys zs lo hi):gOut xs zs lo hi:=λk a=>(c k a).trans (b k a)
theorem gOut.wide {xs ys:Array Keyed} {lo hi d c:Nat} (h:gOut xs ys lo hi)(a:d<=lo)(b:hi<=c):gOut xs ys d c:=λk e=>h k (by lia)
def gSG.lay {κ0:C25} {a₀:Array Keyed} {st:SortSt} (g:gSG κ0 a₀ st){ys:Array Keyed}(p:ys.Perm (arrOf st)):gSG κ0 a₀ (setArr st ys):=⟨p.trans g.perm,g.kind,g.failed⟩
theorem qP5 {xs:Array Keyed} {i j:Nat} (a:j<=xs.size):gOut xs (mirror xs i j ((j-i)/2)) i j:=λk b=>by rw[qHM a,if_neg (by lia)]
section
variable{prog:B90}{w:World}{A:Around}{E:Aa1}{s:Shared}{κ0:C25}[LtOk prog w A s κ0]{a₀:Array Keyed}
theorem qHI {st:SortSt} {i j:Nat} {Q:Option Bool->SortSt->Prop} (d:qCN a₀)(g:gSG κ0 a₀ st)(hi:i<a₀.size)(f:j<a₀.size)(h:Q (some (decide (gK (arrOf st) i<gK (arrOf st) j))) st):wpS (model prog w) A E s (ltAt' i j) Q st:=by
 have a:i<(arrOf st).size:=by rw[g.size];exact hi
 have b:j<(arrOf st).size:=by rw[g.size];exact f
 obtain⟨x,c,_,l⟩:=qCM a;obtain⟨y,e,_,k⟩:=qCM b;rw[qK8 c,qK8 e] at h;rw[ltAt'_eq];exact B91 (C33 (B91 (qBC c (B91 (qBC e (qHJ g.kind (g.ik d x l) (g.ik d y k) h))))))
theorem qWV {st:SortSt} {lo n o:Nat} {Q:Bool->SortSt->Prop} (z:qCN a₀)(g:gSG κ0 a₀ st)(hn:lo+n<=a₀.size)(a0:o<=n)(u:gSeg (arrOf st) lo (lo+o))
  (h:∀st2,gSG κ0 a₀ st2->B93 st2=B93 st->gSeg (arrOf st2) lo (lo+n)->gOut (arrOf st) (arrOf st2) lo (lo+n)->Q true st2):wpS (model prog w) A E s (binarySort' lo n o) Q st:=by
 rw [binarySort'_eq];refine B91 (C17 (C05 (I:=fun k c st2=>c=(none,())/\gSG κ0 a₀ st2/\B93 st2=B93 st/\gSeg (arrOf st2) lo (lo+min k n)/\gOut (arrOf st) (arrOf st2) lo (lo+n))
  (Q:=λc st2=>c=(none,())/\gSG κ0 a₀ st2/\B93 st2=B93 st/\gSeg (arrOf st2) lo (lo+n)/\gOut (arrOf st) (arrOf st2) lo (lo+n)) ?step ?fin ?init) ?post)
 case post=>
  rintro c st2 ⟨rfl,g2,pe,u2,o2⟩;exact B92 (h st2 g2 pe u2 o2)
 case init=>
  refine⟨rfl,g,rfl,λi j t m y=>?_,.refl _ _ _⟩;by_cases p:o=0
  ·rw[show i=j by lia]
   exact J9 _
  ·exact u i j t m (by lia)
 case fin=>
  rintro c st2 ⟨hc,g2,pe,u2,o2⟩;rw[show min (max (max o 1) n) n=n by lia] at u2
  exact⟨hc,g2,pe,u2,o2⟩
 case step=>
  rintro k c st2 hak hkn ⟨rfl,g2,pe,u2,o2⟩;rw[show min k n=k by lia] at u2
  have v:lo+k<a₀.size:=by lia
  refine B91 (C17 (C05 (I:=fun x c a=>a=st2/\∃ l r,c=(none,l,r)/\l<=r/\r<=k/\r - l<=k - x/\
    (∀i,lo<=i->i<lo+l->gK (arrOf st2) i<=gK (arrOf st2) (lo+k))/\(∀i,lo+r<=i->i<lo+k->gK (arrOf st2) (lo+k)<gK (arrOf st2) i))
   (Q:=fun c a=>a=st2/\∃ l r,c=(none,l,r)/\l<=k/\
    (∀i,lo<=i->i<lo+l->gK (arrOf st2) i<=gK (arrOf st2) (lo+k))/\(∀i,lo+l<=i->i<lo+k->gK (arrOf st2) (lo+k)<gK (arrOf st2) i)) ?istep ?ifin ?iinit) ?ipost)
  case iinit=>exact⟨rfl,0,k,rfl,by lia,by lia,by lia,λi _ hi=>by lia,λi p q=>by lia⟩
  case ifin=>
   rintro c a ⟨rfl,l,r,rfl,hlr,hrk,hm,ha,hb⟩;have e:l=r:=by lia
   rw[<- e] at hb hrk;exact⟨rfl,l,r,rfl,hrk,ha,hb⟩
  case istep=>
   rintro x c a _ hxk ⟨rfl,l,r,rfl,hlr,hrk,hm,ha,hb⟩;dsimp only;by_cases f:l>=r
   ·refine gifT f ?_;have e:l=r:=by lia
    rw[<- e] at hb hrk;exact B92 ⟨rfl,l,r,rfl,hrk,ha,hb⟩
   ·refine gifF f (B91 (qHI z g2 v (by lia) ?_))
    by_cases b:gK (arrOf a) (lo+k)<gK (arrOf a) (lo+(l+r)/2)
    ·rw[decide_eq_true b];dsimp only;refine gifT rfl (B92 ⟨rfl,l,(l+r)/2,rfl,by lia,by lia,by lia,ha,λi p q=>?_⟩)
     have:=u2 (lo+(l+r)/2) i (by lia) p q
     lia
    ·rw[decide_eq_false b];dsimp only;rw[if_neg B8];refine B92 ⟨rfl,(l+r)/2+1,r,rfl,by lia,by lia,by lia,λi h3 p=>?_,hb⟩
     have:=u2 i (lo+(l+r)/2) h3 (by lia) (by lia)
     lia
  case ipost=>
   rintro c a ⟨rfl,l,r,rfl,hlk,ha,hb⟩;have d:lo+k<(arrOf a).size:=by rw[g2.size];exact v
   show wpS _ _ _ _ (moveDown' (lo+k) (lo+l) >>= λ_=>pure (Q5 (none,()))) _ _;rw[moveDown'_eq];refine B91 (C10 (B92 ⟨rfl,g2.lay (bubble_perm _ _ _),pe,?_,o2.trans ?_⟩))
   ·rw[show min (k+1) n=k+1 by lia]
    intro i j t m y;show gK (bubble (arrOf a) (lo+k) (lo+k-(lo+l))) i<=gK (bubble (arrOf a) (lo+k) (lo+k-(lo+l))) j;rw[qK9 d (by lia),qK9 d (by lia),show lo+k-(lo+k-(lo+l))=lo+l by lia]
    repeat' split
    all_goals first
     |(exfalso;lia)
     |exact J9 _
     |exact ha _ (by lia) (by lia)
     |exact A71 (hb _ (by lia) (by lia))
     |exact u2 _ _ (by lia) (by lia) (by lia)
   ·intro i hi;show gK (bubble (arrOf a) (lo+k) (lo+k-(lo+l))) i=gK (arrOf a) i;rw[qK9 d (by lia),if_neg (by lia),if_neg (by lia)]
abbrev gCUp:=Option (Option Nat)×Nat
abbrev gCDn:=Option (Option Nat)×Nat×Nat
noncomputable def gupL (lo a m:Nat):gSM gCUp:=
 forIn [a:m] ((none,a):gCUp) λ_ c=>do
  let t <- ltAt' (lo+c.snd) (lo+c.snd-1)
  match t with
  |some less=>if less=true then pure (t8 (none,c.snd)) else pure (Q5 (none,c.snd+1))
  |_=>pure (t8 (some none,c.snd))
noncomputable def qUI (lo n m:Nat):gSM (Option Nat):=do
 reverseSlice' lo (lo+n)
 let c <- gupL lo n m
 match c.fst with
 |some r=>pure r
 |none=>pure (some c.snd)
noncomputable def gdnL (lo n m:Nat):gSM gCDn:=
 forIn [n:m] ((none,n,0):gCDn) λ_ c=>do
  let t <- ltAt' (lo+c.snd.fst) (lo+c.snd.fst-1)
  match t with
  |some less=>
   if less=true then
    if c.snd.snd>0 then do
     reverseSlice' (lo+c.snd.fst-(c.snd.snd+1)) (lo+c.snd.fst)
     pure (Q5 (none,c.snd.fst+1,0))
    else pure (Q5 (none,c.snd.fst+1,0))
   else do
    let t <- ltAt' (lo+c.snd.fst-1) (lo+c.snd.fst)
    match t with
    |some more=>
     if more=true then pure (t8 (none,c.snd.fst,c.snd.snd))
     else pure (Q5 (none,c.snd.fst+1,c.snd.snd+1))
    |_=>pure (t8 (some none,c.snd.fst,c.snd.snd))
  |_=>pure (t8 (some none,c.snd.fst,c.snd.snd))
noncomputable def gdnP (lo n m:Nat):gSM (Option Nat):=do
 liftM (rule "list.sort.descending-run")
 let c <- gdnL lo (n+1) m
 match c.fst with
 |some r=>pure r
 |none=>
  if c.snd.snd>0 then do
   reverseSlice' (lo+c.snd.fst-(c.snd.snd+1)) (lo+c.snd.fst)
   qUI lo c.snd.fst m
  else qUI lo c.snd.fst m
theorem qBJ {α β:Type} {x y:gSM α} {f g:α->gSM β} (h:x=y)(k:∀a,f a=g a):(x >>= f)=(y >>= g):=by rw[h,show f=g from funext k]
theorem qUJ (lo m:Nat):countRun' lo m=(do
  let c <- gupL lo 1 m
  match c.fst with
  |some r=>pure r
  |none=>
   if(c.snd==m)=true then pure (some c.snd)
   else if c.snd>1 then do
    let t <- ltAt' lo (lo+c.snd-1)
    match t with
    |some rose=>if rose=true then pure (some c.snd) else do
      reverseSlice' lo (lo+c.snd)
      gdnP lo c.snd m
    |_=>pure none
   else gdnP lo c.snd m):=by
 rw[countRun'_eq];unfold gdnP qUI gdnL gupL;refine qBJ rfl λc=>?_;obtain⟨r,n⟩:=c;cases r with
 |some r=>rfl
 |none=>
  have f:∀c3:gCUp,(match c3.fst with|some r=>pure r|none=>pure (some c3.snd):gSM (Option Nat))=(match c3.fst with|some r=>pure r|none=>pure (some c3.snd)):=λ_=>rfl
  dsimp only
  split
  ·rfl
  ·split
   ·refine qBJ rfl λx=>?_;cases x with
    |none=>rfl
    |some rose=>
     dsimp only
     split
     ·rfl
     ·refine qBJ rfl λ_=>qBJ rfl λ_=>qBJ rfl λe=>?_;obtain⟨b,g,h⟩:=e;cases b with
      |some b=>rfl
      |none=>
       dsimp only
       split
       ·refine qBJ rfl λ_=>qBJ rfl λ_=>qBJ rfl λc3=>?_;obtain⟨a,d⟩:=c3;cases a<;>rfl
       ·refine qBJ rfl λ_=>qBJ rfl λc3=>?_;obtain⟨a,d⟩:=c3;cases a<;>rfl
   ·refine qBJ rfl λ_=>qBJ rfl λe=>?_;obtain⟨b,g,h⟩:=e;cases b with
    |some b=>rfl
    |none=>
     dsimp only
     split
     ·refine qBJ rfl λ_=>qBJ rfl λ_=>qBJ rfl λc3=>?_;obtain⟨a,d⟩:=c3;cases a<;>rfl
     ·refine qBJ rfl λ_=>qBJ rfl λc3=>?_;obtain⟨a,d⟩:=c3;cases a<;>rfl
def gFal (xs:Array Keyed)(lo hi:Nat):Prop:=∀i j,lo<=i->i<=j->j<hi->gK xs j<=gK xs i
theorem qQQ {st:SortSt} {lo a m:Nat} {Q:gCUp->SortSt->Prop} (o:qCN a₀)(g:gSG κ0 a₀ st)(v:lo+m<=a₀.size)(t:1<=a)(k:a<=m)(u:gSeg (arrOf st) lo (lo+a))
  (h:∀n,a<=n->n<=m->gSeg (arrOf st) lo (lo+n)->(n=m\/gK (arrOf st) (lo+n)<gK (arrOf st) (lo+n-1))->Q (none,n) st):wpS (model prog w) A E s (gupL lo a m) Q st:=by
 unfold gupL;refine C05 (I:=λx c d=>d=st/\c=(none,x)/\gSeg (arrOf st) lo (lo+x)) ?step ?fin ⟨rfl,rfl,u⟩
 case fin=>
  rintro c d ⟨rfl,rfl,u2⟩;rw[show max a m=m by lia] at u2 ⊢
  exact h m k (A9 _) u2 (.inl rfl)
 case step=>
  rintro x c d hax hxn ⟨rfl,rfl,u2⟩;dsimp only;refine B91 (qHI o g (by lia) (by lia) ?_)
  by_cases b:gK (arrOf d) (lo+x)<gK (arrOf d) (lo+x-1)
  ·rw[decide_eq_true b];dsimp only;exact gifT rfl (B92 (h x hax (by lia) u2 (.inr b)))
  ·rw[decide_eq_false b];dsimp only;rw[if_neg B8];refine B92 ⟨rfl,rfl,λi j l f r=>?_⟩;by_cases e:j<lo+x
   ·exact u2 i j l f e
   ·have q:j=lo+x:=by lia
    rw[q];by_cases p:i=lo+x
    ·rw[p];exact J9 _
    ·have:=u2 i (lo+x-1) l (by lia) (by lia)
     lia
theorem qNS {st:SortSt} {lo n m:Nat} {Q:Option Nat->SortSt->Prop} (f:qCN a₀)(g:gSG κ0 a₀ st)(q:lo+m<=a₀.size)(l:1<=n)(b:n<=m)(u:gFal (arrOf st) lo (lo+n))
  (h:∀k st2,gSG κ0 a₀ st2->B93 st2=B93 st->1<=k->k<=m->gSeg (arrOf st2) lo (lo+k)->gOut (arrOf st) (arrOf st2) lo (lo+m)->Q (some k) st2):wpS (model prog w) A E s (qUI lo n m) Q st:=by
 unfold qUI;have a:lo+n<=(arrOf st).size:=by rw[g.size];lia
 rw[C61];refine B91 (C10 ?_);have d:gSG κ0 a₀ (setArr st (mirror (arrOf st) lo (lo+n) ((lo+n-lo)/2))):=g.lay (mirror_perm _ _ _ _);refine B91 (qQQ f d q l b ?_ λk e c p _=>B92 (h k _ d rfl (by lia) c p ((qP5 a).wide (A9 _) (by lia))))
 intro i j t o r;show gK (mirror (arrOf st) lo (lo+n) ((lo+n-lo)/2)) i<=gK (mirror (arrOf st) lo (lo+n) ((lo+n-lo)/2)) j;rw[qHM a,qHM a,if_pos (by lia),if_pos (by lia)]
 exact u _ _ (by lia) (by lia) (by lia)
theorem qWT {st:SortSt} {lo n m:Nat} {Q:gCDn->SortSt->Prop} (h0:qCN a₀)(g:gSG κ0 a₀ st)(hm:lo+m<=a₀.size)(t:1<=n)(y:n<=m)(u:gFal (arrOf st) lo (lo+n))
  (h:∀k e st2,gSG κ0 a₀ st2->B93 st2=B93 st->n<=k->k<=m->gFal (arrOf st2) lo (lo+k)->e+1<=k->(∀i,lo+k-(e+1)<=i->i<lo+k->gK (arrOf st2) i=gK (arrOf st2) (lo+k-1))->gOut (arrOf st) (arrOf st2) lo (lo+m)->Q (none,k,e) st2):
  wpS (model prog w) A E s (gdnL lo n m) Q st:=by
 unfold gdnL;refine C05 (I:=fun x c st2=>∃ e,c=(none,x,e)/\gSG κ0 a₀ st2/\B93 st2=B93 st/\gFal (arrOf st2) lo (lo+x)/\e+1<=x/\
   (∀i,lo+x-(e+1)<=i->i<lo+x->gK (arrOf st2) i=gK (arrOf st2) (lo+x-1))/\gOut (arrOf st) (arrOf st2) lo (lo+m)) ?step ?fin ⟨0,rfl,g,rfl,u,by lia,λi t v=>by congr 1;lia,.refl _ _ _⟩
 case fin=>
  rintro c st2 ⟨e,rfl,g2,pe,u2,hq,he,o2⟩;rw[show max n m=m by lia] at u2 hq he ⊢
  exact h m e st2 g2 pe y (A9 _) u2 hq he o2
 case step=>
  rintro x c st2 hax hxn ⟨e,rfl,g2,pe,u2,hq,he,o2⟩;dsimp only;have o:lo+x<=(arrOf st2).size:=by rw[g2.size];lia
  refine B91 (qHI h0 g2 (by lia) (by lia) ?_)
  by_cases a:gK (arrOf st2) (lo+x)<gK (arrOf st2) (lo+x-1)
  ·rw[decide_eq_true a];dsimp only;refine gifT rfl ?_;have b:∀ys:Array Keyed,(∀k,gK ys k=gK (arrOf st2) k)->gFal ys lo (lo+(x+1)):=by
    intro ys hk i j p l hj;rw[hk,hk];by_cases f:j<lo+x
    ·exact u2 i j p l f
    ·have z:j=lo+x:=by lia
     rw[z];by_cases r:i=lo+x
     ·rw[r];exact J9 _
     ·have:=u2 i (lo+x-1) p (by lia) (by lia)
      lia
   by_cases d:e>0
   ·rw[if_pos d,C61];refine B91 (C10 (B92 ⟨0,rfl,g2.lay (mirror_perm _ _ _ _),pe,b _ (qB1 o he),by lia,λi t v=>by congr 1;lia,o2.trans ?_⟩))
    exactλk _=>qB1 o he k
   ·exact gifF d (B92 ⟨0,rfl,g2,pe,b _ (λ_=>rfl),by lia,λi t v=>by congr 1;lia,o2⟩)
  ·rw[decide_eq_false a];dsimp only;rw[if_neg B8];refine B91 (qHI h0 g2 (by lia) (by lia) ?_)
   by_cases q:gK (arrOf st2) (lo+x-1)<gK (arrOf st2) (lo+x)
   ·rw[decide_eq_true q];dsimp only;exact gifT rfl (B92 (h x e st2 g2 pe hax (by lia) u2 hq he o2))
   ·rw[decide_eq_false q];dsimp only;rw[if_neg B8];have ex:gK (arrOf st2) (lo+x)=gK (arrOf st2) (lo+x-1):=by lia
    refine B92 ⟨e+1,rfl,g2,pe,λi j p l hj=>?_,by lia,λi t v=>?_,o2⟩
    ·by_cases f:j<lo+x
     ·exact u2 i j p l f
     ·have z:j=lo+x:=by lia
      rw[z];by_cases r:i=lo+x
      ·rw[r];exact J9 _
      ·rw[ex];exact u2 i (lo+x-1) p (by lia) (by lia)
    ·rw[show lo+(x+1)-1=lo+x by lia]
     by_cases r:i=lo+x
     ·rw[r]
     ·rw[ex];exact he i (by lia) (by lia)
theorem qQR {st:SortSt} {lo n m:Nat} {Q:Option Nat->SortSt->Prop} (h0:qCN a₀)(g:gSG κ0 a₀ st)(z:lo+m<=a₀.size)(y:n+1<=m)(u:gFal (arrOf st) lo (lo+(n+1)))
  (h:∀k st2,gSG κ0 a₀ st2->B93 st2=B93 st->1<=k->k<=m->gSeg (arrOf st2) lo (lo+k)->gOut (arrOf st) (arrOf st2) lo (lo+m)->Q (some k) st2):wpS (model prog w) A E s (gdnP lo n m) Q st:=by
 unfold gdnP;refine B91 (wpS_lift (C13 ⟨rfl,B91 (qWT h0 g z (by lia) y u λk e st2 o pe a0 f u2 hq p o2=>?_)⟩))
 dsimp only;have d:lo+k<=(arrOf st2).size:=by rw[o.size];lia
 by_cases a:e>0
 ·rw[if_pos a,C61];refine B91 (C10 (qNS h0 (o.lay (mirror_perm _ _ _ _)) z (by lia) f ?_ λv c t b x r q o3=>h v c t (b.trans pe) x r q ?_))
  ·intro i j hl l hj;show gK (mirror (arrOf st2) _ _ _) j<=gK (mirror (arrOf st2) _ _ _) i;rw[qB1 d p,qB1 d p];exact u2 i j hl l hj
  ·exact o2.trans (gOut.trans (λk _=>qB1 d p k) o3)
 ·exact gifF a (qNS h0 o z (by lia) f u2 λv c t b x r q o3=>h v c t (b.trans pe) x r q (o2.trans o3))
theorem qWU {st:SortSt} {lo m:Nat} {Q:Option Nat->SortSt->Prop} (u:qCN a₀)(g:gSG κ0 a₀ st)(x:lo+m<=a₀.size)(h1:1<=m)
  (h:∀k st2,gSG κ0 a₀ st2->B93 st2=B93 st->1<=k->k<=m->gSeg (arrOf st2) lo (lo+k)->gOut (arrOf st) (arrOf st2) lo (lo+m)->Q (some k) st2):wpS (model prog w) A E s (countRun' lo m) Q st:=by
 rw[qUJ];refine B91 (qQQ u g x (A9 1) h1 (λi j d l z=>by rw[show i=j by lia];exact J9 _) λn q r t or=>?_)
 dsimp only;by_cases e:n=m
 ·exact gifT (by simpa using e) (B92 (h n st g rfl q r t (.refl _ _ _)))
 ·refine gifF (by simpa using e) ?_
  have c:gK (arrOf st) (lo+n)<gK (arrOf st) (lo+n-1):=or.resolve_left e;by_cases p:n>1
  ·refine gifT p (B91 (qHI u g (by lia) (by lia) ?_))
   by_cases b:gK (arrOf st) lo<gK (arrOf st) (lo+n-1)
   ·rw[decide_eq_true b];dsimp only;exact gifT rfl (B92 (h n st g rfl q r t (.refl _ _ _)))
   ·rw[decide_eq_false b];dsimp only;rw[if_neg B8,C61];have f:lo+n<=(arrOf st).size:=by rw[g.size];lia
    have a:∀k,lo<=k->k<lo+n->gK (arrOf st) k=gK (arrOf st) (lo+n-1):=by
     intro k d hk;have a1:=t lo k (by lia) d hk
     have a2:=t k (lo+n-1) d (by lia) (by lia)
     lia
    refine B91 (C10 (qQR u (g.lay (mirror_perm _ _ _ _)) x (by lia) ?_ λk st2 g2 pe a1 a2 u2 o2=>h k st2 g2 pe a1 a2 u2 (gOut.trans (λk _=>qB1 f a k) o2)))
    intro i j d l z;show gK (mirror (arrOf st) _ _ _) j<=gK (mirror (arrOf st) _ _ _) i;rw[qB1 f a,qB1 f a];by_cases y:j<lo+n
    ·rw[a i d (by lia),a j (by lia) y]
     exact J9 _
    ·have v:j=lo+n:=by lia
     rw[v];by_cases o:i=lo+n
     ·rw[o];exact J9 _
     ·rw[a i d (by lia)]
      exact A71 c
  ·refine gifF p ?_;have e1:n=1:=by lia
   rw[e1] at c;rw[e1];refine qQR u g x (by lia) ?_ h
   intro i j d l z;by_cases o:i=j
   ·rw[o];exact J9 _
   ·have o:i=lo:=by lia
    have v:j=lo+1:=by lia
    rw[o,v];exact A71 c
end
end L2.G
namespace L2.G
open PySem PyProof.Rows
variable[NM]
def qDJ (xs:Array Keyed):List (Nat×Nat×Nat)->Nat->Nat->Prop
 |[],a,b=>a=b
 |r::rs,a,b=>r.1=a/\0<r.2.1/\gSeg xs a (a+r.2.1)/\qDJ xs rs (a+r.2.1) b
theorem qJH {xs:Array Keyed} :∀{l:List (Nat×Nat×Nat)} {a b:Nat},qDJ xs l a b->a+l.length<=b
 |[],a,b,h=>by
  have:a=b:=h;simp
  lia
 |r::rs,a,b,h=>by
  have:=qJH h.2.2.2;have:=h.2.1;simp
  lia
theorem gruns_app {xs:Array Keyed} :∀{l m:List (Nat×Nat×Nat)} {a b:Nat},qDJ xs (l++m) a b↔∃c,qDJ xs l a c/\qDJ xs m c b
 |[],m,a,b=>⟨λh=>⟨a,rfl,h⟩,λ⟨c,e,h⟩=>by cases(show a=c from e);exact h⟩
 |r::rs,m,a,b=>by
  constructor
  ·rintro⟨h1,h2,h3,h4⟩;obtain⟨c,q1,q2⟩:=gruns_app.mp h4;exact⟨c,⟨h1,h2,h3,q1⟩,q2⟩
  ·rintro⟨c,⟨h1,h2,h3,q1⟩,q2⟩;exact⟨h1,h2,h3,gruns_app.mpr ⟨c,q1,q2⟩⟩
theorem qK7 {xs ys:Array Keyed} :∀{l:List (Nat×Nat×Nat)} {a b:Nat},(∀k,a<=k->k<b->gK ys k=gK xs k)->qDJ xs l a b->qDJ ys l a b
 |[],a,b,_,h=>h
 |r::rs,a,b,e,h=>by
  have le:=qJH h.2.2.2;refine⟨h.1,h.2.1,λi j hl hij hj=>?_,qK7 (λk h1 h2=>e k (by lia) h2) h.2.2.2⟩
  rw[e i hl (by lia),e j (by lia) (by lia)]
  exact h.2.2.1 i j hl hij hj
theorem qUH {α:Type} :∀{l:List α} {i:Nat},i+1<l.length->∃pre x y post,l=pre++x::y::post/\pre.length=i
 |[],_,h=>by simp at h
 |[x],_,h=>by simp at h
 |x::y::r,0,_=>⟨[],x,y,r,rfl,rfl⟩
 |x::y::r,i+1,h=>by
  obtain⟨pre,a,b,post,e,el⟩:=qUH (l:=y::r) (i:=i) (by simp at h ⊢;lia)
  exact⟨x::pre,a,b,post,by rw[e];rfl,by simp[el]⟩
section
variable{prog:B90}{w:World}{A:Around}{E:Aa1}{s:Shared}{κ0:C25}[LtOk prog w A s κ0]{a₀:Array Keyed}
theorem qIA {st:SortSt} {i b:Nat} {Q:Bool->SortSt->Prop} (h0:qCN a₀)(g:gSG κ0 a₀ st)(r:qDJ (arrOf st) (B93 st).toList 0 b)(hb:b<=a₀.size)(hi:i+1<(B93 st).size)
  (h:∀st2,gSG κ0 a₀ st2->qDJ (arrOf st2) (B93 st2).toList 0 b->(B93 st2).size+1=(B93 st).size->(∀k,b<=k->gK (arrOf st2) k=gK (arrOf st) k)->Q true st2):wpS (model prog w) A E s (mergeAt' i) Q st:=by
 obtain⟨a0,⟨d,j,p⟩,⟨sb,n,q⟩,a,e,el⟩:=qUH (l:=(B93 st).toList) (i:=i) (by simpa using hi)
 rw[e] at r;obtain⟨c,r1,r2⟩:=gruns_app.mp r;obtain⟨x,z,y,y1,t,y3,m⟩:=r2;dsimp only at x z y y1 t y3 m;subst x;subst y1;have le:=qJH m;refine qWS h0 g e el.symm z t (by lia) y y3 λst2 g2 v u o=>h st2 g2 ?_ ?_ λk f=>o k (.inr (by lia))
 ·rw[v];refine gruns_app.mpr ⟨d,qK7 (λk _ f=>o k (.inl f)) r1,rfl,by show 0<j+n;lia,?_,?_⟩
  ·show gSeg _ d (d+(j+n));rw[<- z8];exact u
  ·show qDJ _ a (d+(j+n)) b;rw[<- z8];exact qK7 (λk f _=>o k (.inr f)) m
 ·have l1:=congrArg Y7 v;have l2:=congrArg Y7 e;simp at l1 l2
  lia
theorem qNV (f:Nat×Nat×Nat->Nat×Nat×Nat)(y:Nat×Nat×Nat):∀l:List (Nat×Nat×Nat),(l++[y]).modify l.length f=l++[f y]
 |[]=>rfl
 |z::l=>by
  show z::(l++[y]).modify l.length f=z::(l++[f y]);rw[qNV f y l]
theorem qNU {xs:Array Keyed} {p:Array (Nat×Nat×Nat)} {b pw:Nat} {f:Nat×Nat×Nat->Nat×Nat×Nat} (d:∀y,(f y).1=y.1/\(f y).2.1=y.2.1)(r:qDJ xs p.toList 0 b):qDJ xs (p.modify (p.size-1) f).toList 0 b:=by
 rw[Array.toList_modify,<- C4];generalize p.toList=l at r;rcases b7 l with e|⟨l',y,e⟩
 ·rw[e] at r ⊢;exact r
 ·rw[e] at r ⊢;rw[b8] at r ⊢;obtain⟨c,m,i⟩:=gruns_app.mp r;rw[B0,C2,A17,qNV];refine gruns_app.mpr ⟨c,m,?_⟩;obtain⟨n,g,j,k⟩:=i;have h:=(d y).1;have a:=(d y).2;refine⟨h.trans n,by rw[a];exact g,by rw[a];exact j,by rw[a];exact k⟩
theorem gwpS_runs {st:SortSt} {Q:Unit->SortSt->Prop} (h0:qCN a₀)(g:gSG κ0 a₀ st)(hp:B93 st=#[])(h:∀st2,gSG κ0 a₀ st2->gSortedTo (arrOf st2) a₀.size->Q () st2):wpS (model prog w) A E s sortRuns' Q st:=by
 rw [sortRuns'_eq];refine B91 (C33 ?_);dsimp only;rw [g.size];refine B91 (C17 (C05
  (I:=λx c st2=>∃lo,c=(none,lo)/\x<=lo/\lo<=a₀.size/\gSG κ0 a₀ st2/\qDJ (arrOf st2) (B93 st2).toList 0 lo)
  (Q:=λc st2=>c.1=none/\gSG κ0 a₀ st2/\qDJ (arrOf st2) (B93 st2).toList 0 a₀.size) ?step ?fin ⟨0,rfl,A9 _,G6 _,g,by rw[hp];rfl⟩) ?post)
 case fin=>
  rintro c st2 ⟨lo,rfl,h1,h2,g2,r2⟩;have e:lo=a₀.size:=by lia
  rw[e] at r2;exact⟨rfl,g2,r2⟩
 case post=>
  rintro ⟨c,lo⟩ st2 ⟨e,g2,r2⟩;cases (show c=none from e);dsimp only;have le:=qJH r2;refine B91 (C17 (C05 (I:=fun x c b=>c=(none,())/\gSG κ0 a₀ b/\qDJ (arrOf b) (B93 b).toList 0 a₀.size/\(B93 b).size+x<=a₀.size)
   (Q:=λc b=>c=(none,())/\gSG κ0 a₀ b/\qDJ (arrOf b) (B93 b).toList 0 a₀.size/\(B93 b).size<=1) ?_ ?_ ⟨rfl,g2,r2,by simpa using le⟩) ?_)
  ·rintro x c b _ _ ⟨rfl,g3,r3,le3⟩;refine B91 (C33 ?_);by_cases y:(B93 b).size<=1
   ·rw[if_pos y];exact B92 ⟨rfl,g3,r3,y⟩
   ·rw[if_neg y];refine B91 (qIA h0 g3 r3 (A9 _) ?_ λm g4 r4 l4 _=>?_)
    ·repeat' split
     all_goals lia
    ·rw[if_neg (by simp)]
     exact B92 ⟨rfl,g4,r4,by lia⟩
  ·rintro c b ⟨e,g3,r3,le3⟩;exact⟨e,g3,r3,by lia⟩
  ·rintro c b ⟨rfl,g3,r3,le3⟩;refine B92 (h b g3 ?_);have l3:(B93 b).toList.length<=1:=by simpa using le3
   generalize (B93 b).toList=l at r3 l3
   match l,r3,l3 with
   |[],r3,_=>
    have e:0=a₀.size:=r3;intro i j _ o
    lia
   |[r],r3,_=>
    have e:0+r.2.1=a₀.size:=r3.2.2.2;intro i j f o;exact r3.2.2.1 i j (G6 _) f (by lia)
   |_::_::_,_,l3=>simp at l3
 case step=>
  rintro x c st2 _ hx ⟨lo,rfl,hxl,hlo,g2,r2⟩;dsimp only;by_cases y:lo>=a₀.size
  ·rw[if_pos y];have e:lo=a₀.size:=by lia
   rw[e] at r2;exact B92 ⟨rfl,g2,r2⟩
  rw[if_neg y];refine B91 (qWU h0 g2 (by lia) (by lia) λk b g3 a1 k1 k2 u3 o3=>?_)
  have r3:qDJ (arrOf b) (B93 b).toList 0 lo:=by
   rw[a1];exact qK7 (λj _ o=>o3 j (.inl o)) r2
  dsimp only;have d:∀(st5:SortSt) (n:Nat),gSG κ0 a₀ st5->1<=n->lo+n<=a₀.size->gSeg (arrOf st5) lo (lo+n)->qDJ (arrOf st5) (B93 st5).toList 0 lo->
    gSG κ0 a₀ (setPending st5 ((B93 st5).push (lo,n,0)))/\qDJ (arrOf st5) ((B93 st5).push (lo,n,0)).toList 0 (lo+n):=by
   intro st5 n g5 h1 h2 u5 r5;refine⟨⟨g5.perm,g5.kind,g5.failed⟩,?_⟩;rw[X9];exact gruns_app.mpr ⟨lo,r5,rfl,h1,u5,rfl⟩
  by_cases c2:k<minRun' a₀.size a₀.size 0
  ·rw[if_pos c2];refine B91 (wpS_lift (C13 ⟨rfl,B91 (qWV h0 g3 (by lia) (by lia) u3 λm g4 a3 u4 o4=>?_)⟩))
   have r4:qDJ (arrOf m) (B93 m).toList 0 lo:=by
    rw[a3];exact qK7 (λj _ o=>o4 j (.inl o)) r3
   rw[if_neg (by simp)]
   refine B91 (C33 ?_);cases eb:(B93 m).back? with
   |none=>
    dsimp only;refine B91 (C10 (B92 ?_));obtain⟨v,p⟩:=d m (min (a₀.size-lo) (minRun' a₀.size a₀.size 0)) g4 (by lia) (by lia) u4 r4
    exact⟨_,rfl,by lia,by lia,v,p⟩
   |some t=>
    obtain ⟨s1,u,q1⟩:=t;dsimp only;refine B91 (C17 (C05 (I:=fun _ c a=>c=(none,())/\gSG κ0 a₀ a/\qDJ (arrOf a) (B93 a).toList 0 lo/\gSeg (arrOf a) lo (lo+(min (a₀.size - lo) (minRun' a₀.size a₀.size 0))))
     (Q:=λc a=>c=(none,())/\gSG κ0 a₀ a/\qDJ (arrOf a) (B93 a).toList 0 lo/\gSeg (arrOf a) lo (lo+(min (a₀.size-lo) (minRun' a₀.size a₀.size 0)))) ?_ (λ_ _ q=>q) ⟨rfl,g4,r4,u4⟩) ?_)
    ·rintro x c a _ _ ⟨rfl,g6,r6,u6⟩;refine B91 (C33 ?_);by_cases c7:(B93 a).size>1
     ·rw[if_pos c7];cases ep:(B93 a)[(B93 a).size-2]? with
      |none=>
       dsimp only;exact B92 ⟨rfl,g6,r6,u6⟩
      |some t=>
       obtain⟨s2,n2,a2⟩:=t;dsimp only
       split
       ·exact B92 ⟨rfl,g6,r6,u6⟩
       ·refine B91 (qIA h0 g6 r6 (by lia) (by lia) λa0 g7 r7 _ z=>?_)
        rw[if_neg (by simp)]
        refine B92 ⟨rfl,g7,r7,λi j hl f o=>?_⟩;rw[z i hl,z j (by lia)]
        exact u6 i j hl f o
     ·rw[if_neg c7];exact B92 ⟨rfl,g6,r6,u6⟩
    ·rintro c a ⟨rfl,g6,r6,u6⟩;dsimp only;refine B91 (C10 (B91 (C10 (B92 ?_))));obtain⟨v,p⟩:=d (setPending a ((B93 a).modify ((B93 a).size-1) λx=>(x.fst,x.2.fst,power' a₀.size (2*s1+u) (2*s1+u+u+(min (a₀.size-lo) (minRun' a₀.size a₀.size 0))) a₀.size))) (min (a₀.size-lo) (minRun' a₀.size a₀.size 0)) ⟨g6.perm,g6.kind,g6.failed⟩ (by lia) (by lia) u6 (qNU (pw:=0) (λ_=>⟨rfl,rfl⟩) r6)
     exact⟨_,rfl,by lia,by lia,v,p⟩
  ·rw[if_neg c2];refine B91 (C33 ?_);cases eb:(B93 b).back? with
   |none=>
    dsimp only;refine B91 (C10 (B92 ?_));obtain⟨v,p⟩:=d b k g3 (by lia) (by lia) u3 r3
    exact⟨_,rfl,by lia,by lia,v,p⟩
   |some t=>
    obtain ⟨s1,u,q1⟩:=t;dsimp only;refine B91 (C17 (C05 (I:=fun _ c a=>c=(none,())/\gSG κ0 a₀ a/\qDJ (arrOf a) (B93 a).toList 0 lo/\gSeg (arrOf a) lo (lo+k))
     (Q:=λc a=>c=(none,())/\gSG κ0 a₀ a/\qDJ (arrOf a) (B93 a).toList 0 lo/\gSeg (arrOf a) lo (lo+k)) ?_ (λ_ _ q=>q) ⟨rfl,g3,r3,u3⟩) ?_)
    ·rintro x c a _ _ ⟨rfl,g6,r6,u6⟩;refine B91 (C33 ?_);by_cases c7:(B93 a).size>1
     ·rw[if_pos c7];cases ep:(B93 a)[(B93 a).size-2]? with
      |none=>
       dsimp only;exact B92 ⟨rfl,g6,r6,u6⟩
      |some t=>
       obtain⟨s2,n2,a2⟩:=t;dsimp only
       split
       ·exact B92 ⟨rfl,g6,r6,u6⟩
       ·refine B91 (qIA h0 g6 r6 (by lia) (by lia) λa0 g7 r7 _ z=>?_)
        rw[if_neg (by simp)]
        refine B92 ⟨rfl,g7,r7,λi j hl f o=>?_⟩;rw[z i hl,z j (by lia)]
        exact u6 i j hl f o
     ·rw[if_neg c7];exact B92 ⟨rfl,g6,r6,u6⟩
    ·rintro c a ⟨rfl,g6,r6,u6⟩;dsimp only;refine B91 (C10 (B91 (C10 (B92 ?_))));obtain⟨v,p⟩:=d (setPending a ((B93 a).modify ((B93 a).size-1) λx=>(x.fst,x.2.fst,power' a₀.size (2*s1+u) (2*s1+u+u+k) a₀.size))) k ⟨g6.perm,g6.kind,g6.failed⟩ (by lia) (by lia) u6 (qNU (pw:=0) (λ_=>⟨rfl,rfl⟩) r6)
     exact⟨_,rfl,by lia,by lia,v,p⟩
end
end L2.G
namespace L2
open PySem PySem.Spec PyProof.Rows
variable{prog:B90}{w:World}{A:Around}{E:Aa1}{s:Shared}
theorem qT0 {a:Addr} {vs:List Value} {ns:List Int} {n:Nat} {P:Fin->Shared->Prop} (l:s.heap.get? a=some (seqObj "list" vs.toArray n)) (e:C06 vs ns) (hz:vs.length<=B89)
  (h:∀(out:Array Value) (zs:List Int),C06 out.toList zs->zs.Perm ns->zs.Pairwise (·<=·)->P (.done (.ret .none)) {s with heap:=sortedHeap s.heap a vs out}):wpAny (model prog w) A (Builtin.«list.sort» ⟨[.ref a],[]⟩) P E s:=by
 have r:=B5 l;have z0:vs.toArray.size<=B89:=by simpa using hz
 rw[list_sort_plain];refine B87 (listItems_at l rfl (B87 (C45 l rfl ?_ z0 (G6 _))));have o:∃k,(s.heap.update a (T9 λ_=>#[])).get? a=some (seqObj "list" #[] k):=⟨_,get?_update_seq l λ_=>#[]⟩;obtain⟨k,o⟩:=o;refine B87 (C56 o rfl (B87 (C53 ?_ (by simpa using hz))))
 refine B87 (wpAny_newList (C00 ?_));have f:(((s.heap.update a (T9 λ_=>#[])).push (seqObj "tuple" vs.toArray 0)).push (seqObj "list" #[] 0)).get? a=some (seqObj "list" #[] k):=by
  rw[o9,o9]
  ·exact o
  ·rw[x8];exact D7 r
  ·rw[size_push',x8];exact D7 (O2 r)
 have d:∀xs:Array Keyed,xs.Perm (C11 vs)->SortedTo xs (C11 vs).size->P (.done (.ret .none)) {s with heap:=sortedHeap s.heap a vs (xs.map (·.2))}:=by
  intro xs p sx;obtain⟨zs,q1,q2,q3⟩:=sorted_out e p sx;exact h _ zs q1 q2 q3
 have q:∀xs:Array Keyed,xs.Perm (C11 vs)->(xs.map (·.2)).size<=B89+1:=by
  intro xs p;rw[A25,p.size_eq,pairsOf_size]
  lia
 show wpAny _ A _ P E {s with heap:=((s.heap.update a (T9 λ_=>#[])).push (seqObj "tuple" vs.toArray 0)).push (seqObj "list" #[] 0)};dsimp only;by_cases b:vs.toArray.size<2
 ·simp only[if_pos b];refine B87 (B88 ?_);rw[B44];refine B87 (B88 (B87 (C56 f rfl (B87 (C45 f rfl ?_ (G6 _) (q (C11 vs) (.refl _)))))));simp only[bne_self_eq_false,O8,if_false];refine B88 (d (C11 vs) (.refl _) λi j a0 z=>?_);rw[pairsOf_size] at z;rw[B6] at b;rw[show i=j by lia]
  exact J9 _
 ·simp only[if_neg b];have kk:keyKind' vs.toArray=pure oneType':=by
   match vs,b,e with
   |[],b,_=>exact absurd (by simp) b
   |[_],b,_=>exact absurd (by simp) b
   |_::_::_,_,e=>exact keyKind_ints e
  rw[kk]
  letI:G.NM:=⟨numOf,λv=>∃n t,v=.int n t⟩
  haveI:G.LtOk prog w A {s with heap:=((s.heap.update a (T9 λ_=>#[])).push (seqObj "tuple" vs.toArray 0)).push (seqObj "list" #[] 0)} oneType':=⟨λ{x y Q E} hx hy h=>by
   obtain⟨n,t,rfl⟩:=hx;obtain⟨m,u,rfl⟩:=hy;rw[keyLt'_oneType];exact oneLt_int h⟩
  refine B87 (B88 (B87 (B96 (G.gwpS_runs (κ0:=oneType') (a₀:=C11 vs) (Q:=λ_ c=>G.gSG oneType' (C11 vs) c/\G.gSortedTo (arrOf c) (C11 vs).size) e.intKeys ⟨.refl _,rfl,rfl⟩ rfl λc g u=>⟨g,u⟩) ?_ λ_ _ x=>x)));rintro⟨_,c⟩ s2 ⟨es,g,u⟩;cases(show s2=_ from es);refine B87 (C56 f rfl (B87 (C45 f rfl ?_ (G6 _) (q _ g.perm))));dsimp only;rw[g.failed];simp only[bne_self_eq_false,O8,if_false];exact B88 (d _ g.perm u)
variable{X:Cx}
theorem qSZ {Ab:Aa2} {σ:St} {H:Hp} {Q:VK} {ns:List Int} {D:Addr} (I:Inv X Ab σ (Ag H D (.lst (ns.map V.int))) s)
  (q:∀zs:List Int,zs.Perm ns->zs.Pairwise (·<=·)->Q (.ref D) (Ag H D (.lst (zs.map V.int)))):
  wpAny (model X.prog X.w) A (call (.builtin "list.sort") [.ref D]) (λ_ s'=>EP X Ab σ Q (.ref D) s') E s:=by
 obtain⟨z,g,n,i,r,e⟩:=I.lstM qA1;have j:=qDV i;have d:=i.length;refine C04 slot_list_sort ⟨_,e,rfl⟩ entry_list_sort (qT0 (ns:=ns) (n:=n) e j (by rw[<- d];exact z) λout zs m h l=>⟨_,rfl,?_⟩) (args_list_sort _)
 obtain⟨k,c⟩:=sortedHeap_at (vs:=g) (out:=out) e;refine⟨.ref D,Ag H D (.lst (zs.map V.int)),?_,rfl,q zs h l⟩;have p:Ag (Ag H D (.lst (ns.map V.int))) D (.lst (zs.map V.int))=Ag H D (.lst (zs.map V.int)):=qI2;rw[<- p];refine I.write (x:=D) (e:=D) (t':=s.toks) (by rw[qA1];exact trivial) (.inl rfl) (λb u o a=>?_) ⟨_,c⟩ ?_
 ·rw[sortedHeap_old o (B5 a)];exact a
 ·refine⟨?_,out.toList,k,qFI m,by simpa using c⟩
  rw[A0,h.length_eq,<- A0 (f:=V.int)];exact z
theorem qUD:∀{vs:List Value} {ns:List Int},vs.length=ns.length->(∀(i:Nat) (v:Value),vs[i]?=some v->∃n t,ns[i]?=some n/\v=.int n t)->C06 vs ns
 |[],[],_,_=>.nil
 |[],_::_,h,_=>by simp at h
 |_::_,[],h,_=>by simp at h
 |v::vs,n::ns,h,f=>by
  obtain⟨m,t,e1,e2⟩:=f 0 v rfl;cases(show n=m from G0 e1);rw[e2];exact .cons _ _ (qUD (by simpa using h) λi u hu=>by simpa using f (i+1) u (by simpa using hu))
theorem qZS {κ:Type} :∀{Af:List (κ×V)} {vs:List (κ×Value)},KV Af vs->Af.map (·.1)=vs.map (·.1):=by
 intro Af vs r;unfold KV at r
 induction r with
 |nil=>rfl
 |cons h t ih=>rw[D4,D4,ih,h.1]
theorem qTM (b:X.A.units<cLine):OpR X (C03 .NotEq) (λx y H Q=>∃p l xs,x=.ref p/\y=.ref l/\SqL X.K H p xs/\SqL X.K H l []/\Q (.bl (!xs.isEmpty)) H):=by
 intro z s σ H x y v u Q I o n h;obtain⟨p,l,xs,rfl,rfl,k,g,q⟩:=h;cases o;cases n;obtain⟨m,t,d,z1⟩:=I.list k;obtain⟨c,i,f,w⟩:=I.list g;cases i;cases t with
 |nil=>exact A35 (e:=λ_=>true) d.isList f.isList rfl b (λj h _=>absurd h (by simp)) _ _ _ _ ⟨.bl false,H,I,rfl,q⟩
 |cons a r=>exact l8 d.isList f.isList (by simp) b _ _ _ _ ⟨.bl true,H,I,rfl,q⟩
open PySem.AutoSeq1 in
theorem qRW (l:Addr)(c:Array Value)(n:Nat)(b:Addr)(a:Array Value)(m:Nat)(p:Option Addr)(q:Array (Option Value))(o:¬(!c.isEmpty&&Q8 (c.size+a.size))=true)(f:c.size<=B89)(i:c.size+a.size<=B89+1):
  Meets (Builtin.«list.extend» ⟨[.ref l,.ref b],[]⟩) (λ_ R s=>s.heap.get? l=some {cls:=.type "list",data:=.seq c n}/\s.heap.get? b=some ⟨.type "tuple",p,.seq a m,q⟩/\R (.ok (.ret Q3)) {s with heap:=s.heap.update l (T9 λx=>x++a),toks:=s.toks}):=
 .of_wp λk w A R s h=>by
  obtain⟨hp,g,d,y,os⟩:=s;obtain⟨j,r,h⟩:=h;have t:=idx_int;have v:=A30;have u:=AutoSeq1.sub_list_list;have f4:=AutoSeq1.sub_tuple_list;have z:=AutoSeq1.sub_list_tuple;have e:(c++a).size<=B89+1:=by rw[Array.size_append];exact i
  wp_walk using(C29 j rfl (hz:=f) (_hz':=e)),C64 j,C64 r
  exact⟨_,rfl,h⟩
def qW8 (K:Ab1):V->List V->Hp->VK->Prop:=λx vs H Q=>E4 λl b xs zs=>x=.ref l/\vs=[.ref b]/\H l=some (.lst xs)/\SqT K H b zs/\xs.length+zs.length<=B89/\Q .non (Ag H l (.lst (xs++zs)))
theorem qRN:MtM X "list.extend" (qW8 X.K):=by
 intro Ab s σ H x vs v us Q I rx w h;obtain⟨l,b,xs,zs,rfl,rfl,m,y,hz,q⟩:=h;cases rx;obtain⟨u,rfl,ru⟩:=w.one;cases ru;obtain⟨z,c,n,r,hl,e⟩:=I.lstM m;obtain⟨a,i,p2,z2⟩:=I.tuple y;have t:=i.length;obtain⟨⟨a0,dd,g,sl⟩,p,k,o,j⟩:=id p2;simp only at k j;subst k j;have f:c.toArray.size+a.toArray.size<=B89:=by rw[B6,B6];lia
 have d:¬(!c.toArray.isEmpty&&Q8 (c.toArray.size+a.toArray.size))=true:=by
  rw[qM6 f,t5];exact B8
 refine C35 B09 ⟨_,e,rfl⟩ A96 (A82 _ _)
  (qRW l c.toArray n b a.toArray o dd sl d (by rw[B6];lia) (by lia)) ⟨e,p,?_⟩
 refine⟨.non,_,I.lset (its':=c++a) m e (by simp) (r.append i) ?_,rfl,q⟩
 rw[B0]
 lia
def topI (b:Int)(l:List Int):Int:=l.foldl (λb x=>if x>b then x else b) b
theorem qSM:∀(l:List Int) (b:Int),b<=topI b l/\(∀x∈l,x<=topI b l)/\(topI b l=b\/topI b l∈l)
 |[],b=>⟨J9 _,(λ_ z=>nomatch z),.inl rfl⟩
 |y::l,b=>by
  obtain⟨h1,h2,h3⟩:=qSM l (if y>b then y else b)
  have e:topI b (y::l)=topI (if y>b then y else b) l:=rfl
  rw[e];have hb:b<=(if y>b then y else b)/\y<=(if y>b then y else b):=by split<;>omega
  refine⟨by omega,λx hx=>?_,?_⟩
  ·rcases B9.mp hx with hx|hx
   ·omega
   ·exact h2 x hx
  ·rcases h3 with h3|h3
   ·split at h3
    ·rw[if_pos (by assumption)]
     exact .inr (by rw[h3];exact A8)
    ·rw[if_neg (by assumption)]
     exact .inl h3
   ·exact .inr (A7 _ h3)
section
variable{prog:B90}{w:World}{A:Around}{R:Result->Shared->Prop}{I:Addr}{fp wr:List Addr}{n:Nat}{P:Nat->Value->Prop}{St:Nat->Heap->Prop}
theorem qZK (W:Walks prog w A.in1 I fp wr n P St)(kw:List (Str×Value))(ns:List Int)(hn:ns.length=n)(a2:∀i v,P i v->∃t,v=.int (ns.getD i 0) t)(S:Addr)(a3:S∉fp):
  ∀(k j:Nat) (s:Shared) (b:Int) (t:Tok) (c:Nat),n-j=k->j<=n->St j s.heap->s.heap.get? S=some {cls:=.type "list",dict:=none,data:=.seq #[.int b t,.int b t] c,slots:=#[]}->
  (∀t' h' tk,(∀x o,x∉wr->x≠S->s.heap.get? x=some o->h'.get? x=some o)->R (.ok (.ret (.int (topI b (ns.drop j)) t'))) {s with heap:=h',toks:=tk})->
  C18 (model prog w) A (.builtin "max.loop" ⟨[.ref I,.none,.ref S],kw⟩) R s:=by
 have a1:S∉wr:=λh=>a3 (W.sub _ h);have f:(toString "max" ++ toString ".loop" : String) = "max.loop":=by decide
 intro k
 induction k with
 |zero=>
  intro j s b t c hk hj st hS l;have e:j=n:=by omega
  refine C09 A52 ?_;rw[L7 V3 _];show wpAny _ A.in1 (seqItems? (.ref S) >>= _) _ _ s;refine B87 (C07 hS rfl ?_);show wpAny _ A.in1 (tryCatch (pyNext (.ref I)) _ >>= _) _ _ s;refine B87 (C14 (W.done s _ _ (e▸st) λh' tk a=>?_));show wpAny _ A.in1 (updateSeq S (λ_=>#[]) >>= _) _ _ _;refine B87 (C29 (a S _ a1 hS) rfl (B87 (C20 (B88 ?_))));rw[A63 (by omega)] at l
  exact l t _ tk λx o g d p=>(D5 _ _ (K9 d)).trans (a x o g p)
 |succ k ih=>
  intro j s b t c hk hj st hS l;have r:j<n:=by omega
  refine C09 A52 ?_;rw[L7 V3 _];show wpAny _ A.in1 (seqItems? (.ref S) >>= _) _ _ s;refine B87 (C07 hS rfl ?_);show wpAny _ A.in1 (tryCatch (pyNext (.ref I)) _ >>= _) _ _ s;refine B87 (C14 (W.item j s _ _ r st λv h' tk hP a4 a=>?_));have m:=a S _ a1 hS;obtain⟨u,rfl⟩:=a2 j v hP;have ed:ns.drop j=ns.getD j 0::ns.drop (j+1):=by
   have a5:j<ns.length:=by omega
   rw[i5 a5,M9,A5 a5]
   rfl
  rw[ed] at l;generalize ns.getD j 0=y at l hP ⊢;show wpAny _ A.in1 (tryCatch (C49 [R4 y u,R4 y u] (richCompare .Gt (.int y u) (.int b t) >>= _)) _ >>= _) _ _ _;refine B87 (C14 (C00 (B87 (richCompare_gives (op:=.Gt) (C52 _ _ u) (C52 _ _ t) F.slot_int_gt F.entry_int_gt (F.args_int_gt_2 _ _) (gives_int_gt _ _ u t) (λx=>nomatch x) (B87 (C00 (C08 (B87 (C20 (B88 ?_))))))))));by_cases hb:y>b
  ·rw[decide_eq_true hb,if_pos rfl];have et:topI b (y::ns.drop (j+1))=topI y (ns.drop (j+1)):=by show topI (if y>b then y else b) _=_;rw[if_pos hb]
   rw[et] at l;refine B87 (C29 m rfl (B87 (C20 ?_)));rw[f];refine B88 ⟨C12 V3 _,ih (j+1) _ y u _ (by omega) r (W.frame _ _ _ a4 λx g o p=>?_) (L0 _ m rfl) λt' h2 q a0=>?_⟩
   ·exact(D5 _ _ (λz:S=x=>a3 (by rw[z];exact g))).trans p
   ·exact l t' h2 q λx o g d p=>a0 x o g d ((D5 _ _ (K9 d)).trans (a x o g p))
  ·rw[decide_eq_false hb,if_neg B8];have et:topI b (y::ns.drop (j+1))=topI b (ns.drop (j+1)):=by show topI (if y>b then y else b) _=_;rw[if_neg hb]
   rw[et] at l;refine B87 (C20 ?_);rw[f];exact B88 ⟨C12 V3 _,ih (j+1) _ b t c (by omega) r a4 m λt' h2 q a0=>l t' h2 q λx o g d p=>a0 x o g d (a x o g p)⟩
theorem qTZ (W:Walks prog w A.in1 I fp wr n P St)(kw:List (Str×Value))(ns:List Int)(l:ns.length=n)(b:∀i v,P i v->∃t,v=.int (ns.getD i 0) t)(S:Addr)(e:S∉fp){s:Shared}{c:Nat}(st:St 0 s.heap)
  (hS:s.heap.get? S=some {cls:=.type "list",dict:=none,data:=.seq #[] c,slots:=#[]})
  (h1:∀y r,ns=y::r->∀t' h' tk,(∀x o,x∉wr->x≠S->s.heap.get? x=some o->h'.get? x=some o)->R (.ok (.ret (.int (topI y r) t'))) {s with heap:=h',toks:=tk})
  (q:ns=[]->∃nm dv,kw=[(nm,dv)]/\∀h' tk,(∀x o,x∉wr->x≠S->s.heap.get? x=some o->h'.get? x=some o)->R (.ok (.ret dv)) {s with heap:=h',toks:=tk}):
  C18 (model prog w) A (.builtin "max.loop" ⟨[.ref I,.none,.ref S],kw⟩) R s:=by
 have m:S∉wr:=λh=>e (W.sub _ h);have d:(toString "max" ++ toString ".loop" : String) = "max.loop":=by decide
 refine C09 A52 ?_;rw[L7 V3 _];show wpAny _ A.in1 (seqItems? (.ref S) >>= _) _ _ s;refine B87 (C07 hS rfl ?_);show wpAny _ A.in1 (tryCatch (pyNext (.ref I)) _ >>= _) _ _ s;cases ns with
 |nil=>
  obtain⟨nm,dv,rfl,h3⟩:=q rfl;refine B87 (C14 (W.done s _ _ (l▸st) λh' tk a=>?_));show wpAny _ A.in1 (rule _ >>= λ_=>ret dv) _ _ _;exact B87 (C13 (B88 (h3 _ tk λx o f _ j=>a x o f j)))
 |cons y r=>
  refine B87 (C14 (W.item 0 s _ _ (by rw[<- l];simp) st λv h' tk hP a0 a=>?_))
  have g:=a S _ m hS;obtain⟨u,rfl⟩:=b 0 v hP;show wpAny _ A.in1 (updateSeq S (λ_=>#[R4 y u,R4 y u]) >>= _) _ _ _;refine B87 (C29 g rfl ?_);rw[d];refine B88 ⟨C12 V3 _,qZK W kw (y::r) l b S e _ 1 _ y u _ rfl (by rw[<- l];simp) (W.frame _ _ _ a0 λx f o j=>?_) (L0 _ g rfl) λt' q p a1=>?_⟩
  ·exact(D5 _ _ (λz:S=x=>e (by rw[z];exact f))).trans j
  ·exact h1 y r rfl t' q p λx o f k j=>a1 x o f k ((D5 _ _ (K9 k)).trans (a x o f j))
end
theorem qIR {id:String} {b:Builtin} {a:List Value} {d:List (Str×Value)} {Q:Aa1} (m:builtinKind id=none)(h:plainId id=true)(l:entryFor table id=some b)(i:argsOk id ⟨a,d⟩)
  (j:wpAny (model prog w) A.in1 (b ⟨a,d⟩) (λfin s'=>∃c',fin=.again c'/\c'.quiet=true/\C18 (model prog w) A c' (λr s'=>∃v,r=.ok (.ret v)/\Q v s') s') E s):wpAny (model prog w) A (call (.builtin id) a d) Q E s:=by
 refine C63 (C68 h l ?_);have c:=B96 j (Q':=fun fin s'=>match fin with
   |.done f=>(match(Except.ok f:Result) with|.ok (.ret v)=>Q v s'|.ok _=>False|.error e=>E e s')
   |.again c'=>c'.quiet=true/\C18 (model prog w) A c' (λr s'=>match r with|.ok (.ret v)=>Q v s'|.ok _=>False|.error e=>E e s') s')
  (λfin s' ⟨c',e,h1,c⟩=>by subst e;exact⟨h1,C32 c λr s' ⟨v,e,q⟩=>by subst e;exact q⟩) λ_ _ k=>k
 simp only[checkBuiltinCall,m];cases sg:Manifest.signature? id with
 |none=>exact B88 c
 |some sig=>
  have g:Bind.checkArgs id sig ⟨a,d⟩=pure ():=by simpa only[argsOk,sg] using i
  simp only[g];exact B88 c
def topD (dv:Option Int):List Int->Option Int
 |[]=>dv
 |y::r=>some (topI y r)
theorem qZL {Ab:Aa2} {σ:St} {H:Hp} {Q:VK} {p:Addr} {ns:List Int} {j:List (Str×Value)} {l:Option Int} (hc:X.calm=true)(I:Inv X Ab σ H s)(hq:SqL X.K H p (ns.map V.int))
  (ok:argsOk "max" ⟨[.ref p],j⟩) (u:Option Value) (hb:U6 "max" ["key","default"] 0 ⟨[],j⟩=pure [none,u]) (a0:u=none/\l=none\/∃d t,u=some (.int d t)/\l=some d)
  (m:Int) (k:topD l ns=some m) (q:Q (.int m) H):wpAny (model X.prog X.w) X.A (call (.builtin "max") [.ref p] j) (EP X Ab σ Q) X.xe s:=by
 obtain⟨x,rv,pl,hz⟩:=I.list hq;have z:=pl.isList;have h:p<s.heap.objs.size:=by obtain⟨_,e,_⟩:=z;exact B5 e
 have a:=rv.length;rw[A0] at a;have ia:=qDV rv;have f:(toString "max" ++ toString ".loop" : String) = "max.loop":=by decide
 refine qIR F.kind_max F.plain_max F.entry_max ok ?_;show wpAny _ _ (U6 "max" ["key","default"] 0 ⟨[],j⟩ >>= _) _ _ s;refine B87 (C37 hb (B87 (B88 (B87 (C23 z (B87 (B98 ?_)))))));rw[f];have w0:X.A.in1.handled=none:=I.ok.hd hc;refine B88 ⟨_,rfl,C12 V3 _,qTZ (A79 w0 _ p (D7 h) x.toArray) _ ns (by simpa using a) (λi v hv=>?_) _ ?_ (c:=0) ?_ (B7 _ rfl) ?_ ?_⟩
 ·exact b9 ia i v (by simpa using hv)
 ·simp only[M7,B9,T4,or_false,not_or];exact⟨x6 _,V8 (O2 h)⟩
 ·exact⟨⟨_,A4 _ (B7 _ rfl),rfl,rfl⟩,(z.push _).push _⟩
 ·intro y r e t' h' n hk;subst e;cases k;refine⟨_,rfl,.int _,H,I.kept (t':=n) λb o g=>hk b o ?_ ?_ (A4 _ (A4 _ g)),⟨t',rfl⟩,q⟩
  ·simp only[B9,T4,or_false];exact D7 (B5 g)
  ·rw[M7];exact D7 (O2 (B5 g))
 ·intro e;subst e;rcases a0 with⟨_,e2⟩|⟨d,t,rfl,rfl⟩
  ·rw[e2] at k;cases k
  ·cases k;refine⟨_,_,rfl,λh' n hk=>⟨_,rfl,.int _,H,I.kept (t':=n) λb o g=>hk b o ?_ ?_ (A4 _ (A4 _ g)),⟨t,rfl⟩,q⟩⟩
   ·simp only[B9,T4,or_false];exact D7 (B5 g)
   ·rw[M7];exact D7 (O2 (B5 g))
theorem qVG (d:X.calm=true):qCQ X (.builtin "max") (λxs H Q=>∃p ns m,xs=[.ref p]/\SqL X.K H p (ns.map V.int)/\topD none ns=some m/\Q (.int m) H):=by
 intro f s σ H xs e Q I r h;obtain⟨p,ns,m,rfl,a,c,q⟩:=h;obtain⟨u,rfl,b⟩:=qEC r;cases b;exact qZL d I a (F.args_max1 _) none rfl (.inl ⟨rfl,rfl⟩) m c q
theorem qS5 (hc:X.calm=true):qCQ X (.type "list") (λxs H Q=>∃(d:Addr) (Af:List (Key×V)) (ns:List Int),xs=[.ref d]/\H d=some (.dK Af)/\Af.map (·.1)=ns.map E9/\∀l,H l=none->Q (.ref l) (Ag H l (.lst (ns.map V.int)))):=by
 intro Ab s σ H xs us Q I r h;obtain⟨d,Af,ns,rfl,hq,y,q⟩:=h;obtain⟨u,rfl,rx⟩:=qEC r;cases rx;obtain⟨w,hd,vs,e,dd⟩:=qUX I.hok hq;obtain⟨ep,da⟩:=dd.dictAt;have m:vs.length=Af.length:=e.length.symm;have p:ns.length=Af.length:=by
  have:=congrArg Y7 y;simpa using this.symm
 refine B31 (PySem.W.kdl_dict (ep:=ep) hd) (I.ok.hd hc) da (by rw[m];exact w) λh' tk g c' f j b=>?_
 obtain⟨z,l2⟩:=b;have ia:C06 g.toList ns:=by
  refine qUD (by rw[C4,z,m,p]) λi v hv=>?_
  obtain⟨k,x,e1,e2⟩:=l2 i v (by rw[<- G8];exact hv)
  have c:(Af.map (·.1))[i]?=some k:=by rw[qZS e,C0,e1];rfl
  rw[y,C0] at c;cases en:ns[i]? with
  |none=>rw[en] at c;cases c
  |some n=>
   rw[en] at c;cases c;obtain⟨t,e3⟩:=B13 (k:=n) (v:=v) e2;exact⟨n,t,rfl,e3⟩
 refine⟨.ref s.heap.objs.size,_,I.laid (a:=s.heap.objs.size) (o:=.lst (ns.map V.int)) (t':=tk) f (A9 _) ⟨by rw[A0,p];exact w,g.toList,c',qFI ia,by simpa using j⟩,rfl,q _ (I.hok.fresh (A9 _))⟩
theorem qI9 (b:X.A.units<cLine):OpR X (C03 .Eq) (λx y H Q=>∃p l xs,x=.ref p/\y=.ref l/\SqT X.K H p xs/\SqT X.K H l []/\Q (.bl xs.isEmpty) H):=by
 intro z s σ H x y v u Q I o n h;obtain⟨p,l,xs,rfl,rfl,k,g,q⟩:=h;cases o;cases n;obtain⟨m,t,d,z1⟩:=I.tuple k;obtain⟨c,i,f,w⟩:=I.tuple g;cases i;cases t with
 |nil=>exact A64 (e:=λ_=>true) d f b (λj h _=>absurd h (by simp)) ⟨.bl true,H,I,rfl,q⟩
 |cons a r=>exact A64 (e:=λ_=>true) d f b (λj _ h=>absurd h (by simp)) ⟨.bl false,H,I,rfl,q⟩
theorem qZV {zs:List Int} {a vs:List Value} (c:Vals (zs.map V.int) a)(e:Vals (zs.map V.int) vs):∀j (j1:j<a.toArray.size) (j2:j<vs.toArray.size),SeqAt.EqAt A s a.toArray[j] vs.toArray[j] true:=by
 intro j j1 j2;have f:=c.length;rw[A0] at f;have g:j<zs.length:=by simp at j1;lia
 have b:(zs.map V.int)[j]?=some (.int zs[j]):=by rw[C0,A5 g];rfl
 obtain⟨u,m,t,n⟩:=c.get b;obtain⟨v,i,k,l⟩:=e.get b;have o:a.toArray[j]=u:=by
  rw[T5];exact(A3.mp m).2
 have d:vs.toArray[j]=v:=by
  rw[T5];exact(A3.mp i).2
 rw[o,d,n,l];have h:=j7 (A:=A) (s:=s) zs[j] t zs[j] k;rw[beq_self_eq_true] at h;exact h
open PySem
def g5:Nat->Nat
 |0=>0
 |n+1=>5*g5 n+1
theorem qQA:∀n:Nat,5^n=4*g5 n+1
 |0=>rfl
 |n+1=>by
  rw[T6,qQA n,g5]
  lia
theorem qUN (m:Nat):∀n:Nat,g5 (m+n)=5^n*g5 m+g5 n
 |0=>by simp[g5]
 |n+1=>by
  rw[<- z8,g5,qUN m n,g5,T6,p6,<- Y9,Y2 5 (5^n)]
  lia
theorem qY1 (n:Nat):g5 (n+n)=2*(g5 n*(2*g5 n+1)):=by
 rw[qUN,qQA,B45,p6 (g5 n),p6 2];have a:4*g5 n*g5 n=2*(g5 n*(2*g5 n)):=by
  rw[A36 (g5 n) 2,<- Y9 2 2,Y9 4]
 rw[a]
 lia
theorem qOZ (k m:Nat)(h:m%2=1):Nat.Coprime (2^k) m:=by
 refine Nat.Coprime.pow_left k ?_;have:Nat.gcd 2 m=1:=by
  rw[Nat.gcd_rec,h]
  rfl
 exact this
theorem qY0:∀(k n:Nat),2^k ∣ g5 n->2^k ∣ n
 |0,n,_=>by simp
 |k+1,n,h=>by
  rcases Nat.mod_two_eq_zero_or_one n with e|e
  ·obtain⟨m,rfl⟩:∃m,n=m+m:=⟨n/2,by lia⟩
   rw[qY1,T6,Y2 (2^k)] at h;have h2:2^k ∣ g5 m*(2*g5 m+1):=Nat.dvd_of_mul_dvd_mul_left (by decide) h
   have h3:2^k ∣ g5 m:=(qOZ k (2*g5 m+1) (by lia)).dvd_of_dvd_mul_right h2
   obtain⟨c,hc⟩:=qY0 k m h3;exact⟨c,by rw[T6,Y2 (2^k) 2,Y9,<- hc];lia⟩
  ·obtain⟨m,rfl⟩:∃m,n=m+m+1:=⟨n/2,by lia⟩
   exfalso
   rw[g5,qY1] at h;have h2:2 ∣ 5*(2*(g5 m*(2*g5 m+1)))+1:=Nat.dvd_trans ⟨2^k,by rw[T6,Y2]⟩ h
   lia
def it5 (i n:Nat):Nat:=5^n*i+g5 n
theorem qQN (i n:Nat):it5 i (n+1)=5*it5 i n+1:=by
 unfold it5;rw[T6,g5,p6,<- Y9,Y2 5 (5^n)]
 lia
theorem qZU {k i n d:Nat} (g:0<d)(a:d<2^k)(h:it5 i n%2^k=it5 i (n+d)%2^k):False:=by
 have e:it5 i (n+d)=it5 i n+5^n*(g5 d*(4*i+1)):=by
  unfold it5;rw[Z9 n d,qUN d n,Nat.pow_add,qQA d,p6 (g5 d),Nat.mul_one,p6 (5^n)];have:(4*g5 d+1)*5^n*i=5^n*i+5^n*(g5 d*(4*i)):=by
   rw[B45,B46,B45,Z9];congr 1;rw[Y2 4,Y9,Y9,A36 (5^n),A36 4 (5^n)]
  rw[this]
  lia
 have b:2^k ∣ 5^n*(g5 d*(4*i+1)):=by
  rw[e] at h;have:=(Nat.dvd_iff_mod_eq_zero ..).mpr (Nat.sub_mod_eq_zero_of_mod_eq h.symm)
  rwa[Nat.add_sub_cancel_left] at this
 have f:2^k ∣ g5 d*(4*i+1):=(qOZ k (5^n) (by rw[qQA];lia)).dvd_of_dvd_mul_left b
 have c:2^k ∣ g5 d:=(qOZ k (4*i+1) (by lia)).dvd_of_dvd_mul_right f
 have j:=Nat.le_of_dvd g (qY0 k d c)
 lia
theorem qUA {k i j:Nat} (g:j<2^k):∃n,n<2^k/\it5 i n%2^k=j:=by
 apply L9;intro h;have m:((G9 (2^k)).map λn=>it5 i n%2^k).Nodup:=by
  rw[A12,P9];refine Z5.imp_of_mem λ{a b} s q p e=>?_;have o:=G3.mp q;refine qZU (k:=k) (i:=i) (n:=a) (d:=b-a) (by lia) (by lia) ?_
  rw[show a+(b-a)=b by lia]
  exact e
 have c:((G9 (2^k)).map λn=>it5 i n%2^k) ⊆ (G9 (2^k)).filter λx=>decide (x≠j):=λx r=>by
  obtain⟨n,l,e⟩:=C3.mp r;refine K0.mpr ⟨G3.mpr (by rw[<- e];exact o6 _ (B47 k)),decide_eq_true λz=>h ⟨n,G3.mp l,e.trans z⟩⟩
 have f:=D9 m c;have t:((G9 (2^k)).filter λx=>decide (x≠j)).length<(G9 (2^k)).length:=by
  refine List.length_filter_lt_length_iff_exists.mpr ⟨j,G3.mpr g,by simp⟩
 rw[A0] at f
 lia
structure TabG (byText:Bool×Bool)(t:C16)(n:Nat):Prop where
 pow:∃k,3<=k/\t.mask+1=2^k
 dum:t.dummies=#[]
 plain:t.plain=byText.2
 led:t.led=!byText.1
 size:t.place.size=n
 up:t.place.toList.Pairwise (·<·)
 le:∀j∈t.place.toList,j<=t.mask
def qJX (mask i pt:Nat):SetTable.Probe:={j:=i,more:=Q6 mask i-i,i:=i,perturb:=pt,dummy:=none}
theorem qNB {mask i:Nat} (h:i<=mask):Q6 mask i<=mask/\i<=Q6 mask i/\Q6 mask i<=i+9:=by
 unfold Q6
 split<;>lia
section
variable{byText:Bool×Bool}{t:C16}{n:Nat}
theorem TabG.slot (T:TabG byText t n)(j:Nat):(t.slot j=.empty/\j∉t.place.toList)\/(∃i,t.slot j=.live i/\j∈t.place.toList):=by
 have k:B79 t.dummies j=false:=by rw[T.dum];rfl
 obtain⟨o,h,f⟩:=qIG (j:=j) T.up;unfold SetTable.slot;dsimp only;by_cases b:t.place[G1 t.place j]?=some j
 ·rw[if_pos (by rw[b];simp)]
  exact .inr ⟨_,rfl,by rw[<- Array.mem_def];exact Array.mem_of_getElem? b⟩
 ·rw[if_neg (by simpa using b),k,if_neg (by simp)]
  refine .inl ⟨rfl,λm=>b ?_⟩;obtain⟨i,l,c⟩:=e7.mp m;have a:i<t.place.size:=by simpa using l
  have e:t.place.getD i j=j:=by
   rw[G4,D0 a];simpa using c
  have g:¬i<G1 t.place j:=λz=>by have:=h i z;lia
  have d:G1 t.place j=i:=by
   apply Nat.le_antisymm (w6 g);apply w6;intro z;have:=f (G1 t.place j) (A9 _) (by lia)
   have:=qYJ j T.up _ _ z a
   lia
  rw[d,D0 a];simpa using c
theorem TabG.run (T:TabG byText t n)(h:Int)(i a:Nat):∀(more j f:Nat),(∃j',M4 t (λ_=>h+1) h (more+1+f) {j:=j,more:=more,i:=i,perturb:=a,dummy:=none}=some (.empty j' none)/\j'∉t.place.toList/\j'<=j+more)\/
  (M4 t (λ_=>h+1) h (more+1+f) {j:=j,more:=more,i:=i,perturb:=a,dummy:=none}=M4 t (λ_=>h+1) h f (qJX t.mask ((i*5+1+a/32)%(t.mask+1)) (a/32))/\j∈t.place.toList):=by
 intro more
 induction more with
 |zero=>
  intro j f;rw[A72,Z9 1 f];rcases T.slot j with⟨e,m⟩|⟨k,e,m⟩
  ·left
   refine⟨j,?_,m,A9 _⟩;unfold M4;dsimp only;rw[e]
  ·right
   refine⟨?_,m⟩;rw[M4];dsimp only;rw[e];dsimp only;rw[if_neg (by simp;lia)]
   rfl
 |succ more ih=>
  intro j f;rw[show more+1+1+f=more+1+f+1 by lia]
  rcases T.slot j with⟨e,m⟩|⟨k,e,m⟩
  ·left
   refine⟨j,?_,m,B32 _ _⟩;unfold M4;dsimp only;rw[e]
  ·have d:M4 t (λ_=>h+1) h (more+1+f+1) {j:=j,more:=more+1,i:=i,perturb:=a,dummy:=none}=M4 t (λ_=>h+1) h (more+1+f) {j:=j+1,more:=more,i:=i,perturb:=a,dummy:=none}:=by
    rw[M4];dsimp only;rw[e];dsimp only;rw[if_neg (by simp;lia)]
    unfold SetTable.advance;dsimp only;rw[if_pos (by lia)]
    rfl
   rw[d];rcases ih (j+1) f with⟨j',b,c,g⟩|⟨b,_⟩
   ·exact .inl ⟨j',b,c,by lia⟩
   ·exact .inr ⟨b,m⟩
theorem TabG.leap (T:TabG byText t n)(h:Int)(i a F:Nat)(hi:i<=t.mask)(d:10<=F):(∃j',M4 t (λ_=>h+1) h F (qJX t.mask i a)=some (.empty j' none)/\j'∉t.place.toList/\j'<=t.mask)\/
  (∃F',F<=F'+10/\M4 t (λ_=>h+1) h F (qJX t.mask i a)=M4 t (λ_=>h+1) h F' (qJX t.mask ((i*5+1+a/32)%(t.mask+1)) (a/32))/\i∈t.place.toList):=by
 obtain⟨k,g,f⟩:=qNB hi;have e:F=(Q6 t.mask i-i)+1+(F-1-(Q6 t.mask i-i)):=by lia
 rcases T.run h i a (Q6 t.mask i-i) i (F-1-(Q6 t.mask i-i)) with⟨j',c,b,j⟩|⟨c,b⟩
 ·refine .inl ⟨j',?_,b,by lia⟩
  rw[e];exact c
 ·refine .inr ⟨F-1-(Q6 t.mask i-i),by lia,?_,b⟩
  conv=>lhs;rw[e]
  exact c
theorem TabG.go0 (T:TabG byText t n)(h:Int):∀(m q i F:Nat),i<=t.mask->10*m<=F->(∃j',M4 t (λ_=>h+1) h F (qJX t.mask (it5 i q%(t.mask+1)) 0)=some (.empty j' none)/\j'∉t.place.toList/\j'<=t.mask)\/(∀c,c<m->it5 i (q+c)%(t.mask+1)∈t.place.toList)
 |0,q,i,F,hi,hF=>.inr λc hc=>absurd hc (by lia)
 |m+1,q,i,F,hi,hF=>by
  have lt:it5 i q%(t.mask+1)<t.mask+1:=o6 _ (by lia)
  rcases T.leap h (it5 i q%(t.mask+1)) 0 F (by lia) (by lia) with ok|⟨F',hF',e,z⟩
  ·exact .inl ok
  ·have e2:((it5 i q%(t.mask+1))*5+1+0/32)%(t.mask+1)=it5 i (q+1)%(t.mask+1):=by
    rw[qQN,A73,u8,Y2,A98,A99,Nat.mod_mod,<- A99,<- A98]
   rw[e2,A73] at e;rw[e];rcases T.go0 h m (q+1) i F' hi (by lia) with ok|all
   ·exact .inl ok
   ·refine .inr λc hc=>?_;cases c with
    |zero=>exact z
    |succ c=>
     have:=all c (by lia)
     rw[show q+(c+1)=q+1+c by lia]
     exact this
theorem TabG.goK (T:TabG byText t n)(hn:n<=t.mask)(h:Int):∀(k i pt F:Nat),i<=t.mask->pt<32^k->10*(k+(t.mask+1))<=F->∃j',M4 t (λ_=>h+1) h F (qJX t.mask i pt)=some (.empty j' none)/\j'∉t.place.toList/\j'<=t.mask
 |0,i,pt,F,hi,hp,hF=>by
  have e:pt=0:=by lia
  subst e;have e0:it5 i 0%(t.mask+1)=i:=by
   unfold it5 g5;rw[Nat.pow_zero,B46,u8,B33 (by lia)]
  have q:=T.go0 h (t.mask+1) 0 i F hi (by lia)
  rw[e0] at q;rcases q with ok|all
  ·exact ok
  ·exfalso
   obtain⟨k,_,hk⟩:=T.pow;have sub:G9 (t.mask+1) ⊆ t.place.toList:=λj hj=>by
    have hj':=G3.mp hj;rw[hk] at hj';obtain⟨m,hm,e⟩:=qUA (i:=i) hj';rw[<- hk] at hm e;have:=all m hm;rw[A72,e] at this;exact this
   have:=D9 A53 sub;have hs:=T.size;simp at this
   lia
 |k+1,i,pt,F,hi,hp,hF=>by
  rcases T.leap h i pt F hi (by lia) with ok|⟨F',hF',e,z⟩
  ·exact ok
  ·rw[e];have lt:(i*5+1+pt/32)%(t.mask+1)<t.mask+1:=o6 _ (by lia)
   refine T.goK hn h k _ _ F' (by lia) ?_ (by lia)
   rw[T6] at hp
   lia
theorem qVL (h:Int):O5 h<32^13:=by
 unfold O5;have a:0<=h%(2^64:Int):=Y0 _ (by decide)
 have b:h%(2^64:Int)<2^64:=W4 _ (by decide)
 have:((2:Int)^64)=18446744073709551616:=by decide
 rw[this] at a b ⊢;have c:(32:Nat)^13=36893488147419103232:=by decide
 lia
theorem TabG.free (T:TabG byText t n)(b:n<=t.mask)(h:Int):∃j,t.freeSlot h=some (j,false)/\j∉t.place.toList/\j<=t.mask:=by
 have c:O5 h%(t.mask+1)<t.mask+1:=o6 _ (by lia)
 obtain⟨j,e,z,l⟩:=T.goK b h 13 (O5 h%(t.mask+1)) (O5 h) (10*X1 t.mask) (by lia) (qVL h) (by unfold X1;lia)
 refine⟨j,?_,z,l⟩;unfold SetTable.freeSlot SetTable.probe;have a:t.probeStart h=qJX t.mask (O5 h%(t.mask+1)) (O5 h):=rfl;rw[a,e]
 rfl
theorem TabG.lay (T:TabG byText t n)(hn:n<t.mask){es:Array (Int×Value)}(u:es.size=n)(h:Int)(x:Value):
  ∃p t',layNew t es h x=(J8 es p (h,x),t',false,false)/\TabG byText t' (n+1)/\t'.mask=t.mask/\p<=es.size:=by
 obtain⟨j,e,z,l⟩:=T.free (by lia) h
 obtain⟨m,y,v⟩:=qIG (j:=j) T.up;have hd:B79 t.dummies j=false:=by rw[T.dum];rfl
 have k:(J8 t.place (G1 t.place j) j).toList=t.place.toList.take (G1 t.place j)++j::t.place.toList.drop (G1 t.place j):=qDW _ _ _;have q:(J8 t.place (G1 t.place j) j).size=n+1:=by
  rw[<- C4,k,B0,C9,D3,J5,C4,T.size];rw[T.size] at m
  lia
 have s:TabG byText {t with place:=J8 t.place (G1 t.place j) j,dummies:=t.dummies} (n+1):=by
  refine⟨T.pow,T.dum,T.plain,T.led,q,?_,?_⟩
  ·show(J8 t.place (G1 t.place j) j).toList.Pairwise (·<·);rw[k];have r:∀a∈t.place.toList.take (G1 t.place j),a<j:=λa f=>by
    obtain⟨i,hi,c⟩:=e7.mp f;rw[D3,C4] at hi;have d:i<t.place.size:=by lia
    have:=y i (by lia)
    rw[G4,D0 d] at this;rw[A34] at c;rw[<- c];simpa using this
   have hi:∀a∈t.place.toList.drop (G1 t.place j),j<a:=λa f=>by
    have hm:a∈t.place.toList:=P3 f;obtain⟨i,hi,c⟩:=e7.mp f;rw[J5,C4] at hi;have d:G1 t.place j+i<t.place.size:=by lia
    have:=v _ (B32 _ i) d;rw[G4,D0 d] at this;rw[A33] at c;have w:j<=a:=by
     rw[<- c];simpa using this
    rcases Nat.lt_or_eq_of_le w with h4|h4
    ·exact h4
    ·exact absurd (h4▸hm) z
   refine O6.mpr ⟨T.up.sublist (c8 _ _),M5.mpr ⟨hi,T.up.sublist (d5 _ _)⟩,λa f b hb=>?_⟩;rcases B9.mp hb with e|hb
   ·rw[e];exact r a f
   ·exact A16 (r a f) (hi b hb)
  ·show∀i∈(J8 t.place (G1 t.place j) j).toList,i<=t.mask;rw[k];intro i hi;rcases C1.mp hi with hi|hi
   ·exact T.le i (X4 hi)
   ·rcases B9.mp hi with e|hi
    ·lia
    ·exact T.le i (P3 hi)
 have g:z9 {t with place:=J8 t.place (G1 t.place j) j,dummies:=t.dummies} (n+1)=true:=by
  unfold z9 A46;dsimp only;rw[q,T.dum];have:((#[]:Array Nat)).size=0:=rfl;simp only[this,beq_self_eq_true,A00,decide_eq_true_eq]
  lia
 have o:(J8 es (G1 t.place j) (h,x)).size=n+1:=by
  rw[<- C4,qDW,B0,C9,D3,J5,C4];rw[T.size] at m
  lia
 refine⟨G1 t.place j,{t with place:=J8 t.place (G1 t.place j) j,dummies:=t.dummies},?_,s,rfl,by rw[u,<- T.size];exact m⟩
 unfold layNew;rw[e];dsimp only;unfold SetTable.put;rw[hd];dsimp only;rw[o];unfold SetTable.orStandIn;simp only[O8,if_false];rw[g];simp
end
theorem qTB {α:Type} :∀{l m:List α},l.Nodup->m.Nodup->(∀x,x∈l↔x∈m)->l.Perm m
 |[],[],_,_,_=>.refl _
 |[],y::m,_,_,h=>absurd ((h y).mpr A8) (by simp)
 |x::l,m,hl,hm,h=>by
  obtain⟨s,t,rfl⟩:=List.append_of_mem ((h x).mp A8);have l1:=J6.mp hl;have m1:(x::(s++t)).Nodup:=(A54.nodup_iff).mp hm;have m2:=J6.mp m1;refine((qTB l1.2 m2.2 λy=>?_).cons x).trans A54.symm;have key:=h y;rw[B9,A54.mem_iff,B9] at key
  constructor
  ·intro hy;rcases key.mp (.inr hy) with e|e
   ·exact absurd (e▸hy) l1.1
   ·exact e
  ·intro hy;rcases key.mpr (.inr hy) with e|e
   ·exact absurd (e▸hy) m2.1
   ·exact e
theorem qIL:∀(fuel k n:Nat),3<=k->n<2^k*2^fuel->∃k',3<=k'/\A74 n fuel (2^k)=2^k'/\n<2^k'
 |0,k,n,hk,h=>⟨k,hk,rfl,by simpa using h⟩
 |fuel+1,k,n,hk,h=>by
  rw[A74];by_cases c:2^k<=n
  ·rw[if_pos c,<- T6];exact qIL fuel (k+1) n (by lia) (by rw[T6,Y9,<- Nat.pow_succ'];exact h)
  ·rw[if_neg c];exact⟨k,hk,rfl,by lia⟩
theorem qN4 {n:Nat} (h:n<=1000000):∃k,3<=k/\k6 n=2^k/\n<2^k:=by
 unfold k6;exact qIL 64 3 n (A9 _) (j9 h (by decide))
section
variable{mask:Nat}{owner:Array (Option Nat)}
theorem qcN (i a F:Nat)(hi:i<=mask):(∃j,L3 mask owner (F+1) i a=some j/\owner.getD j (some 0)=none/\j<=mask)\/
  (L3 mask owner (F+1) i a=L3 mask owner F ((i*5+1+a/32)%(mask+1)) (a/32)/\owner.getD i (some 0)≠none):=by
 obtain⟨g,f,d⟩:=qNB hi;cases e:(G9 (Q6 mask i+1-i)).find? λk=>(owner.getD (i+k) (some 0)).isNone with
 |some k=>
  left
  have b:=List.find?_some e;have c:=G3.mp (List.mem_of_find?_eq_some e);refine⟨i+k,?_,by simpa using b,by lia⟩
  rw[L3,e]
 |none=>
  right
  refine⟨?_,?_⟩
  ·rw[L3,e]
   rfl
  ·have:=List.find?_eq_none.mp e 0 (G3.mpr (by lia))
   simpa using this
theorem qcO:∀(m q i F:Nat),i<=mask->m<=F->(∃j,L3 mask owner F (it5 i q%(mask+1)) 0=some j/\owner.getD j (some 0)=none/\j<=mask)\/(∀c,c<m->owner.getD (it5 i (q+c)%(mask+1)) (some 0)≠none)
 |0,q,i,F,hi,hF=>.inr λc hc=>absurd hc (by lia)
 |m+1,q,i,F,hi,hF=>by
  have lt:it5 i q%(mask+1)<mask+1:=o6 _ (by lia)
  obtain⟨F',rfl⟩:∃F',F=F'+1:=⟨F-1,by lia⟩
  rcases qcN (mask:=mask) (owner:=owner) (it5 i q%(mask+1)) 0 F' (by lia) with ok|⟨e,z⟩
  ·exact .inl ok
  ·have e2:((it5 i q%(mask+1))*5+1+0/32)%(mask+1)=it5 i (q+1)%(mask+1):=by
    rw[qQN,A73,u8,Y2,A98,A99,Nat.mod_mod,<- A99,<- A98]
   rw[e2,A73] at e;rw[e];rcases qcO m (q+1) i F' hi (by lia) with ok|all
   ·exact .inl ok
   ·refine .inr λc hc=>?_;cases c with
    |zero=>exact z
    |succ c=>
     have:=all c (by lia)
     rw[show q+(c+1)=q+1+c by lia]
     exact this
theorem qcM {p:Nat} (hp:mask+1=2^p){j0:Nat}(h0:j0<=mask)(hj0:owner.getD j0 (some 0)=none):∀(k i pt F:Nat),i<=mask->pt<32^k->k+(mask+1)<=F->∃j,L3 mask owner F i pt=some j/\owner.getD j (some 0)=none/\j<=mask
 |0,i,pt,F,hi,hpt,hF=>by
  have e:pt=0:=by lia
  subst e;have e0:it5 i 0%(mask+1)=i:=by
   unfold it5 g5;rw[Nat.pow_zero,B46,u8,B33 (by lia)]
  have q:=qcO (mask:=mask) (owner:=owner) (mask+1) 0 i F hi (by lia)
  rw[e0] at q;rcases q with ok|all
  ·exact ok
  ·exfalso
   obtain⟨m,hm,e⟩:=qUA (k:=p) (i:=i) (j:=j0) (by lia)
   rw[<- hp] at hm e;have:=all m hm;rw[A72,e] at this;exact this hj0
 |k+1,i,pt,F,hi,hpt,hF=>by
  obtain⟨F',rfl⟩:∃F',F=F'+1:=⟨F-1,by lia⟩
  rcases qcN (mask:=mask) (owner:=owner) i pt F' hi with ok|⟨e,z⟩
  ·exact ok
  ·rw[e];have lt:(i*5+1+pt/32)%(mask+1)<mask+1:=o6 _ (by lia)
   refine qcM hp h0 hj0 k _ _ F' (by lia) ?_ (by lia)
   rw[T6] at hpt
   lia
end
structure Own (N:Nat)(L:List Nat)(owner:Array (Option Nat)):Prop where
 size:owner.size=N
 nd:L.Nodup
 lt:∀j∈L,j<N
 at_:∀(m j:Nat),L[m]?=some j->owner[j]?=some (some m)
 no:∀j,j<N->j∉L->owner[j]?=some none
theorem Own.put {N:Nat} {L:List Nat} {owner:Array (Option Nat)} (o:Own N L owner){j:Nat}(d:j<N)(e:j∉L):Own N (L++[j]) (owner.setIfInBounds j (some L.length)):=by
 refine⟨by simp[o.size],qM7 o.nd e,λi hi=>?_,λm i h=>?_,λi hi a=>?_⟩
 ·rcases C1.mp hi with hi|hi
  ·exact o.lt i hi
  ·rw[A6.mp hi];exact d
 ·by_cases c:m<L.length
  ·rw[F4 c] at h;have b:j≠i:=λz=>e (z▸B3 h);rw[p8 b];exact o.at_ m i h
  ·rw[E1 (by lia)] at h
   have f:m=L.length:=by
    have:=(A3.mp h).1;simp at this
    lia
   subst f;rw[Y3] at h;cases h;rw[Array.getElem?_setIfInBounds_self_of_lt (by rw[o.size];exact d)]
 ·have b:j≠i:=λz=>a (C1.mpr (.inr (by rw[z];exact A6.mpr rfl)))
  rw[p8 b];exact o.no i hi λz=>a (C1.mpr (.inl z))
theorem qQG {mask p:Nat} (hp:mask+1=2^p):∀(hs:List Int) (L:List Nat) (owner:Array (Option Nat)),Own (mask+1) L owner->L.length+hs.length<=mask->
  ∃L' owner',hs.foldl (λ(acc:Option (Array (Option Nat)×Nat)) (h:Int)=>acc >>= λx=>L3 mask x.1 (X1 mask) (O5 h%(mask+1)) (O5 h) >>= λj=>some (x.1.setIfInBounds j (some x.2),x.2+1)) (some (owner,L.length))=some (owner',L'.length)/\Own (mask+1) L' owner'/\L'.length=L.length+hs.length
 |[],L,owner,o,_=>⟨L,owner,rfl,o,by simp⟩
 |h::hs,L,owner,o,hl=>by
  rw[C9] at hl;obtain⟨j0,hj0,hjn⟩:∃j0,j0<mask+1/\j0∉L:=by
   apply L9;intro no;have sub:G9 (mask+1) ⊆ L:=λj hj=>L9 λz=>no ⟨j,G3.mp hj,z⟩;have:=D9 A53 sub;simp at this
   lia
  have g0:owner.getD j0 (some 0)=none:=by
   rw[G4,o.no j0 hj0 hjn]
   rfl
  have lt:O5 h%(mask+1)<mask+1:=o6 _ (by lia)
  obtain⟨j,e,z,l⟩:=qcM hp (by lia) g0 13 (O5 h%(mask+1)) (O5 h) (X1 mask) (by lia) (qVL h) (by unfold X1;lia)
  have jn:j∉L:=λhm=>by
   obtain⟨m,hm⟩:=M8 hm;rw[G4,o.at_ m j hm] at z;cases z
  have st:=o.put (show j<mask+1 by lia) jn
  obtain⟨L',owner',e1,o',e2⟩:=qQG hp hs (L++[j]) _ st (by rw[B0,C2];lia)
  refine⟨L',owner',?_,o',by rw[e2,B0,C2,C9];lia⟩
  rw[X6];have e3:((some (owner,L.length):Option (Array (Option Nat)×Nat)) >>= λx=>L3 mask x.1 (X1 mask) (O5 h%(mask+1)) (O5 h) >>= λj=>some (x.1.setIfInBounds j (some x.2),x.2+1))=some (owner.setIfInBounds j (some L.length),(L++[j]).length):=by
   show(L3 mask owner (X1 mask) (O5 h%(mask+1)) (O5 h) >>= _)=_;rw[e,B0,C2]
   rfl
  rw[e3];exact e1
theorem qZB (N:Nat):Own N [] (B48 N none):=⟨by simp,.nil,λ_ h=>(nomatch h),λm j h=>by simp at h,λj a _=>by simp[a]⟩
theorem qP2 {mask p:Nat} (d:mask+1=2^p)(a:Array Int)(c:a.size<=mask):∃L owner,B18 mask a=some owner/\Own (mask+1) L owner/\L.length=a.size:=by
 obtain⟨L,owner,e,o,l⟩:=qQG d a.toList [] _ (qZB (mask+1)) (by simpa using c)
 refine⟨L,owner,?_,o,by simpa using l⟩
 unfold B18;rw [<- Array.foldl_toList];have:(a.toList.foldl (fun (b:Option (Array (Option Nat) × Nat)) (h:Int)=>do
   let(owner,k) <- b
   let j <- L3 mask owner (X1 mask) (O5 h%(mask+1)) (O5 h)
   pure (owner.setIfInBounds j (some k),k+1)) (some (B48 (mask+1) none,0)))=some (owner,L.length):=e
 rw[this]
 rfl
theorem qND {α:Type} :∀l:List α,(G9 l.length).filterMap (λi=>l[i]?)=l
 |[]=>rfl
 |a::l=>by
  rw[C9,A62,Y6];show a::((G9 l.length).map Nat.succ).filterMap (λi=>(a::l)[i]?)=a::l;rw[B08];congr 1;exact qND l
theorem qW5 {b:Bool×Bool} {t:C16} {n:Nat} (T:TabG b t n){es:Array (Int×Value)}(u:es.size=n){wanted:Nat}(hw:wanted<=1000000)(hn:n<wanted):
  ∃es' t',relayAll t es wanted=(es',t',false)/\es'.toList.Perm es.toList/\TabG b t' n/\wanted<=t'.mask:=by
 obtain⟨k,k3,hk,a2⟩:=qN4 hw;have v:k6 wanted-1+1=2^k:=by rw[hk];have:=B47 k;lia
 have h8:8<=2^k:=by
  have:=X5 (n:=2) (by decide) k3
  exact this
 obtain⟨L,f,e,o,l⟩:=qP2 v (es.map (·.1)) (by rw[A25,u,hk];lia)
 rw[A25,u] at l;generalize hM:k6 wanted-1=M at *;have fa:∀j m,(f.getD j none).map (λx=>(j,x))=some (j,m)↔L[m]?=some j:=by
  intro j m;rw[G4];by_cases p:j<M+1
  ·by_cases q:j∈L
   ·obtain⟨m',g⟩:=M8 q;rw[o.at_ m' j g]
    constructor
    ·intro z;have:m'=m:=by simpa using z
     rw[<- this];exact g
    ·intro z;have:some (some m')=some (some m):=(o.at_ m' j g).symm.trans (o.at_ m j z);cases this
     rfl
   ·rw[o.no j p q]
    constructor
    ·intro z;simp at z
    ·intro z;exact absurd (B3 z) q
  ·rw[Array.getElem?_eq_none (by rw[o.size];lia)]
   constructor
   ·intro z;simp at z
   ·intro z;exact absurd (o.lt j (B3 z)) p
 have r:∀j x,x∈((f.getD j none).map λy=>(j,y))->x.1=j/\L[x.2]?=some j:=by
  intro j x h;have w:(f.getD j none).map (λy=>(j,y))=some x:=h;obtain⟨y,hy,e⟩:=A60.mp w;subst e;exact⟨rfl,(fa j y).mp w⟩
 generalize hlive:(G9 (M+1)).filterMap (λj=>(f.getD j none).map (λx=>(j,x)))=d;have p1:d.Pairwise λa c=>a.1<c.1:=by
  rw[<- hlive,A47];refine Z5.imp λ{a c} s x h y hy=>?_;rw[(r a x h).1,(r c y hy).1];exact s
 have p2:d.Pairwise λa c=>a.2≠c.2:=by
  rw[<- hlive,A47];refine Z5.imp λ{a c} s x h y hy z=>?_;have h1:=(r a x h).2;have h2:=(r c y hy).2;rw[z,h2] at h1;cases h1
  lia
 have a1:∀m,m∈d.map (·.2)↔m∈G9 n:=by
  intro m;rw[C3,G3]
  constructor
  ·rintro⟨x,h,rfl⟩;rw[<- hlive] at h;obtain⟨j,_,p⟩:=V9.mp h;have:=(A3.mp (r j x p).2).1
   lia
  ·intro hm;have g:m<L.length:=by lia
   have hL:=A5 g;refine⟨(L[m],m),?_,rfl⟩;rw[<- hlive];exact V9.mpr ⟨L[m],G3.mpr (o.lt _ (A50 g)),(fa L[m] m).mpr hL⟩
 have pm:(d.map (·.2)).Perm (G9 n):=qTB (by rw[A12,P9];exact p2) A53 a1
 have ll:d.length=n:=by have:=pm.length_eq;simpa using this
 have es':((d.map (·.2)).toArray.filterMap (λi=>es[i]?)).toList.Perm es.toList:=by
  rw[Array.toList_filterMap];have:=pm.filterMap (λi=>es[i]?);have e2:(G9 n).filterMap (λi=>es[i]?)=es.toList:=by
   have:=qND es.toList;rw[C4,u] at this;simpa using this
  rw[e2] at this;simpa using this
 have a0:((d.map (·.2)).toArray.filterMap (λi=>es[i]?)).size=n:=by
  rw[<- C4,es'.length_eq,C4,u]
 refine⟨(d.map (·.2)).toArray.filterMap (λi=>es[i]?),{mask:=M,place:=(d.map (·.1)).toArray,dummies:=#[],finger:=t.finger,led:=t.led,moves:=t.movedTo M,plain:=t.plain},?_,es',⟨⟨k,k3,v⟩,rfl,T.plain,T.led,by simp[ll],?_,?_⟩,?_⟩
 ·have er:t.relaid (es.map (·.1)) wanted=some ({mask:=M,place:=(d.map (·.1)).toArray,dummies:=#[],finger:=t.finger,led:=t.led,moves:=t.movedTo M,plain:=t.plain},(d.map (·.2)).toArray):=by
   unfold SetTable.relaid SetTable.laid;rw[hM,e];show some _=some _;rw[<- hlive]
  unfold relayAll;rw[er];dsimp only;have c1:coversAll (d.map (·.2)).toArray es.size=true:=by
   unfold coversAll;rw[u];exact List.isPerm_iff.mpr pm
  have c2:z9 {mask:=M,place:=(d.map (·.1)).toArray,dummies:=#[],finger:=t.finger,led:=t.led,moves:=t.movedTo M,plain:=t.plain} ((d.map (·.2)).toArray.filterMap (λi=>es[i]?)).size=true:=by
   unfold z9 A46;rw[a0];simp[ll]
   lia
  rw[c1,c2]
  rfl
 ·show(d.map (·.1)).toArray.toList.Pairwise (·<·);rw[B00,P9];exact p1
 ·show∀j∈(d.map (·.1)).toArray.toList,j<=M;intro j p;rw[B00] at p;obtain⟨x,h,rfl⟩:=C3.mp p;rw[<- hlive] at h;obtain⟨i,hi,h⟩:=V9.mp h;rw[(r i x h).1];have:=G3.mp hi
  lia
 ·show wanted<=M
  lia
def SetG (w:World)(a:Addr)(zs:List Int)(h:Heap):Prop:=
 ∃(es:Array (Int×Value)) (ep:Nat) (t:C16) (ks:List Int),h.get? a=some {cls:=.type "set",data:=.set es ep t}/\TabG (byT w,true) t es.size/\Ents ks es.toList/\ks.Perm zs/\zs.Nodup/\zs.length<4095/\es.size*5<t.mask*3
def SetG.at {a:Addr} {zs:List Int} {h h':Heap} (x:SetG w a zs h)(k:∀o,h.get? a=some o->h'.get? a=some o):SetG w a zs h':=
 let⟨es,ep,t,ks,h1,r⟩:=x;⟨es,ep,t,ks,k _ h1,r⟩
theorem TabG.fits {b:Bool×Bool} {t:C16} {n:Nat} (T:TabG b t n)(a:n<=t.mask):t.fits n=true:=by
 unfold z9 A46;rw[T.size,T.dum];have:((#[]:Array Nat)).size=0:=rfl;simp only[this,beq_self_eq_true,A00,decide_eq_true_eq]
 lia
theorem TabG.mask7 {b:Bool×Bool} {t:C16} {n:Nat} (T:TabG b t n):7<=t.mask:=by
 obtain⟨k,a,c⟩:=T.pow;have:=X5 (n:=2) (by decide) a
 lia
theorem insertAt_perm {es:Array (Int×Value)} {p:Nat} {x:Int×Value} :(J8 es p x).toList.Perm (es.toList++[x]):=by
 rw[qDW];have a:es.toList++[x]=es.toList.take p++(es.toList.drop p++[x]):=by
  rw[<- J4,S0]
 rw[a];exact u7 _ (List.perm_append_singleton _ _).symm
theorem qXL {a:Addr} {es es':Array (Int×Value)} {ep:Nat} {t t':C16} {h:Heap} (b:h.get? a=some {cls:=.type "set",data:=.set es ep t}):
  (h.update a (Obj.putSet es' t')).get? a=some {cls:=.type "set",data:=.set es' (ep+1) t'}:=by
 have:=L0 (Obj.putSet es' t') b (by rw[putSet_of _ _ (ep:=ep) (es:=es) (t:=t) rfl];rfl)
 rw[putSet_of _ _ (ep:=ep) (es:=es) (t:=t) rfl] at this;exact this
theorem qW2 {a:Addr} {zs:List Int} {k:Int} {f:Tok} {Q:Bool->Shared->Prop} (hS:SetG w a zs s.heap)(a0:zs.length<4094)
  (h:∀h',Heap.SameBut a s.heap h'->SetG w a (addI zs k) h'->∀b,Q b {s with heap:=h'}):wpAny (model prog w) A (setAddHashed a (.int k f) (hashInt k)) Q E s:=by
 obtain⟨d,ep,t,ks,v,T,y,hp,a1,a3,u⟩:=id hS;have i:d.size=zs.length:=SetI.size (a:=a) (h:=s.heap) y hp;have n:ElemsOf (C38 prog w) d.toList:=y.elems;have h7:=T.mask7;have hb:d.size<scanBound:=by rw[i];unfold scanBound;lia
 have hf:t.fits d.size=true:=T.fits (by lia)
 unfold setAddHashed setAddHashedIn;refine C00 (B87 (C15 v rfl hf ?_));dsimp only;rw[byScan_of (knd:=C38 prog w) (x:=.int k f) rfl hb n];simp only[↓reduceIte];unfold setAddByScan;refine B87 ?_;refine B87 (C13 ?_);refine B87 (wpAny_setScan_of (knd:=C38 prog w) (k:=k) (intKind_is _ _ _ _) v rfl hf n ?_);have g:=Ents.find (prog:=prog) (w:=w) (k:=k) y;cases hr:B70 (λe=>(C38 prog w).is k e.2) d.toList with
 |some j=>
  dsimp only;rw[hr] at g;have l:k∈zs:=hp.mem_iff.mp (g.mp rfl);refine B88 (B88 ?_);have e:s={s with heap:=s.heap}:=by cases s;rfl
  rw[e];refine h s.heap (Heap.SameBut.refl a s.heap) ?_ _;unfold addI;rw[if_pos l];exact hS
 |none=>
  dsimp only;rw[hr] at g;have l:¬k∈zs:=λz=>by have:=g.mpr (hp.mem_iff.mpr z);cases this
  obtain⟨p,t',e1,m,tm,a4⟩:=T.lay (by lia) rfl (hashInt k) (.int k f)
  rw[e1];dsimp only;refine B87 (B88 ?_);rw[show t'.plain=true from m.plain];simp only[↓reduceIte];rw[hashByValue_scannable 8 (x:=.int k f) rfl];refine B87 (B88 ?_);have c:(J8 d p (hashInt k,R4 k f)).size=d.size+1:=by
   rw[<- C4,insertAt_perm.length_eq,B0,C4]
   rfl
  rw[show plainKind (R4 k f)=true from rfl];simp only[↓reduceIte];show wpAny _ _ (storeSet a (J8 d p (hashInt k,.int k f)) t' >>= _) _ _ _;refine B87 (wpAny_storeSet_of v rfl ?_ (by rw[c,i,B94];lia))
  have q:∀(es2:Array (Int×Value)) (ep2:Nat) (t2:C16) (h2:Heap),h2.get? a=some {cls:=.type "set",data:=.set es2 ep2 t2}->es2.toList.Perm (J8 d p (hashInt k,R4 k f)).toList->TabG (byT w,true) t2 (d.size+1)->(d.size+1)*5<t2.mask*3->SetG w a (addI zs k) h2:=by
   intro es2 ep2 t2 h2 g2 pm T2 r;obtain⟨a2,h4,h5⟩:=Ents.perm (ks:=ks++[k]) (A03 y ⟨f,rfl⟩) (pm.trans insertAt_perm);have o:es2.size=d.size+1:=by rw[<- c,<- C4,pm.length_eq,C4]
   refine⟨es2,ep2,t2,a2,g2,by rw[o];exact T2,h4,?_,?_,?_,by rw[o];exact r⟩
   ·unfold addI;rw[if_neg l];exact h5.trans (hp.append_right _)
   ·unfold addI;rw[if_neg l];exact qM7 a1 l
   ·unfold addI;rw[if_neg l,B0,C2]
    lia
  have hg:=qXL (es':=J8 d p (hashInt k,.int k f)) (t':=t') v;have fill:t'.fill=d.size+1:=by
   unfold A46;rw[m.size,m.dum]
   rfl
  cases tf:t'.tooFull with
  |false=>
   simp only[t5,O8,↓reduceIte];refine B88 (B88 ?_);refine h _ (U2 s.heap a _) (q _ _ _ _ hg (.refl _) m ?_) _;unfold SetTable.tooFull at tf;rw[fill] at tf;have:=of_decide_eq_false tf
   lia
  |true=>
   simp only[B56,Bool.and_self,↓reduceIte];rw[c];have gr:A92 (d.size+1)=(d.size+1)*4:=by
    unfold A92;rw[if_neg (by lia)]
   obtain⟨es2,t2,e2,p2,T2,m2⟩:=qW5 m c (wanted:=A92 (d.size+1)) (by rw[gr];lia) (by rw[gr];lia)
   rw[gr] at m2;rw[e2];dsimp only;refine B87 (B88 ?_);refine B87 (wpAny_storeSet_of hg rfl ?_ (by rw[<- C4,p2.length_eq,C4,c,i,B94];lia))
   refine B88 (B88 ?_);exact h _ ((U2 s.heap a _).trans (U2 _ a _)) (q _ _ _ _ (qXL hg) p2 T2 (by lia)) _
section
variable{prog:B90}{w:World}{A:Around}{R:Result->Shared->Prop}{I:Addr}{fp wr:List Addr}{G:Array C48->Array C48->Prop}{n:Nat}{P:Nat->Value->Prop}{St:Nat->Shared->Prop}
theorem qN6 (W:WalksS prog w A.in1 I fp wr G n P St)(S:Addr)(l:S∉fp)(ns:List Int)(a3:ns.length=n)(h4:n<=4000)(j:∀i v,P i v->∃t,v=.int (ns.getD i 0) t):
  ∀(k i:Nat) (s:Shared),n-i=k->i<=n->St i s->SetG w S (dedI (ns.take i)) s.heap->
   (∀s',Moved (S::wr) G s s'->SetG w S (dedI ns) s'.heap->R (.ok (.ret .none)) s')->
   C18 (model prog w) A (.builtin "set.update.loop" ⟨[.ref S,.ref I],[]⟩) R s:=by
 have g:S∉wr:=λh=>l (W.sub _ h);have a:∀b∈wr,b∈S::wr:=λb r=>A7 _ r;intro k
 induction k with
 |zero=>
  intro i s hk hi c hS hR;have a1:i=n:=by lia
  subst a1;refine C09 F.entry_set_update_loop ?_;rw[L7 F.plain_set_update_loop _];show wpAny _ A.in1 (pyNext (.ref I) >>= _) _ _ s;refine B87 (W.done s _ _ c λs' u=>?_);show wpAny _ A.in1 (ret Q3) _ _ s';rw[F7 (by lia)] at hS
  exact B88 (hR s' (u.mono a) (hS.at λo e=>u.heap S _ g e))
 |succ k ih=>
  intro i s hk hi c hS hR;have p:i<n:=by lia
  refine C09 F.entry_set_update_loop ?_;rw[L7 F.plain_set_update_loop _];show wpAny _ A.in1 (pyNext (.ref I) >>= _) _ _ s;refine B87 (W.item i s _ _ p c λv s' hP q u=>?_);obtain⟨t,rfl⟩:=j i v hP;have a0:SetG w S (dedI (ns.take i)) s'.heap:=hS.at λo e=>u.heap S _ g e;show wpAny _ A.in1 (C49 [R4 (ns.getD i 0) t] (setAdd S (.int (ns.getD i 0) t)) >>= _) _ _ s';refine B87 (C00 ?_);unfold setAdd;refine C00 ?_;refine B87 ((C38 prog w).pyHash (k:=ns.getD i 0) (intKind_is _ _ _ _) ?_);have d:(dedI (ns.take i)).length<4094:=by
   have:=qEF (ns.take i) [];rw[D3] at this;unfold dedI;simp at this
   lia
  refine qW2 (s:={s' with toks:=s'.toks+1}) a0 d λh' m x b=>?_;have e2:addI (dedI (ns.take i)) (ns.getD i 0)=dedI (ns.take (i+1)):=by
   have y:i<ns.length:=by lia
   rw[C5,A5 y,D8];unfold dedI;rw[List.foldl_append,X6,B57,M9,A5 y,x5]
  rw[e2] at x;refine B88 ⟨C12 F.plain_set_update_loop _,ih (i+1) _ (by lia) p (W.frame _ s' _ _ q (W9 _) λb r o e=>?_) x λa2 z f=>?_⟩
  ·rw[m.2 b (λh:b=S=>l (by rw[<- h];exact r))];exact e
  ·refine hR a2 (Moved.trans W.gtrans ((u.mono a).then_heap (W9 _) λb o r e=>?_) z) f;rw[m.2 b (λh:b=S=>r (by rw[h];exact A8))];exact e
end
theorem SetG.fresh {a:Addr} {h:Heap} (e:h.get? a=some (freshSet w)):SetG w a [] h:=
 ⟨#[],0,_,[],e,⟨⟨3,A9 _,rfl⟩,rfl,rfl,rfl,rfl,.nil,λ_ z=>nomatch z⟩,.nil,.refl _,.nil,by decide,by show 0*5<7*3;decide⟩
theorem qS1 {l:Addr} {a:Array Value} {ns:List Int} {Q:Aa1} (hh:A.handled=none)(hl:s.heap.IsList l a)(hi:C06 a.toList ns)(h4:a.size<=4000)
  (h:∀(h':Heap) (tk:Nat),SetG w s.heap.objs.size (dedI ns) h'->(∀b o,s.heap.get? b=some o->h'.get? b=some o)->Q (.ref s.heap.objs.size) {s with heap:=h',toks:=tk}):
  wpAny (model prog w) A (call (.type "set") [.ref l]) Q E s:=by
 have p:ns.length=a.size:=by have:=IntsAre.length hi;simpa using this.symm
 obtain⟨c,tl,ae⟩:=c5.mro;have a4:=c5.made;have ad:=c5.sub;refine C63 (C66 ?_);show wpAny _ _ (callAny (.type "set") _) _ _ _;refine B88 ⟨A18 _ (by decide +kernel),C09 F.entry_type_call ?_⟩
 rw[Around.under_plain (weight_type_call_type "set" [.ref l] []) rfl];have h1:=c5.notType;have h2:=c5.canCreate;have af:=F.typeCall_set_1 (.ref l)
 repeat (any_goals (first|assumption|wp_step))
 refine C32 (qT1 (.ref l) (E:=E) (Q₁:=λz s₁=>z=.ref s.heap.objs.size/\s₁={s with heap:=s.heap.push (freshSet w)}) ⟨rfl,rfl⟩) λr s₁ hr=>?_;cases r with
 |error e=>exact hr
 |ok fl=>
  cases fl with
  |ret z=>
   obtain⟨rfl,rfl⟩:=hr;have hS:(s.heap.push (freshSet w)).get? s.heap.objs.size=some (freshSet w):=B7 _ rfl;have hT:Shared.TypeIs {s with heap:=s.heap.push (freshSet w)} (.ref s.heap.objs.size) "set":=⟨_,hS,rfl⟩;have ag:=c5.init.lookup;have ai:=c5.init.bind (.ref s.heap.objs.size)
   repeat (any_goals (first|assumption|wp_step))
   refine C32 (C68 (R:=wants (fun r s₂=>r=.none/\∃ h' tk,s₂={ s with heap:=h',toks:=tk }/\SetG w s.heap.objs.size (dedI ns) h'/\
     (∀b o,s.heap.get? b=some o->h'.get? b=some o)) E) c5.init.plain F.entry_set_init (check_set_init_1 hT ?_)) λr₂ s₂ d=>?_
   ·obtain⟨ol,n,q,nl,m⟩:=hl;obtain⟨aa,j,a6,f⟩:=ol;simp only at q m;subst q;subst m;have u:(s.heap.push (freshSet w)).get? l=some {cls:=.type "list",dict:=j,data:=.seq a nl,slots:=f}:=A4 _ n;have ab:=F.sub_list_set;have ac:=F.sub_list_frozenset;have ah:(V1 "list" == V1 "dict")=false:=by decide
    have k:(s.heap.push (freshSet w)).IsList l a:=⟨_,u,rfl,nl,rfl⟩;unfold Builtin.«set.__init__» noKeywords B37;generalize hPI:pyIter=PI
    wp_walk
    subst hPI;refine C23 k ?_;refine B87 (wpAny_runValue ?_);have a0:l<s.heap.objs.size:=B5 n;have a3:A.in1.in1.in1.handled=none:=by simp[hh]
    have x:l≠(s.heap.push (freshSet w)).objs.size:=by
     rw[M7];exact D7 (O2 a0)
    have a7:s.heap.objs.size∉[(s.heap.push (freshSet w)).objs.size,l]:=by
     rw[M7];simp only[B9,A6,T4,or_false,not_or];exact⟨D7 (B34 _),V8 a0⟩
    have y:∀(i:Nat) (v:Value),a[i]?=some v->∃t,v=.int (ns.getD i 0) t:=λi v hv=>
     b9 hi i v (by rw[G8];exact hv)
    refine qN6 ((A79 a3 _ l x a).toS) s.heap.objs.size a7 ns p h4 y (a.size-0) 0 _ (by lia) (G6 _)
     ⟨⟨_,B7 _ rfl,rfl,rfl⟩,(k.push _)⟩ ?hS0 ?hR
    case hS0=>exact SetG.fresh (A4 _ hS)
    case hR=>
     intro s' hm g;obtain⟨h',g',d',a8,a1⟩:=s';have eg:g'=s.gens:=hm.gens;have ed:d'=s.drawn:=hm.drawn;have eo:a1=s.os:=hm.os;subst eg;subst ed;subst eo;show wpAny _ _ _ _ _ _;refine B88 ?_;show wpAny _ _ (ret Q3) _ _ _;refine B88 ⟨rfl,h',a8,rfl,g,λb o e=>?_⟩;have hb:=B5 e;have a2:b≠s.heap.objs.size:=D7 hb;have a9:b≠(s.heap.push (freshSet w)).objs.size:=by
      rw[M7];exact D7 (O2 hb)
     exact hm.heap b o (by simp only[B9,A6,T4,or_false,not_or];exact⟨a2,a9⟩) (A4 _ (A4 _ e))
   ·cases r₂ with
    |error e=>exact d
    |ok fl₂=>
     cases fl₂ with
     |ret r=>
      obtain⟨rfl,h',tk,rfl,g,a5⟩:=d
      repeat (any_goals (first|assumption|wp_step))
      exact h _ _ g a5
     |next=>exact d
     |brk=>exact d
     |cont=>exact d
  |next=>exact hr
  |brk=>exact hr
  |cont=>exact hr
theorem TabG.below_at {b:Bool×Bool} {t:C16} {n:Nat} (T:TabG b t n)(i:Nat)(hi:i<=n):G1 t.place (if i=0 then 0 else t.place.getD (i-1) 0+1)=i:=by
 obtain⟨h,e,g⟩:=qIG (j:=if i=0 then 0 else t.place.getD (i-1) 0+1) T.up
 have o:=T.size;have k:∀a c d,a<t.place.size->t.place.getD a c=t.place.getD a d:=λa c d l=>by
  rw[G4,G4,D0 l]
  rfl
 by_cases f:i=0
 ·rw[if_pos f] at h e g ⊢;subst f;apply Nat.eq_zero_of_not_pos;intro z;have:=e 0 z
  lia
 ·rw[if_neg f] at h e g ⊢;have p:¬G1 t.place (t.place.getD (i-1) 0+1)<i:=λz=>by
   have:=g (i-1) (by lia) (by lia)
   rw[k (i-1) (t.place.getD (i-1) 0+1) 0 (by lia)] at this
   lia
  have m:¬i<G1 t.place (t.place.getD (i-1) 0+1):=λz=>by
   have q:=e i z;have:=qYJ 0 T.up (i-1) i (by lia) (by lia)
   rw[k i (t.place.getD (i-1) 0+1) 0 (by lia)] at q
   lia
  lia
section
variable{prog:B90}{w:World}{A:Around}{E:Aa1}{s:Shared}{a I:Addr}{es:Array (Int×Value)}{ep:Nat}{t:C16}{i:Nat}
theorem qN7 {Q:Option (Value×Nat)->Shared->Prop} (T:TabG (byT w,true) t es.size) (g:es.size<=t.mask) (d:s.heap.get? a=some {cls:=.type "set",data:=.set es ep t}) (hi:i<=es.size)
  (h:Q (match(qFH w a ep es)[i]? with|some e=>some (e.2,qFJ w t (i+1))|none=>none) s):wpAny (model prog w) A (setNext a (qFJ w t i) i ep) Q E s:=by
 have f:=T.fits g;unfold setNext;refine B87 (C15 d rfl f ?_);dsimp only;unfold setsByText;refine B87 (B87 (C41 (B88 ?_)));show wpAny _ _ (if byT w=true then _ else _) _ _ _
 cases hb:byT w with
 |true=>
  rw[if_pos rfl];simp only[bne_self_eq_false,O8,if_false];refine B87 ?_;unfold setWalk;refine B87 (C15 d rfl f ?_);dsimp only;unfold setsByText;refine B87 (B87 (C41 (B88 ?_)));show wpAny _ _ (if byT w=true then _ else _) _ _ _
  rw[hb,if_pos rfl];refine B87 (C41 (B88 (B88 ?_)));have e:qFH w a ep es=(pickOrder (w.params.setOrder a ep) es).toList:=by unfold qFH;rw[if_pos hb]
  have c:∀j,qFJ w t j=0:=λj=>by unfold qFJ;rw[if_pos hb]
  rw[e,G8,c] at h;rw[c];show Q (Option.map _ (pickOrder (w.params.setOrder a ep) es)[i]?) s;cases hx:(pickOrder (w.params.setOrder a ep) es)[i]? with
  |none=>rw[hx] at h;exact h
  |some v=>rw[hx] at h;exact h
 |false=>
  rw[if_neg (by simp)]
  show wpAny _ _ (if(!t.plain&&decide (es.size>1))=true then _ else _) _ _ _
  rw[show t.plain=true from T.plain];simp only[B10,q9,O8,if_false];refine B87 ?_;show wpAny _ _ (if(!t.led && !es.isEmpty)=true then _ else _) _ _ _
  rw[show t.led=!(byT w) from T.led,hb];simp only[B56,B10,q9,O8,if_false];refine B88 (B88 ?_);have e:qFH w a ep es=es.toList:=by unfold qFH;rw[if_neg (by rw[hb];simp)]
  have c:∀j,qFJ w t j=if j=0 then 0 else t.place.getD (j-1) 0+1:=λj=>by unfold qFJ;rw[if_neg (by rw[hb];simp)]
  rw[e,G8] at h;rw[c,T.below_at i hi];cases hx:es[i]? with
  |none=>rw[hx] at h;exact h
  |some v=>
   rw[hx] at h;have b:i<t.place.size:=by rw[T.size];exact(V0.mp hx).1
   rw[D0 b];dsimp only at h ⊢;have k:qFJ w t (i+1)=t.place[i]+1:=by
    rw[c,if_neg (by lia),A17,G4,D0 b]
    rfl
   rw[k] at h;exact h
theorem qYV {Q:Option Value->Shared->Prop} (T:TabG (byT w,true) t es.size)(k:es.size<=t.mask)(c:SetIt w a I es ep t i s.heap)(d:a≠I){e:Int×Value}(n:(qFH w a ep es)[i]?=some e)
  (q:∀h',SetIt w a I es ep t (i+1) h'->(∀b o,b≠I->s.heap.get? b=some o->h'.get? b=some o)->Q (some e.2) {s with heap:=h'}):wpAny (model prog w) A (pyNext (.ref I)) Q E s:=by
 obtain⟨⟨o,j,v,f⟩,g⟩:=id c;have u:i<es.size:=by
  have:=(A3.mp n).1;rw[(qFG w a ep es).length_eq,C4] at this;exact this
 unfold pyNext;refine B87 (C44 (wpAny_callSpecial?_slot (name:=J7 "__next__") c.typeIs slot_si_next (C04 slot_si_next c.typeIs qHS ?_ (qIU _))));unfold Builtin.«set_iterator.__next__»;refine B87 (B88 ?_);refine B87 (wpAny_fieldsOf j f ?_);dsimp only;unfold setEntries;refine B87 (B87 (C15 g rfl (T.fits k) (B88 ?_)));rw[if_neg (by simp)]
 simp only[O0];refine B87 (qN7 T k g (Z8 u) ?_);rw[n];dsimp only;show wpAny _ _ (setField (.ref I) 0 (rawInt _) >>= _) _ _ s;refine B87 (C24 j f (by simp) ?_)
 have l:=L0 (d7 (·.setIfInBounds 0 (rawInt ((qFJ w t (i+1):Nat):Int)))) j (W2 (Q2 f _));have h:=Q2 f (·.setIfInBounds 0 (rawInt ((qFJ w t (i+1):Nat):Int)));refine B87 (C24 l h (by simp) ?_)
 have r:=L0 (d7 (·.setIfInBounds 1 (rawInt ((i:Int)+1)))) l (W2 (Q2 h _));have p:=Q2 h (·.setIfInBounds 1 (rawInt ((i:Int)+1)));refine B88 ⟨_,rfl,B88 (q _ ⟨⟨_,r,(o8 ..).trans ((o8 ..).trans v),?_⟩,?_⟩ λb x m e=>?_)⟩
 ·rw[p];simp[rawInt]
 ·exact(D5 _ _ (K9 d)).trans ((D5 _ _ (K9 d)).trans g)
 ·exact(D5 _ _ (K9 m)).trans ((D5 _ _ (K9 m)).trans e)
theorem qbA {Q:Option Value->Shared->Prop} (h:A.handled=none)(T:TabG (byT w,true) t es.size)(d:es.size<=t.mask)(c:SetIt w a I es ep t es.size s.heap)
  (i:∀h',(∀b o,b≠I->s.heap.get? b=some o->h'.get? b=some o)->Q none {s with heap:=h'}):wpAny (model prog w) A (pyNext (.ref I)) Q E s:=by
 obtain⟨⟨o,g,k,f⟩,e⟩:=id c;unfold pyNext;refine B87 (C44 (wpAny_callSpecial?_slot (name:=J7 "__next__") c.typeIs slot_si_next (C04 slot_si_next c.typeIs qHS ?_ (qIU _))));unfold Builtin.«set_iterator.__next__»;refine B87 (B88 ?_);refine B87 (wpAny_fieldsOf g f ?_);dsimp only;unfold setEntries;refine B87 (B87 (C15 e rfl (T.fits d) (B88 ?_)));rw[if_neg (by simp)]
 simp only[O0];have j:(qFH w a ep es)[es.size]?=none:=Q9 (by rw[(qFG w a ep es).length_eq,C4];exact A9 _)
 refine B87 (qN7 T d e (A9 _) ?_);rw[j];dsimp only;show wpAny _ _ (setField (.ref I) 2 .none >>= _) _ _ s;refine B87 (C24 g f (by simp) ?_)
 show wpAny _ _ (newExc (.type "StopIteration") [] >>= _) _ _ _;refine B87 ?_;simp only[newExc,newTuple];refine B87 (B98 ?_ (by size_fits))
 refine B87 (m:=firstArgMember _ _) (C37 (a:=Q3) (by first|rfl|(simp only[firstArgMember];rfl)) ?_)
 refine B98 ?_ (by size_fits)
 simp only[raiseNew];refine B87 (wpAny_handled ?_);rw[show A.in1.handled=none from h];refine B87 (B88 (wpAny_throw ?_));refine B87 (C59 (T:="StopIteration") (b:=true) ⟨_,B7 _ rfl,rfl⟩ isSubtype_stop ?_);exact B88 (i _ (((U2 ..).extBut.push _).push _))
theorem qb9 {Q:Aa1} (T:TabG (byT w,true) t es.size) (e:es.size<=t.mask) (b:s.heap.get? a=some {cls:=.type "set",data:=.set es ep t})
  (f:Q (.ref s.heap.objs.size) {s with heap:=s.heap.push {cls:=.type "set_iterator",data:=.fields #[.int 0 0,.int 0 0,.ref a,.int es.size 0,.int ep 0]}}):wpAny (model prog w) A (pyIter (.ref a)) Q E s:=by
 have d:s.TypeIs (.ref a) "set":=⟨_,b,rfl⟩;have c:=T.fits e;refine wpAny_pyIter_slot d F.slot_set_iter (C04 F.slot_set_iter d qL0 ?_ (F.args_set_iter_1 _));unfold Builtin.«frozenset.__iter__» B73 B63 setEntries;refine B87 (B87 (B88 ?_));show wpAny _ _ (pure a) _ _ s;refine B88 ?_;refine B87 (B87 (B87 (C15 b rfl c (B88 (B88 ?_)))));unfold setDrawn setsByText;refine B87 (B87 (C15 b rfl c ?_));dsimp only;refine B87 (B87 (C41 (B88 (B88 ?_))));show wpAny _ _ (if(!byT w&&(!t.plain&&decide (es.size>1)))=true then _ else _) _ _ _
 rw[show t.plain=true from T.plain];simp only[B10,q9,t5,O8,if_false];refine B87 (B88 ?_);unfold setEpoch;refine B87 (B87 (C15 b rfl c (B88 ?_)));refine B87 (B98 (B88 ⟨_,rfl,"set_iterator",_,⟨_,B7 _ rfl,rfl⟩,slot_si_next.lookup,?_⟩));simpa[rawInt] using f
theorem qb8 (T:TabG (byT w,true) t es.size) (j:es.size<=t.mask):PySem.W.KdlSrc prog w "set" a a es.size (λi v=>∃e,(qFH w a ep es)[i]?=some e/\v=e.2) (λh=>h.get? a=some {cls:=.type "set",data:=.set es ep t}) where
 type:=λs h=>⟨_,h,rfl⟩
 there:=λh x=>⟨B5 x,B5 x⟩
 keep:=λh d x k=>k a (.inl rfl) _ x
 notList:=by decide
 notTuple:=by decide
 hint:=λA E s Q x q=>qYU ⟨_,x,rfl⟩ q
 iter:=λA s u x=>by
  have l:a≠s.heap.objs.size:=D7 (B5 x);refine⟨_,λi h=>SetIt w a s.heap.objs.size es ep t i h,λE Q q=>qb9 T j x q,?_,⟨⟨_,B7 _ rfl,rfl,?_⟩,A4 _ x⟩⟩
  ·refine⟨λb f=>?_,λi h d c k=>?_,λi g Q E hi c q=>?_,λg Q E c q=>?_,λi g Q E c q=>qYT c q⟩
   ·have e:b=s.heap.objs.size:=by simpa using f
    simp[e]
   ·obtain⟨⟨o,h1,p,y⟩,r⟩:=c;exact⟨⟨o,k _ (by simp) _ h1,p,y⟩,k _ (by simp) _ r⟩
   ·have n:i<(qFH w a ep es).length:=by rw[(qFG w a ep es).length_eq,C4];exact hi
    refine qYV T j c l (A5 n) λd m k=>?_;exact q _ d g.toks ⟨_,A5 n,rfl⟩ m λb o f e=>k b o (λz=>f (by simp[z])) e
   ·refine qbA u T j c λd k=>?_;exact q d g.toks λb o f e=>k b o (λz=>f (by simp[z])) e
  ·unfold qFJ
   split<;>rfl
end
def SetM (w:World)(a:Addr)(zs:List Int):HO:=.ext (SetG w a zs)
theorem qHT (l:X.calm=true):qCQ X (.type "set") (λxs H Q=>∃p ns,xs=[.ref p]/\SqL X.K H p (ns.map V.int)/\ns.length<=4000/\∀a,H a=none->Q (.ref a) (Ag H a (SetM X.w a (dedI ns)))):=by
 intro Ab s σ H xs v Q I r h;obtain⟨p,ns,rfl,m,y,q⟩:=h;obtain⟨u,rfl,j⟩:=qEC r;cases j;obtain⟨i,d,f,hz⟩:=I.list m;have b:=d.length;rw[A0] at b;refine qS1 (ns:=ns) (I.ok.hd l) f.isList (by simpa using qDV d) (by simp;lia) λz g c n=>?_
 refine⟨.ref s.heap.objs.size,_,I.laid (t':=g) n (A9 _) ?_,rfl,q _ (I.hok.fresh (A9 _))⟩;obtain⟨es,ep,t,ks,e,_⟩:=id c;exact⟨c,⟨_,e⟩,λo h2 x k=>x.at k⟩
theorem qUW {ks:List Int} {l:List (Int×Value)} (h:Ents ks l):∀vs:List Value,vs.length=l.length->(∀(i:Nat) (v:Value),vs[i]?=some v->∃e:Int×Value,l[i]?=some e/\v=e.2)->C06 vs ks:=by
 induction h with
 |nil=>
  intro vs a _;have:vs=[]:=Y8.mp a;subst this;exact .nil
 |cons r t ih=>
  intro vs a b;cases vs with
  |nil=>simp at a
  |cons v vs=>
   obtain⟨f,rfl⟩:=r;obtain⟨e,c,rfl⟩:=b 0 v rfl;simp at c;subst c;exact IntsAre.cons _ _ (ih vs (by simpa using a) λi v d=>by simpa using b (i+1) v (by simpa using d))
theorem qFS (hc:X.calm=true):qCQ X (.builtin "sorted") (fun xs H Q=>∃ p ns,xs=[.ref p]/\H p=some (SetM X.w p ns)/\
  ∀(a:Addr) (zs:List Int),H a=none->zs.Perm ns->zs.Pairwise (·<=·)->Q (.ref a) (Ag H a (.lst (zs.map V.int)))):=by
 intro Ab s σ H xs us Q I r h;obtain ⟨p,ns,rfl,hq,q⟩:=h;obtain ⟨u,rfl,rx⟩:=qEC r;cases rx;refine A26 kind_sorted plain_sorted entry_sorted (args_sorted1 _) ?_;unfold Builtin.«sorted»;refine B87 (m:=checkCount "sorted" 1 1 _) (B88 ?_);have c:∀ (s1:Shared) (vs:List Value) (zs:List Int),Inv X Ab σ H s1->C06 vs zs->zs.length<=B89->zs.Perm ns->wpAny (model X.prog X.w) X.A.in1 (do
   let l <- newList vs
   let _ <- C49 [l] (call (.builtin "list.sort") [l] [])
   ret l) (λc s'=>∃r,c=.done (.ret r)/\EP X Ab σ Q r s') X.xe s1:=by
  intro s1 vs zs y hv hz f;have d:=IntsAre.length hv;refine B87 (wpAny_newList ?_ (by rw[d];exact hz))
  have hf:=y.hok.fresh (A9 s1.heap.objs.size);refine B87 (C00 (B96 (qSZ (E:=X.xe) (qRL y hv hz) λzs a b=>q _ zs hf (a.trans f) b) (λ_ s' x=>?_) λ_ _ e=>e));exact B88 ⟨_,rfl,x⟩
 obtain⟨hS,_,_⟩:=(show ObjOk X.prog X.w H s.heap p (.ext (SetG X.w p ns)) from I.hok p _ hq);obtain⟨k,ep,t,ks,e,T,z,f,a1,h4,a0⟩:=hS;have n:k.size=ns.length:=SetI.size (a:=p) (h:=s.heap) z f;obtain⟨j,h1,h2⟩:=z.perm (qFG X.w p ep k);have h7:=T.mask7;refine B87 (PySem.W.kdu_collect (A:=X.A.in1) (qb8 (ep:=ep) T (by lia)) (I.ok.hd hc) e (by rw[n,B94];lia) λh' tk o hk g=>?_)
 refine c _ _ j (I.kept (t':=tk) hk) ?_ (by rw[h2.length_eq,f.length_eq,B94];lia) (h2.trans f)
 obtain⟨l1,l2⟩:=g;refine qUW h1 o.toList ?_ λi v hi=>l2 i v (by rw[<- G8];exact hi)
 rw[C4,l1,(qFG X.w p ep k).length_eq,C4]
theorem qS2 {K:Ab1} (d:X.K=K) (b:X.w=w) (c:X.calm=true):qCQ X (.type "set") (λxs H Q=>∃p ns,xs=[.ref p]/\SqL K H p (ns.map V.int)/\ns.length<=4000/\∀a,H a=none->Q (.ref a) (Ag H a (SetM w a (dedI ns)))):=by
 subst d b;exact qHT c
theorem qMO (b:X.w=w) (c:X.calm=true):qCQ X (.builtin "sorted") (fun xs H Q=>∃ p ns,xs=[.ref p]/\H p=some (SetM w p ns)/\
  ∀(a:Addr) (zs:List Int),H a=none->zs.Perm ns->zs.Pairwise (·<=·)->Q (.ref a) (Ag H a (.lst (zs.map V.int)))):=by
 subst b;exact qFS c
theorem qOX (d:X.A.units<cLine):OpR X (C03 .Eq) (λx y H Q=>∃(p l:Addr) (zs:List Int),x=.ref p/\y=.ref l/\SqL X.K H p (zs.map V.int)/\SqL X.K H l (zs.map V.int)/\Q (.bl true) H):=by
 intro o s σ H x y v u Q I k j h;obtain⟨p,l,zs,rfl,rfl,i,f,q⟩:=h;cases k;cases j;obtain⟨c,b,g,t⟩:=I.list i;obtain⟨r,a,m,n⟩:=I.list f;refine B43 (e:=λ_=>true) g.isList m.isList (by simp[<- b.length,<- a.length]) d (qZV b a) ⟨.bl true,H,I,?_,q⟩
 have:(G9 c.toArray.size).all (λ_=>true)=true:=by simp
 rw[this]
 rfl
structure Ex (B:Heap)(l:List Env)(e:Addr)(cls:Value)(dd:Option Addr)(nt:Bool)(h:Heap):Prop where
 stays:B.StaysIn h
 new:B.get? e=none
 frames:h.FunFrames B l
 rec_:∃(oe:Obj) (vs:Array Value) (x1:Value),h.get? e=some oe/\oe.cls=cls/\oe.dict=dd/\oe.data=.fields vs/\vs[1]?=some x1/\
  ((x1=.none/\nt=false)\/∃(T:Addr) (oT:Obj) (ts:Array Value) (x3:Value),x1=.ref T/\B.get? T=none/\T≠e/\h.get? T=some oT/\oT.data=.fields ts/\ts[3]?=some x3)
def Ex.tail {B:Heap} {env:Env} {l:List Env} {e:Addr} {a:Value} {b:Option Addr} {c:Bool} {h:Heap} (x:Ex B (env::l) e a b c h):Ex B l e a b c h:=⟨x.stays,x.new,x.frames.2.2,x.rec_⟩
section
variable{M:Model}{A:Around}{E:Aa1}{s:Shared}{B:Heap}{env:Env}{outer l:List Env}{L e:Addr}{cls:Value}{dd:Option Addr}{nt:Bool}{Q:Unit->Shared->Prop}
theorem qQT {r:Obj} {vs:Array Value} {p:Value} {m:Bool} (a6:A.frames=some (env::outer))(hl:s.heap.FunFrames B (env::outer))(hf:env.frame=some L)
  (he:s.heap.get? e=some r) (a7:B.StaysIn s.heap) (v:B.get? e=none) (hd:r.data=.fields vs) (hsz:1<vs.size)
  (h:∀h',Ex B (env::outer) e r.cls r.dict true h'->s.heap.UpToSlots h'->Q () {s with heap:=h'}):
  wpAny M A (do let a <- frameOf env;let pl <- entryPlaceOf L m;let b <- B01 p a .none (rawInt L) .none pl;setField (.ref e) 1 b) Q E s:=by
 have u:e∉(env::outer).filterMap (·.frame):=λhm=>by
  obtain⟨_,o,ho,g⟩:=hl.mem hm;rw[he] at ho
  injection ho with ho
  subst ho;exact g vs hd
 refine B87 (wpAny_frameOf_fun a6 hl hf λj n=>B87 (wpAny_entryPlaceOf λpl a3=>?_));unfold B01 newFields;refine B87 (B98 ?_ (a3.sizeOk5 _ _ _ _ _));have y:j.get? e=some r:=(n.2.1 e u).trans he;have x:B.StaysIn j:=λb o i=>(n.2.1 b λhm=>by rw[(hl.mem hm).1] at i;cases i).trans (a7 b o i)
 generalize ht:({cls:=.type "traceback",dict:=none,data:=.fields ([p,.ref L,.none,rawInt L,.none]++(if pl.isEmpty then C7 6 Q3 else pl)).toArray}:Obj)=t
 have a2:∃ts:Array Value,t.data=.fields ts/\∃x3,ts[3]?=some x3:=by
  subst ht;exact⟨_,rfl,rawInt L,by simp⟩
 have a4:t.isFreed=false:=by subst ht;rfl
 have z:=A4 (h:=j) t y;refine C24 z hd hsz ?_;have w:j.objs.size≠e:=V8 (B5 y);have a0:=Q2 hd (·.setIfInBounds 1 (D6 j.objs.size));have a5:=L0 (d7 (·.setIfInBounds 1 (D6 j.objs.size))) z (W2 a0);have a1:=(D5 (j.push t) (d7 (·.setIfInBounds 1 (D6 j.objs.size))) (K9 w)).trans (B7 j a4);have l:∀b o,b≠e->j.get? b=some o->((j.push t).update e (d7 (·.setIfInBounds 1 (D6 j.objs.size)))).get? b=some o:=λb o a8 k=>by
  rw[D5 _ _ (K9 a8)];exact A4 _ k
 have f:∀b o,s.heap.get? b=some o->(∀vs,o.data≠.fields vs)->b≠e:=λb o k g q=>by
  rw[q,he] at k
  injection k with k
  subst k;exact g vs hd
 obtain⟨ts,a9,x3,aa⟩:=a2;refine h _ ⟨λb o i=>l b o (λq=>by rw[q,v] at i;cases i) (x b o i),v,hl.of_keeps λb o k g=>?_,?_⟩ λb o k g=>?_
 ·obtain⟨sl,hs⟩:=n.2.2 b o k;exact⟨_,l b _ (f b o k g) hs,rfl⟩
 ·refine⟨_,_,_,a5,o8 _ _,?_,a0,?_,.inr ⟨j.objs.size,t,ts,x3,rfl,x.fresh,w,a1,a9,aa⟩⟩
  ·obtain⟨c,d,dt,sl⟩:=r;cases dt<;>rfl
  ·simp[hsz]
 ·obtain⟨sl,hs⟩:=n.2.2 b o k;exact⟨sl,l b _ (f b o k g) hs⟩
theorem qPE (k:A.frames=some (env::outer))(v:env.frame=some L)(x:Ex B (env::outer) e cls dd nt s.heap)(h:∀h',Ex B (env::outer) e cls dd true h'->s.heap.UpToSlots h'->Q () {s with heap:=h'}):
  wpAny M A (noteFrame (.ref e) env) Q E s:=by
 obtain⟨oe,p,y,n,rfl,rfl,r,u,hx⟩:=x.rec_;have m:1<p.size:=(V0.mp u).1;unfold noteFrame;simp only[v];refine B87 (B99 n r u ?_);rcases hx with⟨rfl,_⟩|⟨T,oT,z,x3,rfl,l,j,t,g,w⟩
 ·rw[if_neg (by decide)]
  exact qQT k x.frames v n x.stays x.new r m h
 ·rw[if_pos (show(D6 T != Q3)=true from by simp)]
  refine B87 (B99 t g w (wpAny_ite_split (λ_=>?_) (λ_=>?_)))
  ·exact B88 (h _ ⟨x.stays,x.new,x.frames,oe,p,_,n,rfl,rfl,r,u,.inr ⟨T,oT,z,x3,rfl,l,j,t,g,w⟩⟩ (B85 _))
  ·refine B87 (C24 t g (V0.mp w).1 ?_);have c:∀b,b≠T->(s.heap.update T (d7 (·.setIfInBounds 3 Q3))).get? b=s.heap.get? b:=λb f=>D5 _ _ (K9 f);have a:∀b o,s.heap.get? b=some o->(∀p,o.data≠.fields p)->b≠T:=λb o f d q=>by
    rw[q,t] at f
    injection f with f
    subst f;exact d z g
   refine qQT k (x.frames.of_keeps λb o f d=>⟨o,(c b (a b o f d)).trans f,rfl⟩) v ((c e (K9 j)).trans n)
    (λb o i=>(c b λq=>by rw[q,l] at i;cases i).trans (x.stays b o i)) x.new r m
    λh' y x2=>h h' y λb o f d=>x2 b o ((c b (a b o f d)).trans f) d
theorem qFP {f:Option Addr} (x:Ex B l e cls dd true s.heap)(h:∀h',Ex B l e cls dd true h'->s.heap.UpToSlots h'->Q () {s with heap:=h'}):wpAny M A (setFlight (.ref e) f) Q E s:=by
 obtain⟨y,p,x1,u,rfl,rfl,v,t,hx⟩:=x.rec_;rcases hx with⟨_,z⟩|⟨T,oT,w,x3,rfl,n,m,r,i,h3⟩
 ·cases z
 have j:3<w.size:=(V0.mp h3).1;unfold setFlight;refine B87 (B99 u v t ?_);rw[if_pos (show(D6 T != Q3)=true from by simp)]
 have c:∀b,b≠T->(s.heap.update T (d7 (·.setIfInBounds 3 (f.elim Q3 λf=>rawInt f)))).get? b=s.heap.get? b:=λb d=>D5 _ _ (K9 d);have a:∀b o,s.heap.get? b=some o->(∀p,o.data≠.fields p)->b≠T:=λb o d g q=>by
  rw[q,r] at d
  injection d with d
  subst d;exact g w i
 refine C24 r i j (h _ ⟨fun b o k=>(c b fun q=>by rw [q,n] at k;cases k).trans (x.stays b o k),x.new,
  x.frames.of_keeps λb o d g=>⟨o,(c b (a b o d g)).trans d,rfl⟩,y,p,_,(c e (K9 m)).trans u,rfl,rfl,v,t,.inr ⟨T,_,_,f.elim Q3 (λf=>rawInt f),rfl,n,m,L0 _ r (W2 (Q2 i _)),Q2 i _,by simp[j]⟩⟩
  λb o d g=>⟨o.slots,(c b (a b o d g)).trans d⟩)
theorem qX3 (a:A.frames=some (env::outer))(j:env.frame=some L)(x:Ex B (env::outer) e cls dd nt s.heap)(h:∀h',Ex B outer e cls dd true h'->s.heap.UpToSlots h'->Q () {s with heap:=h'}):
  wpAny M A (leaving env (.ref e)) Q E s:=by
 unfold leaving;exact B87 (qPE a j x λg c d=>qFP (s:={s with heap:=g}) c λb f i=>h b f.tail (d.trans i))
theorem qa7 (x:Ex B l e cls dd true s.heap)(h:∀h',Ex B l e cls dd true h'->s.heap.UpToSlots h'->E (.ref e) {s with heap:=h'}):cameBackBy M A env E (.ref e) s:=by
 obtain⟨k,p,m,a,_,_,g,f,i⟩:=x.rec_;rcases i with⟨_,z⟩|⟨T,j,q,n,rfl,c,b,r,d,o⟩
 ·cases z
 unfold cameBackBy;refine B87 (B99 a g f ?_);rw[if_neg (show¬((D6 T==Q3)=true) from by simp)]
 exact qFP x h
end
theorem ObjOk.has {H:Hp} {h:Heap} {a:Addr} {o:HO} (x:ObjOk P w H h a o):∃u,h.get? a=some u:=by
 cases o with
 |lst xs=>obtain⟨_,_,_,_,e⟩:=x;exact⟨_,e⟩
 |tup xs=>obtain⟨_,_,_,b,e,_⟩:=x;exact⟨_,e⟩
 |dK Af=>obtain⟨_,_,_,_,o,_,_,e,_⟩:=x;exact⟨_,e⟩
 |dT Af=>obtain⟨_,_,_,_,o,_,_,e,_⟩:=x;exact⟨_,e⟩
 |set S n=>obtain⟨o,_,_,_,e,_⟩:=x;exact⟨_,e⟩
 |ins C dx fs=>obtain⟨_,_,_,e,_⟩:=x;exact⟨_,e⟩
 |own y=>obtain⟨_,e⟩:=x;exact⟨_,e⟩
 |xd fs=>obtain⟨_,⟨_,_,_,e,_⟩,_⟩:=x;exact⟨_,e⟩
 |rng lo hi=>obtain⟨_,_,_,e⟩:=x;exact⟨_,e⟩
 |frz b u=>exact⟨_,x.1⟩
 |tbl t=>
  cases t with
  |tab q=>obtain⟨_,e,_⟩:=x;exact⟨_,e⟩
  |cod q=>obtain⟨c,o,_,_,e,g,_⟩:=x;cases e;exact⟨_,g⟩
 |met f y=>exact⟨_,show h.get? a=some (m7 (.ref f) (.ref y)) from x⟩
 |ext φ=>exact x.2.1
def Kp (outer:List Env)(H':Hp)(h0:Heap)(b:Addr):Prop:=(∃o,H' b=some o)\/((∃o,h0.get? b=some o)/\b∉frs outer)
structure XD (P:B90)(w:World)(outer l:List Env)(H:Hp)(h0:Heap)(e:Addr)(cls:Value)(dd:Option Addr)(H':Hp)(B:Heap)(nt:Bool)(h:Heap):Prop where
 un:Un (frs outer) [] H H' h0 h
 hok:HOk P w H' h
 ex:Ex B l e cls dd nt h
 kp:∀b o,h.get? b=some o->Kp outer H' h0 b->B.get? b=some o
 ne:H' e=none
 ge:h0.objs.size<=e
theorem XD.step {c l l':List Env} {H:Hp} {y:Heap} {e:Addr} {f:Value} {dd:Option Addr} {H':Hp} {B:Heap} {nt p:Bool} {h h':Heap} (x:XD P w c l H y e f dd H' B nt h)
  (ex:Ex B l' e f dd p h') (u:h.UpToSlots h') (hs:∀b∈frs c,b∈frs l):XD P w c l' H y e f dd H' B p h':=by
 have t:∀b o,h.get? b=some o->Kp c H' y b->h'.get? b=some o:=λb o q k=>ex.stays b o (x.kp b o q k);have i:∀b,Kp c H' y b->∃o,h.get? b=some o:=λb k=>by
  rcases k with⟨o,q⟩|⟨⟨o,q⟩,_⟩
  ·exact(x.hok b o q).has
  ·exact x.un.there b o q (by simp)
 have fr:∀b o,h.get? b=some o->b∈frs c->∃sl,h'.get? b=some {o with slots:=sl}:=λb o q m=>by
  obtain⟨_,o',s,hd⟩:=x.ex.frames.mem (hs b m);rw[q] at s;cases s;exact u b o q hd
 refine⟨⟨λb o q n nf j=>t b o (x.un.keep b o q n nf j) (.inr ⟨⟨o,q⟩,nf⟩),λb o q n m j=>?_,x.un.free,λb o q j=>?_,x.un.tups,x.un.frzs,x.un.tbls⟩,λa o q=>?_,ex,λb o q k=>?_,x.ne,x.ge⟩
 ·obtain⟨sl,d⟩:=x.un.slot b o q n m j;obtain⟨a0,q2⟩:=fr b _ d m;exact⟨a0,q2⟩
 ·obtain⟨g,d⟩:=x.un.there b o q j;by_cases m:b∈frs c
  ·obtain⟨sl,q2⟩:=fr b g d m;exact⟨_,q2⟩
  ·exact⟨g,t b g d (.inr ⟨⟨o,q⟩,m⟩)⟩
 ·refine(x.hok a o q).stay (λb v hb r=>t b v r ?_) (λ_ z=>z) λ_ _ z=>z;rcases hb with rfl|hb
  ·exact .inl ⟨o,q⟩
  ·exact .inl ⟨_,hb⟩
 ·obtain⟨g,d⟩:=i b k;have:=t b g d k;rw[q] at this;cases this;exact x.kp b o d k
def CX1 (P:B90)(w:World):CXT:=λouter H s E ev s'=>∃(e:Addr) (cls:Value) (dd:Option Addr) (H':Hp) (B:Heap) (nt:Bool),ev=.ref e/\s'.os=s.os/\C46 s'.gens/\XD P w outer outer H s.heap e cls dd H' B nt s'.heap/\E cls dd H'
def XP (X:Cx)(G:XK)(ev:Value)(s':Shared):Prop:=X.A.frames=some X.stack/\∃(e:Addr) (cls:Value) (dd:Option Addr) (H':Hp) (B:Heap) (nt:Bool),ev=.ref e/\s'.os=X.s₀.os/\C46 s'.gens/\XD X.prog X.w X.outer X.stack X.H₀ X.s₀.heap e cls dd H' B nt s'.heap/\G cls dd H'
section
variable{X:Cx}{E:XK}{G:XK}{Ab:Aa2}{σ:St}{H:Hp}{s s':Shared}
theorem PassesOwn.xp (a:X.stack=X.env::X.outer)(h:X.env.frame=some X.env.locals):PassesOwn (model X.prog X.w) X.A X.env (XP X G):=by
 rintro ev s1 ⟨hfr,e,cls,dd,H',B,nt,rfl,ho,hg,x,g⟩;have k:∀b∈frs X.outer,b∈frs X.stack:=λb f=>by
  rw[a];unfold frs at f ⊢;rw[Y6,h];exact A7 _ f
 have c:=x.ex;rw[a] at c;unfold notedBy;refine qPE (hfr.trans (by rw[a])) h c λl i j=>qa7 (s:={s1 with heap:=l}) i λn d m=>?_
 rw[<- a] at d;exact⟨hfr,e,cls,dd,H',B,true,rfl,ho,hg,x.step d (j.trans m) k,g⟩
theorem qdI (i:X.stack=X.env::X.outer)(m:X.env.frame=some X.env.locals)(a:X.ex=[]):qLR (CX1 X.prog X.w) (X.wish (XP X G)) G:=by
 rintro Ab σ H s ev s1 I ⟨e,cls,dd,H',B,nt,rfl,ho,hg,x,g⟩;have I:=I.unwish;have d:Inv X Ab σ H' s1:=I.call' ho x.un x.hok hg λb j=>absurd j (by simp)
 refine⟨I.ok.frames,e,cls,dd,H',B,nt,rfl,d.os,hg,⟨?_,x.hok,x.ex,λb o q k=>x.kp b o q ?_,x.ne,L5 I.sz x.ge⟩,g⟩
 ·have:=d.base;rw[a] at this;exact this
 ·rcases k with k|⟨⟨u,hu⟩,nf⟩
  ·exact .inl k
  ·obtain⟨l,c⟩:=I.base.there b u hu (by rw[a];simp)
   refine .inr ⟨⟨l,c⟩,λf=>?_⟩;rcases B9.mp (I.stkSub b f) with z|z
   ·have:=B5 hu;have h:=I.ok.above;rw[z] at this;exact absurd this (B19.mpr h)
   ·exact nf z
end
section
variable{P:B90}{w:World}{K:Ab1}{mg:Ab0}{base:Heap}
theorem qcW {N:List Str} {d:Str} {c:Scope} {f:Addr} {h:Value} {a:List Env} {H:Hp} {E:XK} {k:Value} 
  (q:XP (cxOf (CX1 P w) P w K mg base N d c f h A a s H E) E k s'):(cxOf (CX1 P w) P w K mg base N d c f h A a s H E).xe k s':=by
 obtain⟨i,e,j,p,n,B,v,rfl,t,m,x,g⟩:=q;exact qX3 (L:=s.heap.objs.size) i rfl x.ex λu l o=>⟨e,j,p,n,B,true,rfl,t,m,x.step l o λb r=>A7 _ r,g⟩
noncomputable abbrev cxX (P:B90)(w:World)(K:Ab1)(mg:Ab0)(base:Heap)(N:List Str)(d:Str)(c:Scope)(f:Addr)(h:Value)(A:Around)(a:List Env)(s:Shared)(H:Hp)(E:XK):Cx:=
 (cxOf (CX1 P w) P w K mg base N d c f h A a s H E).wish (XP (cxOf (CX1 P w) P w K mg base N d c f h A a s H E) E)
theorem Fun.okX {x a:Str} {st:Stmt} {f:Addr} {g:C02} {N ps:List Str} {k:Nat} {sp:Sp} (F:Fun K x a st f g)(S:FnScope N ps (qAC st))(e:∀vs H Q E,sp vs H Q E->vs.length=ps.length)
  (b:∀ (cdv:Value) (A:Around) (outer:List Env) (s:Shared) (H:Hp) (vs:List V) (Q:VK) (E:XK),Room k (A.deeper (envOfC a (qAC st) s.heap.objs.size f cdv))->sp vs H Q E->
   ∃t,PSs (cxX P w K mg base N a (qAC st) f cdv A outer s H E) (qDY st) t/\t {nx:=λ_ H'=>Q .non H',rt:=Q} (start N vs) H):FnOk P w K mg base (CX1 P w) (k+1) f g ps sp:=by
 obtain⟨v,od,z,i,u,an,cdv,y,m,rfl,j,c⟩:=F.ex;refine qcP j c S e λA outer s H vs Q E n d=>?_;obtain⟨t,h,q⟩:=b cdv A outer s H vs Q E n d;exact⟨t,λo p σ r D I l=>B96 (h o p σ r D (I.wish _) l) (λ_ _ q=>q.unwish) λev s2 q=>qcW q,q⟩
def qTG {N:List Str} {c:Str} {b:Scope} {f:Addr} {d:Value} {a:List Env} {H:Hp} {E:XK} :qLR (CX1 P w) (cxX P w K mg base N c b f d A a s H E) E:=qdI rfl rfl rfl
def own1 {N:List Str} {c:Str} {b:Scope} {f:Addr} {d:Value} {a:List Env} {H:Hp} {E:XK} :PassesOwn (model (cxX P w K mg base N c b f d A a s H E).prog (cxX P w K mg base N c b f d A a s H E).w) (cxX P w K mg base N c b f d A a s H E).A (cxX P w K mg base N c b f d A a s H E).env (cxX P w K mg base N c b f d A a s H E).xe:=
 PassesOwn.xp (X:=cxOf (CX1 P w) P w K mg base N c b f d A a s H E) rfl rfl
end
def ExcO (e:Addr)(cls:Value)(dd:Option Addr):HO:=.ext λh=>∃(oe:Obj) (vs:Array Value),h.get? e=some oe/\oe.cls=cls/\oe.dict=dd/\oe.data=.fields vs
def qa6 {H:Hp} {h:Heap} {e:Addr} {g:Value} {i:Option Addr} {f:Obj} {vs:Array Value} (j:h.get? e=some f)(l:f.cls=g)(n:f.dict=i)(m:f.data=.fields vs):ObjOk P w H h e (ExcO e g i):=
 ⟨⟨f,vs,j,l,n,m⟩,⟨f,j⟩,λ_ _ ⟨o,ws,a,b,c,d⟩ k=>⟨o,ws,k _ a,b,c,d⟩⟩
abbrev Cx.held (X:Cx)(ev:Value):Cx:={X with A:=X.A.mark (some ev),calm:=false}
section
variable{X:Cx}{Ab:Aa2}{σ:St}{H:Hp}{s:Shared}{ev:Value}
def Inv.held (I:Inv X Ab σ H s)(a:Value):Inv (X.held a) Ab σ H s:=
 ⟨⟨I.ok.mod,I.ok.kind,I.ok.glob,I.ok.blt,I.ok.above,I.ok.inj,I.ok.has,I.ok.cab,(λz=>nomatch z),I.ok.frames,I.ok.stk,I.ok.exf,I.ok.bs,I.ok.bsz,I.ok.noex,I.ok.exfs,I.ok.funs,I.ok.frf⟩,I.os,I.bare,I.base,I.loc,I.cell,I.free,I.freeC,I.pin,I.hok,I.len⟩
def Inv.unheld (a:X.Ok)(I:Inv (X.held ev) Ab σ H s):Inv X Ab σ H s:=⟨a,I.os,I.bare,I.base,I.loc,I.cell,I.free,I.freeC,I.pin,I.hok,I.len⟩
theorem Inv.goes {M:Model} {j:Nat} {n:Str} {a1:Pos} {Q:Unit->Shared->Prop} (I:Inv X Ab σ H s)(hN:X.N.Nodup)(hj:X.N[j]?=some n)(w:X.env.scope.names.lookup n=some .local)
  (h:∀s',Inv X Ab (σ.set j none) H s'->Q () s'):wpAny M A (do bindName X.env n .none;unbindBehindTheSuite X.env n a1) Q E s:=by
 refine B87 (wpAny_bindName (qJ7 (v:=.non) I hN hj (.inl w) rfl (λs1 a=>?_) (.inr w)));unfold unbindBehindTheSuite;refine C43 ?_;obtain⟨m,hn,g⟩:=id a.loc;have x:j<σ.length:=by rw[I.len];exact(A3.mp hj).1
 have hv:∃v,m n=some v:=by
  obtain⟨u,_,z|⟨z,_⟩⟩:=g j n .non hj (by rw[U8 x]) (.inl w)
  ·exact⟨u,z.2⟩
  ·have:X.env.scope.names.lookup n=some .cell\/X.env.scope.names.lookup n=some .free:=z;rw[w] at this;rcases this with z|z<;>cases z
 obtain⟨v,hv⟩:=hv;have a0:(X.env.scope.kind == .class||(X.env.scope.kind == .module&&X.env.locals != X.env.globals))=false:=by rw[I.ok.kind];rfl
 refine wpAny_unbindName_local w hn hv a0 λh' u t f=>h _ ?_;obtain⟨oL,es,ep,a4,r⟩:=id hn;obtain⟨a5,_,_,a3,_⟩:=id t;have lo:∀b ob,X.s₀.heap.get? b=some ob->b≠X.env.locals:=λb ob e=>D7 (F9 (B5 e) I.ok.above);refine⟨a.ok,a.os,a.bare,⟨λb o e n' hb l=>?_,λb o e n' hb l=>?_,a.base.free,λb o e l=>?_,a.base.tups,a.base.frzs,a.base.tbls⟩,⟨_,t,λk y v' d e2 e3=>?_⟩,λy c e=>?_,a.free,a.freeC,λp hp=>?_,λb ob e=>?_,by simpa using I.len⟩
 ·exact(f.2 b (lo b o e)).trans (a.base.keep b o e n' hb l)
 ·obtain⟨sl,d⟩:=a.base.slot b o e n' hb l;exact⟨sl,(f.2 b (lo b o e)).trans d⟩
 ·obtain⟨o',d⟩:=a.base.there b o e l;exact⟨o',(f.2 b (lo b o e)).trans d⟩
 ·by_cases hk:k=j
  ·subst hk;rw[U8 x] at e2;cases e2
  ·rw[d9 (K9 hk)] at e2;obtain⟨u',r',q⟩:=g k y v' d (by rw[d9 (K9 hk)];exact e2) e3
   refine⟨u',r',?_⟩;have a2:y≠n:=λz=>hk ((p9 (A3.mp d).1 hN).mp (by rw[d,hj,z]))
   rcases q with⟨q1,q2⟩|⟨q1,c,q2,i⟩
   ·exact .inl ⟨q1,(if_neg a2).trans q2⟩
   ·obtain⟨oc,i,q4⟩:=i;exact .inr ⟨q1,c,q2,oc,(f.2 c (I.cne y c q2)).trans i,q4⟩
 ·obtain⟨v,oc,i,q4⟩:=a.cell y c e;exact⟨v,oc,(f.2 c (I.cne y c e)).trans i,q4⟩
 ·obtain⟨d,n1,n2,r⟩:=a.pin p hp;exact⟨(f.2 p.1 n2).trans d,n1,n2,r⟩
 ·refine(a.hok b ob e).stay (λc w' hc q=>(f.2 c ?_).trans q) (λ_ q=>q) λ_ _ q=>q;rintro rfl;rcases hc with rfl|hc
  ·rw[a.free] at e;cases e
  ·rw[a.free] at hc;cases hc
theorem Inv.lands {Q:Unit->Shared->Prop} {EE:Aa1} {E:XK} {G:XK} {H1:Hp} (I:Inv X Ab σ H1 s1)(a:X.stack=X.env::X.outer)(r:X.env.frame=some X.env.locals)(q:CX1 X.prog X.w X.stack H1 s1 G ev d)
  (h:∀e cls dd H2 B s3,ev=.ref e->Inv X Ab σ H2 s3->XD X.prog X.w X.stack X.stack H1 s1.heap e cls dd H2 B true s3.heap->G cls dd H2->Q () s3):
  wpAny (model X.prog X.w) X.A (noteFrame ev X.env) (λ_ s3=>wpAny (model X.prog X.w) X.A (setFlight ev none) Q EE s3) EE d:=by
 obtain⟨e,cls,dd,H2,B,t,rfl,p,l,x,g⟩:=q;have c:=x.ex;rw[a] at c;refine qPE (I.ok.frames.trans (by rw[a])) r c λo n j=>qFP (s:={d with heap:=o}) n λm i k=>?_
 rw[<- a] at i;have y:=x.step i (j.trans k) λb f=>f;exact h e cls dd H2 B _ rfl (I.call' (s':={d with heap:=m}) p y.un y.hok l λb f=>absurd f (by simp)) y g
theorem Inv.caught {H1 H2:Hp} {h:Heap} {e:Addr} {a:Value} {g:Option Addr} {B:Heap} {r:Bool} (I:Inv X Ab σ H2 s)(I0:∃s1,Inv X Ab σ H1 s1/\s1.heap=h)(x:XD X.prog X.w X.stack X.stack H1 h e a g H2 B r s.heap):Inv X Ab σ (Ag H2 e (ExcO e a g)) s:=by
 obtain⟨s1,d,rfl⟩:=I0;obtain⟨oe,vs,x1,k,i,l,u,_⟩:=x.ex.rec_;have f:∀b ob,s1.heap.get? b=some ob->b≠e:=λb ob q=>D7 (F9 (B5 q) x.ge);refine I.track x.ne (L5 d.sz x.ge) (λz=>?_) (λy c q z=>?_) (λp j z=>?_) (qa6 k i l u)
 ·obtain⟨m,⟨o,_,_,t,_⟩,_⟩:=d.loc;exact f _ _ t z.symm
 ·obtain⟨v,oc,n,_⟩:=d.cell y c q;exact f _ _ n z
 ·exact f _ _ (d.pin p j).1 z
end
def Ends.off (D:Ends):Option Nat->Ends
 |none=>D
 |some j=>{nx:=λσ H=>D.nx (σ.set j none) H,rt:=D.rt,bk:=λσ H=>D.bk (σ.set j none) H,ct:=λσ H=>D.ct (σ.set j none) H}
def onE (σ:St)(e:Addr):Option Nat->St
 |none=>σ
 |some j=>σ.set j (some (.ref e))
theorem SP.back {Ab:Aa2} {D:Ends} {f:Flow} {c:Value} (b:X.Ok)(h:SP (X.held c).nox Ab D f s'):SP X Ab D f s':=by
 cases f with
 |next=>obtain⟨σ',a,I,q⟩:=h;exact⟨σ',a,I.unwish.unheld b,q⟩
 |brk=>obtain⟨σ',a,I,q⟩:=h;exact⟨σ',a,I.unwish.unheld b,q⟩
 |cont=>obtain⟨σ',a,I,q⟩:=h;exact⟨σ',a,I.unwish.unheld b,q⟩
 |ret u=>obtain⟨v,σ',a,I,r,q⟩:=h;exact⟨v,σ',a,I.unwish.unheld b,r,q⟩
def bmV:List Value:=[.type "ValueError",.type "Exception",.type "BaseException",.type "object"]
noncomputable def xcIn (K:Ab1)(C:Addr)(init:Option Value):Bool:=match K.lookup C with
 | some ⟨.type "type",_,.cls cd,sl⟩=>(match cd.mro,sl.toList with
  |.ref C'::bm,[_,_,_,_,some (.builtin n),_]=>C'==C&&n == "ValueError.__new__" && !cd.hasDel&&cd.hasDict&&PySem.W.tailIn K bmV bm&&PySem.W.nsOkIn K cd.ns&&W5 K cd.ns "__init__" == some init
  |_,_=>false)
 |_=>false
structure XCls (K:Ab1)(C:Addr)(init:Option Value):Prop where
 cls:xcIn K C init=true
 set:P0 K (.ref C) "__setattr__" = some (some (.builtin "object.__setattr__"))
 kp:J1 K (.ref C)=true
theorem qRK {K:Ab1} {h:Heap} {N:Addr} {mg:Ab0} {n:Str} {v:Value} (X:K.In h)(G:h.Ns N mg)(e:W5 K N n=some (some v)):mg n=some v:=by
 obtain⟨o,g,i,b,a,_,f⟩:=G;unfold W5 at e
 split at e
 ·rename_i c d es' n' sl q
  have:=X _ _ q;rw[b] at this;cases this;cases a
  split at e
  ·rename_i en he
   cases e;rw[<- f];unfold nsFind findBy;rw[<- B07,he]
   rfl
  ·split at e
   ·cases e
   ·cases e
 ·cases e
theorem qaT {K:Ab1} {h:Heap} {C:Addr} {a:Option Value} (X:K.In h)(q:xcIn K C a=true):∃(bm:List Value) (N:Addr) (nm qn:Str) (bs:List Value) (sn:List Str) (sub:List Value) (ab:Bool) (col:Option Bool) (dd:Option Addr) (k0 k1 k2 k3 k5:Option Value) (mN:Ab0),
  h.get? C=some (excClassObj nm qn C N bs bm true sn sub ab col dd k0 k1 k2 k3 k5 "ValueError.__new__")/\h.Ns N mN/\mN "__init__" = a/\OwnTail h bmV bm:=by
 unfold xcIn at q
 split at q
 ·rename_i dd cd sl ho
  split at q
  ·rename_i C' bm k0 k1 k2 k3 n k5 hm hs
   simp only[C6,beq_iff_eq,B20] at q;obtain⟨⟨⟨⟨⟨⟨rfl,rfl⟩,c⟩,e⟩,k⟩,b⟩,d⟩:=q;obtain⟨nm,bs,i,j,qn,m,sn,sub,ab,col,g⟩:=cd;dsimp only at hm c b d e;subst hm c e;have f:sl=#[k0,k1,k2,k3,some (.builtin "ValueError.__new__"),k5]:=by
    obtain⟨l⟩:=sl;simp only at hs;rw[hs]
   subst f;refine⟨bm,j,nm,qn,bs,sn,sub,ab,col,dd,k0,k1,k2,k3,k5,_,X _ _ ho,.of_isNs (B11 X b),?_,PySem.W.tail_of_in X k⟩;cases a with
   |none=>exact PySem.W.nsMap_none_of_in X b d
   |some v=>exact qRK X (.of_isNs (B11 X b)) d
  ·cases q
 ·cases q
noncomputable abbrev excObj (C t:Addr)(dd:Option Addr):Obj:={cls:=.ref C,dict:=dd,data:=.fields #[.ref t,.none,.none,.none,.bool false,.none]}
abbrev argObj (rest:List Value):Obj:={cls:=.type "tuple",data:=.seq rest.toArray}
section
variable{M:Model}{A:Around}{E:Aa1}{env:Env}{K:Ab1}{C:Addr}{init:Option Value}
theorem qaR {x:Sem Value} {Q:Flow->Shared->Prop} (p:A.handled=none)(c:xcIn K C init=true)
  (h:wpAny M A x (λv s₁=>∃e t dd,v=.ref e/\K.In s₁.heap/\s₁.heap.get? e=some (excObj C t dd)/\E (.ref e) s₁) E s):
  wpAny M A (raiseStmt env (some x) none) Q E s:=by
 unfold raiseStmt;refine B87 (B96 h (λv s₁ k=>?_) λ_ _ x=>x);obtain⟨e,t,n,rfl,X,m,u⟩:=k;obtain⟨l,N,nm,w,bs,sn,r,ab,q,dd,k0,k1,k2,k3,z,y,i,hn,j,T⟩:=qaT X c;have f:(D6 C::l).contains (.type "BaseException")=true:=by rw[List.contains_cons,T.hasType (X:="BaseException") (b:=true) (by decide +kernel),Bool.or_true]
 obtain⟨o,g,d,tk,os⟩:=s₁;have a:o.get? e=some {cls:=.ref C,dict:=n,data:=.fields #[.ref t,.none,.none,.none,.bool false,.none]}:=m
 repeat (first|with_reducible refine C31 a ?_|with_reducible refine C31 i ?_|(with_reducible refine wpAny_isSubtype_exc i ?_;rw[f])|wp_step)
 exact wpAny_raiseNew_none p u
end
section
variable{X:Cx}{Ab:Aa2}{σ:St}{H:Hp}{s:Shared}
theorem Inv.flies {e C t:Addr} {f:Option Addr} {G:XK} (I:Inv X Ab σ H s)(h:X.ex=[])(m:s.heap.get? e=some (excObj C t f))(j:H e=none)(d:X.s₀.heap.objs.size<=e)(u:e∉frs X.stack)(g:G (.ref C) f H):XP X G (.ref e) s:=by
 have n:∀b,Kp X.outer H X.s₀.heap b->b∉e::frs X.stack:=λb k v=>by
  rcases B9.mp v with z|z
  ·rcases k with⟨o,q⟩|⟨⟨o,q⟩,_⟩
   ·rw[z,j] at q;cases q
   ·rw[z] at q;exact absurd (B5 q) (B19.mpr d)
  ·rcases k with⟨o,q⟩|⟨⟨o,q⟩,p⟩
   ·rw[I.stkFree b z] at q;cases q
   ·rcases B9.mp (I.stkSub b z) with z2|z2
    ·rw[z2] at q;exact absurd (B5 q) (B19.mpr I.ok.above)
    ·exact p z2
 have l:=I.base;rw[h] at l;refine⟨I.ok.frames,e,.ref C,f,H,B40 s.heap (e::frs X.stack),false,rfl,I.os,I.bare,⟨l,I.hok,⟨λb o q=>B05 _ q,A80 _ (by simp),?_,_,_,.none,m,rfl,rfl,rfl,rfl,.inl ⟨rfl,rfl⟩⟩,λb o q k=>A95 _ q (n b k),j,d⟩,g⟩
 exact PySem.W.funFrames_hide I.stack λi c a r=>A7 _ (V9.mpr ⟨i,c,r⟩)
end
structure XGet (K:Ab1)(C:Addr):Prop where
 ga:P0 K (.ref C) "__getattribute__" = some (some (.builtin "BaseException.__getattribute__"))
 gt:P0 K (.ref C) "__getattr__" = some none
 be:y8 K C (.type "BaseException")=some true
 hd:A29 K C=true
structure XTy (K:Ab1)(C:Addr):Prop extends XGet K C where
 ca:P0 K (.ref C) "__class__" = some (some (.builtin "object.__class__"))
 cn:m8 K (.builtin "object.__class__") "__get__" = some (some (.builtin "getset_descriptor.__get__"))
 ct:A68 K (.builtin "object.__class__")=some true
 cm:y8 K C (.type "object")=some true
structure RoomH (k:Nat)(A:Around):Prop where
 dp:A.depth+3*k+5<recursionLimit
 un:A.units+16*k+200<cLine
structure FnOkH (P:B90)(w:World)(K:Ab1)(mg:Ab0)(base:Heap)(CX:CXT)(k:Nat)(f:Addr)(fd:C02)(ps:List Str)(sp:Sp):Prop where
 len:∀vs H Q E,sp vs H Q E->vs.length=ps.length
 run:∀(A:Around) (outer:List Env) (s:Shared) (H:Hp) (args:Args) (us:List Value) (vs:List V) (Q:VK) (E:XK),RoomH k A->Env0 P w K mg base A outer s H->BindsTo s fd args (ps.zip us)->Vals vs us->sp vs H Q E->
  C18 (model P w) A (.call (.ref f) args) (CR CX outer P w H s Q E) s
theorem qMN (t:X.calm=true):qCQ X (.builtin "sum") (λxs H Q=>∃(p:Addr) (ns:List Int),xs=[.ref p]/\SqL X.K H p (ns.map V.int)/\Q (.int ns.sum) H):=by
 intro w s σ H xs v Q I r h;obtain⟨p,ns,rfl,g,q⟩:=h;obtain⟨u,rfl,m⟩:=qEC r;cases m;obtain⟨c,j,n,x⟩:=I.list g;have d:=qDV j;obtain⟨xs,f⟩:=d.allInts.items;have a:s.heap.IsList p (intItems xs):=f▸n.isList;refine sum_intListG (I.ok.hd t) a λh' y z k=>?_;have l:ns=xs.toList.map (·.1):=by
  rw[<- nums_intItems,<- f];exact(show numsOf c.toArray.toList=ns from d.numsOf).symm
 have i:preSum (numAt xs) xs.size=ns.sum:=by
  rw[preSum_eq,F7 (by simp),l]
 rw[i];exact⟨.int ns.sum,H,I.kept λb o e=>k b o e,⟨_,rfl⟩,q⟩
structure LcScopeO (X:Cx)(scope:Scope)(own:List Str)(fv:List Nat):Prop where
 kind:scope.kind=.function
 names:∀y∈scope.names,y.2=.local->scope.names.lookup y.1=some .local
 cells:∀y∈scope.names,y.2=.cell->scope.names.lookup y.1=some .cell
 frees:∀y∈scope.names,y.2=.free->scope.names.lookup y.1=some .free
 free:∀y∈scope.names,y.2=.free->X.env.kindOf y.1=some .cell\/X.env.kindOf y.1=some .free
 nd:(own++fv.map λi=>X.N.getD i Z2).Nodup
 fvs:∀i∈fv,i<X.N.length/\scope.names.lookup (X.N.getD i Z2)=some .free
 owns:∀x∈own,scope.names.lookup x=some .local\/scope.names.lookup x=some .cell
theorem qYA:B97 "any" = some (.builtin "any"):=by decide +kernel
theorem qVI:B97 "sum" = some (.builtin "sum"):=by decide +kernel
theorem qRE (d:List Bool):((G9 d.length).any λi=>(d[i]?).getD false)=d.any id:=by
 rw[R8,R1,R1]
 constructor
 ·rintro⟨i,c,h⟩;have a:=G3.mp c;rw[A5 a] at h;exact⟨_,A50 a,h⟩
 ·rintro⟨b,f,h⟩;obtain⟨i,c,e⟩:=U4 f;exact⟨i,G3.mpr c,by rw[A5 c,e];exact h⟩
theorem qR0 (z:X.calm=true):qCQ X (.builtin "any") (λxs H Q=>∃(p:Addr) (bs:List Bool),xs=[.ref p]/\SqL X.K H p (bs.map V.bl)/\Q (.bl (bs.any id)) H):=by
 intro Ab s σ H xs us Q I r h;obtain⟨p,bs,rfl,hq,q⟩:=h;obtain⟨u,rfl,w⟩:=qEC r;cases w;obtain⟨c,l,o,hz⟩:=I.list hq;have j:=o.isList;have g:p<s.heap.objs.size:=by obtain⟨_,e,_⟩:=j;exact B5 e
 have a:=l.length;rw[A0] at a;refine call_any_walk (C23 j ?_);refine⟨s.heap.objs.size,[s.heap.objs.size,p],[s.heap.objs.size],c.toArray.size,_,_,λi=>(bs[i]?).getD false,rfl,A79 (A:=X.A.in1) (I.ok.hd z) _ p (D7 g) c.toArray,
  ⟨⟨_,B7 _ rfl,rfl,rfl⟩,j.push _⟩,λi v s' Q' E' n f=>?_,λh' tk t=>?_⟩
 ·have d:c[i]?=some v:=by simpa using n
  have k:i<bs.length:=by rw[a];exact(A3.mp d).1
  obtain⟨u,m,ru⟩:=l.get (i:=i) (x:=.bl bs[i]) (by rw[C0,A5 k];rfl)
  rw[d] at m;cases m;cases ru;dsimp only at f;rw[A5 k,x5] at f;exact C08 f
 ·have e:((G9 c.toArray.size).any λi=>(bs[i]?).getD false)=bs.any id:=by
   rw[B6,<- a];exact qRE bs
  refine⟨.bl (bs.any id),H,I.kept λb x e=>t b x (λy=>by rw[A6.mp y] at e;exact Y5 _ (B5 e)) (A4 _ e),?_,q⟩
  rw[e]
  rfl
def qe7 (H:Hp) (a:Addr) (xs:List V):Prop:=∃o:Obj,H a=some (.frz o (.tup xs))/\o.cls=.type "tuple"/\o.dict=none
theorem qNJ:OpR X (C03 .IsNot) (λx y H Q=>∃a b:Bool,x=.bl a/\y=.bl b/\Q (.bl (a != b)) H):=by
 intro e s σ H x y v u Q I c d h;obtain⟨a,b,rfl,rfl,q⟩:=h;cases c;cases d;exact wpAny_isNot_plain (by cases a<;>cases b<;>rfl) ⟨.bl (a != b),H,I,by cases a<;>cases b<;>rfl,q⟩
theorem qRI (b:X.A.units<cLine):OpR X (C03 .NotEq) (λx y H Q=>∃p l xs,x=.ref p/\y=.ref l/\SqT X.K H p xs/\SqT X.K H l []/\Q (.bl (!xs.isEmpty)) H):=by
 intro z s σ H x y v u Q I o n h;obtain⟨p,l,xs,rfl,rfl,k,g,q⟩:=h;cases o;cases n;obtain⟨m,t,d,z1⟩:=I.tuple k;obtain⟨c,i,f,w⟩:=I.tuple g;cases i;cases t with
 |nil=>exact A27 (e:=λ_=>true) d f b (λj h _=>absurd h (by simp)) _ _ _ _ ⟨.bl false,H,I,rfl,q⟩
 |cons a r=>exact A27 (e:=λ_=>true) d f b (λj _ h=>absurd h (by simp)) _ _ _ _ ⟨.bl true,H,I,rfl,q⟩
def qYY:V->List V->Hp->VK->Prop:=λx vs H Q=>E4 λ(l:Addr) (zs:List Int) (y:Int) (j:Nat)=>x=.ref l/\vs=[.int y]/\H l=some (.lst (zs.map V.int))/\zs[j]?=some y/\(∀i,i<j->zs[i]?≠some y)/\Q .non (Ag H l (.lst ((zs.eraseIdx j).map V.int)))
theorem qTV:MtM X "list.remove" qYY:=by
 intro Ab s σ H x vs v us Q I rx rv h;obtain⟨l,b,y,j,rfl,rfl,hH,hj,hn,q⟩:=h;cases rx;obtain⟨u,rfl,ru⟩:=rv.one;obtain⟨t,rfl⟩:=ru;obtain⟨z,a,n,r,hl,e⟩:=I.lstM hH;have g:=r.length;rw[A0] at g;have a0:j<b.length:=(A3.mp hj).1;have o:j<a.toArray.size:=by simp;lia
 have c:∀(m:Nat) (hm:m<a.toArray.size),∃(k:Int) (tk:Tok),a.toArray[m]=.int k tk/\b[m]?=some k:=by
  intro m hm;have f:m<b.length:=by simp at hm;lia
  obtain⟨u,eu,tk,ru⟩:=r.get (i:=m) (x:=.int b[m]) (by rw[C0,A5 f];rfl)
  refine⟨b[m],tk,?_,A5 f⟩;rw[T5,<- ru];exact(A3.mp eu).2
 let ev:Value->Bool:=λv=>match v with|.int k _=>k==y|_=>false
 refine C35 F.slot_list_remove ⟨_,e,rfl⟩ F.entry_list_remove (F.args_list_remove_2 _ _) (MeetsSeq.list_remove l a.toArray n (.int y t) ev (λv hv=>?_) j o ?_ (λm hm w=>?_) (by rw[B6,<- hl];exact z)) ⟨e,?_⟩
 ·obtain⟨m,hm,em⟩:=Array.getElem_of_mem hv;obtain⟨k,tk,p,d⟩:=c m hm;rw[<- em,p];exact B80 k y tk t
 ·obtain⟨k,tk,p,d⟩:=c j o;rw[p];rw[hj] at d;cases d;exact beq_self_eq_true _
 ·obtain⟨k,tk,p,d⟩:=c m hm;rw[p];have:k≠y:=λz=>hn m w (by rw[d,z])
  show(k==y)=false;simpa using this
 ·have er:((b.map V.int).eraseIdx j)=(b.eraseIdx j).map V.int:=by rw[q0,q0,B2,B74,B75]
  rw[<- er] at q;refine⟨.non,_,I.lset (its':=a.eraseIdx j) hH e ?_ (r.eraseIdx j) ?_,rfl,q⟩
  ·show a.toArray.eraseIdxIfInBounds j=(a.eraseIdx j).toArray;rw[n8]
  ·have:=qNQ (b.map V.int) j
   lia
end L2
namespace HT
open PySem PySem.Spec PyProof.Rows
section
variable{prog:B90}{w:World}{A:Around}{E:Aa1}{s:Shared}
theorem getItem_tuple_whole {t f:Addr} {a:Array Value} {j l:Value} {lo hi:Option Int} {Q:Aa1} (c:IsTup s.heap t a)(i:s.heap.IsSliceOf f j l .none)(p:IsPart j lo)(m:IsPart l hi)
  (k:sIx a.size 0 lo=0/\sIx a.size a.size hi=a.size) (h:Q (.ref t) s):wpAny (model prog w) A (C51 (.ref t) (.ref f)) Q E s:=by
 obtain⟨o,g,e,n⟩:=id i;have d:s.TypeIs (.ref f) "slice":=⟨o,g,e⟩;unfold C51
 try with_reducible refine C00 ?_
 first|refine B87 (B88 ?_)|skip
 refine B87 (wpAny_sequenceKey c.typeIs (by decide) ?_)
 refine B87 (wpAny_callSpecial?_slot (name:=J7 "__getitem__") c.typeIs O7
  (C04 O7 c.typeIs entry_tuple_getitem ?_ (args_tuple_getitem _ _)))
 show wpAny _ _ (A10 (.ref t) >>= _) _ _ s;refine B87 (tupleItemsOf_ c (B87 (C65 d ?_)));rw[if_pos (by decide)]
 refine B87 (qFE i p m ?_);have b:(((sIx a.size 0 lo:Nat):Int)==0&&(1:Int)==1&&(sIx a.size a.size hi-sIx a.size 0 lo)==a.size)=true:=by
  rw[k.1,k.2];simp
 show wpAny _ _ (if(((sIx a.size 0 lo:Nat):Int)==0&&(1:Int)==1&&(sIx a.size a.size hi-sIx a.size 0 lo)==a.size)=true then _ else _) _ _ s
 rw[if_pos b];unfold Builtin.Tuple.tupleIsExact;refine B87 (B87 (C65 c.typeIs (B88 ?_)));rw[if_pos (by decide)]
 exact B87 (C13 (B88 ⟨_,rfl,B88 h⟩))
end
end HT
namespace L2
open PySem PySem.Spec PyProof.Rows
variable{X:Cx}
def qdD (K:Ab1):V->Option Int->Option Int->Hp->VK->Prop:=λx lo hi H Q=>E2 λa xs=>x=.ref a/\SqT K H a xs/\∀p H',(∀b o,H b=some o->H' b=some o)->SqT K H' p (cutV xs lo hi)->Q (.ref p) H'
theorem qYS:SlR X (qdD X.K):=by
 intro y s σ H x v z vu j k sl Q I o n t m h;obtain⟨a,c,rfl,g,q⟩:=h;by_cases f:HT.sIx c.length 0 j=0/\HT.sIx c.length c.length k=c.length
 ·cases o;obtain⟨i,r,l,hz⟩:=I.tuple g;have d:i.toArray.size=c.length:=by rw[B6];exact r.length.symm
  refine⟨"tuple",_,O7.lookup,l.typeIs,HT.getItem_tuple_whole l n t m (by rw[d];exact f) ⟨.ref a,H,I,rfl,q a H (λ_ _ e=>e) ?_⟩⟩
  have:cutV c j k=c:=by
   unfold cutV;rw[f.1,f.2,t7,B28,F8]
  rw[this];exact g
 ·exact qN3 y s σ H (.ref a) v z vu j k sl Q I o n t m ⟨a,c,rfl,g,f,λp w=>q p _ (λb u e=>by rw[qA8 (qA9 e w)];exact e) (Ac0 qA1)⟩
def qJK:∀(as:List Addr),Vals (as.map V.ref) (as.map D6)
 |[]=>.nil
 |_::as=>.cons rfl (qJK as)
theorem qa2 {K:Ab1} {b:Bool} {l m:Addr} {xs ys:List V} {g:TG} {f:TS} {D:Ends} {σ0:St} {H0:Hp} (h:xs.length=ys.length)(Pv:Nat->St->Hp->Prop)(k:Pv 0 σ0 H0)(p:∀i σ H,i<=xs.length->Pv i σ H->SqB b K H l xs/\SqB b K H m ys)
  (o:∀i x y σ H T,xs[i]?=some x->ys[i]?=some y->Pv i σ H->H T=none->g (.ref T) σ (Ag H T (.tup [x,y])) λσ2 H2=>f {D with nx:=Pv (i+1),ct:=Pv (i+1),bk:=D.nx} σ2 H2)
  (t:∀σ H,Pv xs.length σ H->D.nx σ H):
  ∃W:Nat->Nat->St->Hp->Prop,(∃m,W 0 m σ0 H0)/\∀i n σ H,W i n σ H->
   ((Itz K b l m).stop i H/\D.nx σ H)\/((Itz K b l m).go i H/\∃N:St->Hp->Prop,(∀σ' H',N σ' H'->∃m',m'<n/\W (i+1) m' σ' H')/\∀x H',(Itz K b l m).yld i H x H'->g x σ H' λσ2 H2=>f {D with nx:=N,ct:=N,bk:=D.nx} σ2 H2):=by
 refine⟨λi n σ H=>n=xs.length-i/\i<=xs.length/\Pv i σ H,⟨xs.length,by simp,G6 _,k⟩,?_⟩
 rintro i n σ H ⟨rfl,hi,q⟩;have a:=p i σ H hi q;by_cases c:i<xs.length
 ·refine .inr ⟨⟨xs,ys,xs[i],ys[i]'(by lia),a.1,a.2,by simp[c],A5 _⟩,Pv (i+1),λσ' H' s=>⟨xs.length-(i+1),by lia,rfl,c,s⟩,λv H' y=>?_⟩
  obtain⟨T,x,y,u,r,j,d⟩:=y;subst r j;exact o i x y σ H T (d xs ys a.1 a.2).1 (d xs ys a.1 a.2).2 q u
 ·have e:i=xs.length:=by lia
  subst e;exact .inl ⟨⟨xs,a.1,.inl (A9 _)⟩,t σ H q⟩
section
variable{prog:B90}{w:World}{A:Around}{R:Result->Shared->Prop}{h:Heap}{g:Array C48}{d:Drawn}{t:Nat}{os:OsState}{K:Ab1}{C fI:Addr}{rest:List Value}
theorem qaS (X:K.In h)(q:xcIn K C none=true)(j:rest.length<=B89)
  (z:∀h' t',(∀b o,h.get? b=some o->h'.get? b=some o)->h'.get? (h.objs.size+1)=some (excObj C t' none)->R (.ok (.ret (.ref (h.objs.size+1)))) ⟨h',g,d,t,os⟩):
  C18 (model prog w) A (.call (.ref C) ⟨rest,[]⟩) R ⟨h,g,d,t,os⟩:=by
 obtain⟨u,N,nm,qn,bs,sn,y,ab,x,dd,k0,k1,k2,k3,k5,s,c,v,l,T⟩:=qaT X q;have F:=PySem.F.excBase_ValueError;have f1:=tc_lookup;have f2:=tc_bind (.ref C);have hT:(⟨h,g,d,t,os⟩:Shared).TypeIs (.ref C) "type":=⟨_,c,rfl⟩;refine C66 ?_;show wpAny _ _ (callAny (.ref C) _) _ _ _
 repeat (any_goals (first|assumption|with_reducible refine C31 c ?_|wp_step))
 refine⟨rfl,?_⟩;show C18 (model prog w) A (.call (.builtin "type.__call__") ⟨.ref C::rest,[]⟩) R ⟨h,g,d,t,os⟩;refine codeAny_call_builtin_at (A18 _ (by decide +kernel)) entry_typeCall (wpAny_check_type_call_sub c ?_)
 repeat (first|with_reducible refine C31 c ?_|with_reducible refine wpAny_madeBy_exc c ?_|wp_step)
 refine codeAny_call_builtin_code (A18 _ F.quiet) (wpAny_check_new_subT F T c (codeAny_exc_new_subT F T c ?_ j));show wpAny _ _ _ _ _ _;have k:∀b o,h.get? b=some o->((h.push (argObj rest)).push (excObj C h.objs.size none)).get? b=some o:=λb o e=>A4 _ (A4 _ e);have i:=k _ _ c;have n:((h.push (argObj rest)).push (excObj C h.objs.size none)).Ns N s:=let⟨o,es,ep,e,r⟩:=v;⟨o,es,ep,k _ _ e,r⟩
 have a:((h.push (argObj rest)).push (excObj C h.objs.size none)).get? (h.objs.size+1)=some {cls:=.ref C,data:=.fields #[.ref h.objs.size,.none,.none,.none,.bool false,.none]}:=by heap_get
 have m:(D6 C::u).contains (.ref C)=true:=by simp
 have p:=T.keeps k;unfold isInstance
 repeat (first|with_reducible refine C31 a ?_|(with_reducible refine wpAny_isSubtype_exc i ?_;rw[m])|wp_step)
 show wpAny _ _ (typeLookup (.ref C) _) _ _ _;refine wpAny_typeLookup_tail i n p F.mroIs F.init.lookup ?_;rw[l];dsimp only;refine C00 ?_;rw[F.init.bind];refine B87 (B88 (B87 (C63 (C68 F.init.plain F.initEntry (wpAny_check_init_subT F p i a rfl ?_)))));unfold Builtin.«BaseException.__init__»
 repeat (first|with_reducible refine C31 a ?_|wp_step)
 have f:=A4 (h:=(h.push (argObj rest)).push (excObj C h.objs.size none)) {cls:=V1 "tuple",data:=B67 ([].append rest).toArray} a;refine z _ ((h.push (argObj rest)).push (excObj C h.objs.size none)).objs.size (λb o e=>?_) ?_
 ·refine(D5 _ _ (V8 (O2 (B5 e)))).trans (A4 _ (k b o e))
 ·exact L0 _ f rfl
end
def qYO (C:Addr)(G:XK)(t:TA):TS:=λ_ σ H=>t σ H λvs H1=>vs.length<=100/\G (.ref C) none H1
theorem qT6 {G:XK} {C:Addr} {d:Str} {o g e:Pos} {a:Expr} {b:List Expr} {t:TA} (l:X.ex=[])(hc:X.calm=true)(c:XCls X.K C none)(x:Gl X d)(hm:X.mg d=some (.ref C))(ha:PA X.nox (a::b) t)
  (k:(d==("__debug__" : Str))=false:=by decide) (y:B95 (a::b) X.env=(false,eval a X.env)::B95 b X.env:=by rfl) (j:(backTo g (B95 b X.env)).any (·.1)=false:=by rfl):
  PS (X.wish (XP X G)) (.Raise (some (.Call (.Name d o) (a::b) [] g)) none e) (qYO C G t):=by
 intro u s σ H D I h;have I:=I.unwish;show wpAny (model X.prog X.w) X.A (exec (.Raise (some (.Call (.Name d o) (a::b) [] g)) none e) X.env) _ (XP X G) s;rw[arm_exec_Raise];refine B87 (C42 (qaR (K:=X.K) (I.ok.hd hc) c.cls (B87 (B96 ?_ (λv s₁ hv=>B87 (C42 (B88 hv))) λ_ _ z=>z))));refine C34 (qK0 I x hm ?_ k);refine A14 (h₀:=X.base) I.ok.mod.kin c.kp (B96 (ha g u s σ H _ (I.wish _) h) (λus s1 ⟨vs,H1,I1,r,lv,q⟩=>⟨I1.unwish.kIn,?_⟩) λ_ _ z=>z.elim) y j;have I1:=I1.unwish;obtain⟨n,g1,d1,p,i⟩:=s1;refine C63 (qaS I1.kIn c.cls ?_ λh' t' kp f=>?_)
 ·rw[B94,A02];have:=r.length
  lia
 have hn:H1 (n.objs.size+1)=none:=I1.hok.fresh (W9 _);have m:Inv X u σ H1 ⟨h',g1,d1,p,i⟩:=I1.kept (t':=p) kp;refine⟨n.objs.size+1,t',none,rfl,m.kIn,f,m.flies l f hn (L5 I1.sz (W9 _)) (λz=>?_) q⟩;rcases B9.mp (I1.stkSub _ z) with z1|z1
 ·have:=I1.lt;rw[<- z1] at this;exact absurd this (B19.mpr (W9 _))
 ·exact I1.nofs (W9 _) z1
def EX (X:Cx)(Ab:Aa2)(G:St->XK)(ev:Value)(s2:Shared):Prop:=∃(σ1:St) (H1:Hp) (s1:Shared) (g:XK),Inv X Ab σ1 H1 s1/\CX1 X.prog X.w X.stack H1 s1 g ev s2/\∀cls dd H',g cls dd H'->G σ1 cls dd H'
def TB:Type:=(St->XK)->TS
def PB (X:Cx)(b:Stmt)(t:TB):Prop:=∀(Ab:Aa2) (s:Shared) (σ:St) (H:Hp) (D:Ends) (G:St->XK),Inv X Ab σ H s->t G D σ H->wpAny (model X.prog X.w) X.A (exec b X.env) (SP X Ab D) (EX X Ab G) s
def bIf (tc:TT)(t u:TB):TB:=λG D σ H=>tc σ H λb H1=>if b=true then t G D σ H1 else u G D σ H1
theorem qbP {c:Expr} {a b:Stmt} {g:Pos} {i:TT} {t u:TB} (n:PT X.nox c i)(k:PB X a t)(l:PB X b u):PB X (.If c [a] [b] g) (bIf i t u):=by
 intro e s σ H D G I h;refine wpAny_If (B96 (n e s σ H _ (I.wish _) h) (λd s1 ⟨H1,I1,q1⟩=>?_) λ_ _ z=>z.elim);have I1:=I1.unwish;have f:∀(st:Stmt),wpAny (model X.prog X.w) X.A (exec st X.env) (SP X e D) (EX X e G) s1->wpAny (model X.prog X.w) X.A (execs [st] X.env) (SP X e D) (EX X e G) s1:=λst m=>by
  refine C58 (B96 m (λj o q=>?_) λ_ _ z=>z);cases j with
  |next=>exact C26 q
  |brk=>exact q
  |cont=>exact q
  |ret u=>exact q
 cases d with
 |true=>exact f a (k e s1 σ H1 D G I1 q1)
 |false=>exact f b (l e s1 σ H1 D G I1 q1)
def qcX (K:Ab1)(tb:TB)(c:Value)(j:Option Nat)(th:TS):TS:=λD σ H=>tb (λσ1 cls dd H2=>A93 K cls c=some true/\∀e,H2 e=none->th (D.off j) (onE σ1 e j) (Ag H2 e (ExcO e cls dd))) D σ H
theorem qZ2 {cn:Str} {k:Stmt} {pC ph pt:Pos} {b₀:Stmt} {d:List Stmt} {tb:TB} {th:TS} {c:Value} {nm:Option Str} {j:Option Nat} 
  (a3:X.stack=X.env::X.outer) (a4:X.env.frame=some X.env.locals) (hN:X.N.Nodup) (i:PB X k tb) (a5:Gl X cn) (a7:X.mg cn=some c)
  (hj:match j,nm with|none,none=>True|some j,some n=>X.N[j]?=some n/\X.env.scope.names.lookup n=some .local|_,_=>False)
  (hh:∀ev,PSs (X.held ev).nox (b₀::d) th) (a6:(cn==("__debug__" : Str))=false:=by decide):
  PS X (.Try [k] [.ExceptHandler (some (.Name cn pC)) nm (b₀::d) ph] [] [] pt) (qcX X.K tb c j th):=by
 intro Ab s σ H D I h;rw[arm_exec_Try];refine B87 (C42 (wpAny_tryStmt_except (C58 (B96 (i Ab s σ H D _ I h) (λfl s2 q=>?_) λev s2 hq=>?_))))
 ·cases fl with
  |next=>exact C26 (C26 q)
  |brk=>exact q
  |cont=>exact q
  |ret u=>exact q
 ·obtain⟨σ,H1,s1,g0,m,hq,gg⟩:=hq;refine m.lands (E:=λ_ _ _=>True) a3 a4 hq λe a8 dd H2 B s3 ee r y g=>?_;subst ee;obtain⟨hc,g⟩:=gg _ _ _ g;obtain⟨oe,a9,aa,a1,a2,_⟩:=y.ex.rec_;have LT:PySem.W.Looks (model X.prog X.w) s3.heap (typeOf (.ref e)) a8:=by
   subst a2;exact(x9 a1).andThen .now
  refine wpAny_handleBy_cons (codeAny_handlers_test ?_) (by intro z;cases z)
  have J3:=r.held (.ref e);refine qK0 J3 a5 a7 ?_ a6;refine(PySem.W.exm_one r.kIn LT hc).here ?_;have a0:=r.ok;cases nm with
  |none=>
   cases j with
   |some j=>exact hj.elim
   |none=>
    refine codeAny_handlers_suite (qFP y.ex λh4 x4 u4=>?_);have y4:=y.step x4 u4 λb i=>i;have I4:Inv X Ab σ H2 {s3 with heap:=h4}:=m.call' (s':={s3 with heap:=h4}) (r.os.trans m.os.symm) y4.un y4.hok r.bare λb i=>absurd i (by simp)
    have I5:=I4.caught ⟨s1,m,rfl⟩ y4;exact B96 (hh (.ref e) Ab _ σ _ D ((I5.held _).wish _) (g e y.ne)) (λfl s5 l=>SP.back a0 l) λ_ _ z=>z.elim
  |some n=>
   cases j with
   |none=>exact hj.elim
   |some j=>
    obtain⟨f,a⟩:=hj;refine codeAny_handlers_suite_as (qFP y.ex λh4 x4 u4=>?_);have y4:=y.step x4 u4 λb i=>i;have I4:Inv X Ab σ H2 {s3 with heap:=h4}:=m.call' (s':={s3 with heap:=h4}) (r.os.trans m.os.symm) y4.un y4.hok r.bare λb i=>absurd i (by simp)
    have I5:=I4.caught ⟨s1,m,rfl⟩ y4;refine qJ7 (v:=.ref e) I5 hN f (.inl a) rfl (λs6 I6=>?_) (.inr a);refine B96 (hh (.ref e) Ab _ _ _ _ ((I6.held _).wish _) (g e y.ne)) (λfl s5 l=>?_) λ_ _ z=>z.elim;have l:=SP.back a0 l;cases fl with
    |next=>obtain⟨σ7,p,x,o⟩:=l;exact x.goes hN f a λs8 t=>⟨_,p,t,o⟩
    |brk=>obtain⟨σ7,p,x,o⟩:=l;exact x.goes hN f a λs8 t=>⟨_,p,t,o⟩
    |cont=>obtain⟨σ7,p,x,o⟩:=l;exact x.goes hN f a λs8 t=>⟨_,p,t,o⟩
    |ret u=>obtain⟨v7,σ7,p,x,r7,o⟩:=l;exact x.goes hN f a λs8 t=>⟨v7,_,p,t,r7,o⟩
section
variable{X:Cx}{Ab:Aa2}{σ:St}{H:Hp}{s:Shared}
structure LmScope (X:Cx)(scope:Scope)(p:Str)(fv:List Nat):Prop where
 kind:scope.kind=.function
 co:scope.isCoroutine=false
 gen:scope.isGenerator=false
 nocell:∀y∈scope.names,y.2≠.cell
 par:scope.names.lookup p=some .local
 free:∀y∈scope.names,y.2=.free->X.env.kindOf y.1=some .cell\/X.env.kindOf y.1=some .free
 fvs:∀i∈fv,i<X.N.length/\scope.names.lookup (X.N.getD i Z2)=some .free
structure LmZ where
 A:Around
 f:Addr
 cd:Value
 s₀:Shared
 H₀:Hp
 rm:Room 0 A
def qZM (fv:List Nat)(σ:St)(x:V):St:=some x::fv.map λi=>(σ[i]?).join
end
abbrev Sm0 (H H':Hp):Prop:=∀b o,H b=some o->H' b=some o
structure KCmp (X:Cx)(KR:Hp->V->List Int->Prop):Prop where
 mono:∀H H' y k,Sm0 H H'->KR H y k->KR H' y k
 cmp:∀(Ab:Aa2) (σ:St) (s:Shared) (H:Hp) (y y':V) (u u':Value) (k k':List Int) (Q:Aa1) (E:Aa1),Inv X Ab σ H s->RelV y u->RelV y' u'->KR H y k->KR H y' k'->Q (.bool (HT.lexLt k k')) s->
  wpAny (model X.prog X.w) X.A.in1 (richCompare .Lt u u') Q E s
structure KeyAt (X:Cx)(σ:St)(fv:List Nat)(te:TE)(KR:Hp->V->List Int->Prop)(H0:Hp)(xs:List V)(ks:Aa0):Prop where
 len:ks.length=xs.length
 key:∀(i:Nat) (x:V) (k:List Int),xs[i]?=some x->ks[i]?=some k->∀Hc,Sm0 H0 Hc->te (qZM fv σ x) Hc λy H'=>Sm0 Hc H'/\KR H' y k
structure LTab where
 x:Str
 c:Addr
 P:Addr
 q:Str
end L2
namespace L2.G
open PySem PySem.Spec PyProof.Rows
section
variable[NM]
variable{prog:B90}{w:World}{A:Around}{E:Aa1}{s:Shared}
theorem qI6 {vs:List Value} :∀p∈(C11 vs).toList,p.1=p.2:=by
 intro p a;unfold C11 at a;rw[B35] at a
 induction vs with
 |nil=>cases a
 |cons v vs ih=>
  rcases B9.mp a with h|h
  ·rw[h]
  ·exact ih h
theorem qNI (vs:List Value):(C11 vs).toList.map (·.2)=vs:=by
 unfold C11;rw[B35,List.map_snd_zip (by simp)]
theorem qTH {vs:List Value} {xs:Array Keyed} (f:xs.Perm (C11 vs))(h:gSortedTo xs (C11 vs).size):(xs.map (·.2)).toList.Perm vs/\(xs.map (·.2)).toList.Pairwise (λu v=>NM.nm u<=NM.nm v):=by
 have e:=d8.mp f
 constructor
 ·have:=e.map (·.2);rw[qNI] at this;rw[B36];exact this
 ·rw[B36,P9,P2];intro i j m k d;have n:=f.size_eq;have c:i<xs.size:=by simpa using m
  have b:j<xs.size:=by simpa using k
  have a:=h i j (Z8 d) (by lia)
  rw[qZZ c,qZZ b] at a;have l:=qI6 _ (e.mem_iff.mp (show xs[i]∈xs.toList by simp))
  have g:=qI6 _ (e.mem_iff.mp (show xs[j]∈xs.toList by simp))
  rw[l,g] at a;simpa using a
theorem qPZ {κ0:C25} {a:Addr} {vs:List Value} {n:Nat} {P:Fin->Shared->Prop} (t:s.heap.get? a=some (seqObj "list" vs.toArray n)) (hz:vs.length<=B89) (gd:∀v∈vs,NM.good v)
  (hk:∀h':Heap,(∀(b:Addr) (o:Obj),b≠a->s.heap.get? b=some o->h'.get? b=some o)->2<=vs.length->(∀{Q:C25->Shared->Prop},Q κ0 {s with heap:=h'}->wpAny (model prog w) A (keyKind' vs.toArray) Q E {s with heap:=h'})/\LtOk prog w A {s with heap:=h'} κ0)
  (h:∀(out:Array Value),out.toList.Perm vs->out.toList.Pairwise (λu v=>NM.nm u<=NM.nm v)->P (.done (.ret .none)) {s with heap:=sortedHeap s.heap a vs out}):wpAny (model prog w) A (Builtin.«list.sort» ⟨[.ref a],[]⟩) P E s:=by
 have la:=B5 t;have z0:vs.toArray.size<=B89:=by simpa using hz
 rw[list_sort_plain];refine B87 (listItems_at t rfl (B87 (C45 t rfl ?_ z0 (G6 _))));have y:∃k,(s.heap.update a (T9 λ_=>#[])).get? a=some (seqObj "list" #[] k):=⟨_,get?_update_seq t λ_=>#[]⟩;obtain⟨k,y⟩:=y;refine B87 (C56 y rfl (B87 (C53 ?_ (by simpa using hz))))
 refine B87 (wpAny_newList (C00 ?_));have r:(((s.heap.update a (T9 λ_=>#[])).push (seqObj "tuple" vs.toArray 0)).push (seqObj "list" #[] 0)).get? a=some (seqObj "list" #[] k):=by
  rw[o9,o9]
  ·exact y
  ·rw[x8];exact D7 la
  ·rw[size_push',x8];exact D7 (O2 la)
 have l:∀(b:Addr) (o:Obj),b≠a->s.heap.get? b=some o->(((s.heap.update a (T9 λ_=>#[])).push (seqObj "tuple" vs.toArray 0)).push (seqObj "list" #[] 0)).get? b=some o:=λb o hb q=>
  A4 _ (A4 _ ((Heap.get?_update_ne _ _ _ _ hb).trans q))
 have e:∀xs:Array Keyed,xs.Perm (C11 vs)->gSortedTo xs (C11 vs).size->P (.done (.ret .none)) {s with heap:=sortedHeap s.heap a vs (xs.map (·.2))}:=by
  intro xs px sx;obtain⟨q1,q2⟩:=qTH px sx;exact h _ q1 q2
 have sz:∀xs:Array Keyed,xs.Perm (C11 vs)->(xs.map (·.2)).size<=B89+1:=by
  intro xs px;rw[A25,px.size_eq,pairsOf_size]
  lia
 show wpAny _ A _ P E {s with heap:=((s.heap.update a (T9 λ_=>#[])).push (seqObj "tuple" vs.toArray 0)).push (seqObj "list" #[] 0)};dsimp only;by_cases c:vs.toArray.size<2
 ·simp only[if_pos c];refine B87 (B88 ?_);rw[B44];refine B87 (B88 (B87 (C56 r rfl (B87 (C45 r rfl ?_ (G6 _) (sz (C11 vs) (.refl _)))))));simp only[bne_self_eq_false,O8,if_false];refine B88 (e (C11 vs) (.refl _) λi j a0 hj=>?_);rw[pairsOf_size] at hj;rw[B6] at c;rw[show i=j by lia]
  exact J9 _
 ·simp only[if_neg c];rw[B6] at c;obtain⟨z,a1⟩:=hk _ l (by lia)
  have ik:qCN (C11 vs):=λp hp=>by
   have m:=List.mem_map_of_mem (f:=(·.2)) hp;rw[qNI] at m;rw[qI6 p hp];exact gd _ m
  refine B87 (z (B87 (B96 (gwpS_runs (κ0:=κ0) (a₀:=C11 vs) (Q:=λ_ d=>gSG κ0 (C11 vs) d/\gSortedTo (arrOf d) (C11 vs).size) ik ⟨.refl _,rfl,rfl⟩ rfl λd g u=>⟨g,u⟩) ?_ λ_ _ x=>x)));rintro⟨_,d⟩ s2 ⟨es,g,u⟩;cases(show s2=_ from es);refine B87 (C56 r rfl (B87 (C45 r rfl ?_ (G6 _) (sz _ g.perm))));dsimp only;rw[g.failed];simp only[bne_self_eq_false,O8,if_false];exact B88 (e _ g.perm u)
end
theorem qLE:∀a:List Int,HT.lexLt a a=false
 |[]=>rfl
 |x::a=>by rw[HT.lexLt_cons,if_pos rfl];exact qLE a
theorem qJZ:∀a b c:List Int,HT.lexLt a b=true->HT.lexLt b c=true->HT.lexLt a c=true
 |[],[],_,h,_=>by cases h
 |[],_::_,[],_,h=>by cases h
 |[],_::_,_::_,_,_=>rfl
 |_::_,[],_,h,_=>by cases h
 |_::_,_::_,[],_,h=>by cases h
 |x::a,y::b,z::c,h1,h2=>by
  rw[HT.lexLt_cons] at h1 h2 ⊢;by_cases e1:x=y
  ·subst e1;rw[if_pos rfl] at h1;by_cases e2:x=z
   ·rw[if_pos e2] at h2 ⊢;exact qJZ a b c h1 h2
   ·rw[if_neg e2] at h2 ⊢;exact h2
  ·rw[if_neg e1] at h1;have h1:=of_decide_eq_true h1;by_cases e2:y=z
   ·subst e2;rw[if_neg e1];exact decide_eq_true h1
   ·rw[if_neg e2] at h2;have h2:=of_decide_eq_true h2;rw[if_neg (by lia)]
    exact decide_eq_true (by lia)
theorem lexLt_tri:∀a b:List Int,HT.lexLt a b=false->HT.lexLt b a=false->a=b
 |[],[],_,_=>rfl
 |[],_::_,h,_=>by cases h
 |_::_,[],_,h=>by cases h
 |x::a,y::b,h1,h2=>by
  rw[HT.lexLt_cons] at h1 h2;by_cases e:x=y
  ·subst e;rw[if_pos rfl] at h1 h2;rw[lexLt_tri a b h1 h2]
  ·rw[if_neg e] at h1;rw[if_neg (λz=>e z.symm)] at h2;have:=of_decide_eq_false h1;have:=of_decide_eq_false h2
   lia
def qIZ (L:Aa0)(a:List Int):Int:=(((L.filter λx=>HT.lexLt x a).length:Nat):Int)
theorem qHG {α:Type} {p q:α->Bool} :∀{L:List α},(∀x∈L,p x=true->q x=true)->(∃x∈L,p x=false/\q x=true)->(L.filter p).length<(L.filter q).length
 |[],_,⟨x,hx,_⟩=>nomatch hx
 |y::L,h,⟨x,hx,h1,h2⟩=>by
  have le:∀{M:List α},(∀x∈M,p x=true->q x=true)->(M.filter p).length<=(M.filter q).length:=by
   intro M hM
   induction M with
   |nil=>exact A9 _
   |cons z M ih=>
    have i:=ih λx hx=>hM x (A7 _ hx);rw[V4,V4];cases ep:p z
    ·cases q z
     ·simpa using i
     ·simp;lia
    ·rw[hM z (by simp) ep]
     simpa using i
  rw[V4,V4];rcases B9.mp hx with e|e
  ·subst e;have:=le λx hx=>h x (A7 _ hx);rw[h1,h2];simp
   lia
  ·have i:=qHG (λx hx=>h x (A7 _ hx)) ⟨x,e,h1,h2⟩;cases ep:p y
   ·cases q y
    ·simpa using i
    ·simp;lia
   ·rw[h y (by simp) ep]
    simpa using i
theorem qT5 {L:Aa0} {a b:List Int} (c:a∈L)(h:HT.lexLt a b=true):qIZ L a<qIZ L b:=by
 unfold qIZ;have:=qHG (p:=λx=>HT.lexLt x a) (q:=λx=>HT.lexLt x b) (L:=L) (λx _ d=>qJZ _ _ _ d h) ⟨a,c,qLE a,h⟩
 lia
theorem qQ7 {L:Aa0} {a b:List Int} (c:a∈L)(d:b∈L):decide (qIZ L a<qIZ L b)=HT.lexLt a b:=by
 cases h:HT.lexLt a b with
 |true=>exact decide_eq_true (qT5 c h)
 |false=>
  refine decide_eq_false λz=>?_;cases h2:HT.lexLt b a with
  |true=>have:=qT5 d h2;lia
  |false=>rw[lexLt_tri a b h h2] at z;lia
def qWL (xs:List V):List Int:=xs.map fun|.int i=>i|_=>0
theorem qUE (t:List Int):qWL (t.map V.int)=t:=by
 unfold qWL;rw[Q1];exact(L4 λx _=>rfl).trans (B49 _)
noncomputable def keyH (H:Hp):Value->List Int
 |.ref r=>match H r with
  |some (.tup xs)=>qWL xs
  |_=>[]
 |_=>[]
@[reducible] def tupNM (H:Hp)(L:Aa0):NM:=⟨λv=>qIZ L (keyH H v),λv=>∃r t,v=.ref r/\H r=some (.tup (t.map V.int))/\t∈L⟩
theorem qM9 {H:Hp} {r:Addr} {t:List Int} (h:H r=some (.tup (t.map V.int))):keyH H (.ref r)=t:=by
 show(match H r with|some (.tup xs)=>qWL xs|_=>[])=t
 rw[h];exact qUE t
section
variable{prog:B90}{w:World}{A:Around}{E:Aa1}{s:Shared}
theorem qTR {x y:Addr} {xs ys:Array Value} {ns f:List Int} {Q:Bool->Shared->Prop} (hu:A.units<cLine)(r:IsTup s.heap x xs)(z:IsTup s.heap y ys)(q:C06 xs.toList ns)(p:C06 ys.toList f)(h:Q (HT.lexLt ns f) s):wpAny (model prog w) A (oneLt' true (.ref x) (.ref y)) Q E s:=by
 rw[oneLt'_eq];simp only[if_true];obtain⟨⟨v,t,k,u⟩,e,m,n,l⟩:=id r;obtain⟨⟨j,g,i,c⟩,d,b,o,a⟩:=id z;simp only at m l b a;subst m l b a;refine B87 (wpAny_cRoomFor hu (B87 (wpAny_callSpecialIfBound?_slot ⟨_,e,rfl⟩ A75 (C35 A75 ⟨_,e,rfl⟩ PySem.F.entry_tuple_lt (PySem.F.args_tuple_lt_2 _ _) (HT.tuple_lt_ints x y xs ys n o t g u c ns f q p) ⟨e,d,?_⟩))));exact C08 h
theorem qK2 {b:Bool} {Q:Bool->Shared->Prop} :∀{vs ws:List Value} {ns ms:List Int} {i:Nat} {fin:Bool},C06 vs ns->C06 ws ms->
  (fin=decide (vs.length<ws.length))->Q (HT.lexLt ns ms) s->PySem.W.KatLex prog w A b fin Q (vs.zip ws) i s
 |_,_,_,_,i,fin,.nil,.nil,ef,h=>by
  rw[ef];exact A76 h
 |_,_,_,_,i,fin,.nil,.cons _ _ _,ef,h=>by
  rw[ef];exact A76 h
 |_,_,_,_,i,fin,.cons _ _ _,.nil,ef,h=>by
  rw[ef];exact A76 h
 |_,_,_,_,i,fin,.cons (vs:=vs) (ns:=ns) x t hv,.cons (vs:=ws) (ns:=ms) y u hw,ef,h=>by
  rw[A15];refine PySem.W.kat_cons (wpAny_eqBool_int ?_);rw[HT.lexLt_cons] at h;by_cases e:x=y
  ·rw[if_pos e] at h;rw[beq_iff_eq.mpr e];refine PySem.W.kat_yes (qK2 hv hw ?_ h);rw[ef];simp
  ·rw[if_neg e] at h;rw[beq_eq_false_iff_ne.mpr e];refine PySem.W.kat_no ?_;cases eb:(b&&i==0) with
   |true=>exact oneLt_int h
   |false=>exact PySem.W.kat_one _ _ (lt_int h)
theorem qRQ {x y:Addr} {xs ys:Array Value} {ns d:List Int} {b:Bool} {Q:Bool->Shared->Prop} (k:IsTup s.heap x xs)(j:IsTup s.heap y ys)(f:C06 xs.toList ns)(e:C06 ys.toList d)(h:Q (HT.lexLt ns d) s):wpAny (model prog w) A (keyLt' (tuples' b) (.ref x) (.ref y)) Q E s:=by
 obtain⟨o,l,q,n,i⟩:=id k;obtain⟨p,c,g,m,a⟩:=id j;refine PySem.W.kat_lt l i c a (qK2 f e ?_ h);simp
theorem qU6 {b:List Addr} {ts:Aa0} {Q:C25->Shared->Prop} (h:Paired (λ(r:Addr) (t:List Int)=>∃xs:Array Value,IsTup s.heap r xs/\C06 xs.toList t) b ts)(c:∀t∈ts,t≠[])(k:2<=b.length)
  (q:Q (tuples' true) s):wpAny (model prog w) A (keyKind' (b.map D6).toArray) Q E s:=by
 have m:∃fs,PySem.W.KatTups s.heap (b.map D6) fs/\fs.length=b.length/\∀v∈fs,∃n t,v=.int n t:=by
  clear k
  induction h with
  |nil=>exact⟨[],trivial,rfl,λ_ z=>nomatch z⟩
  |@cons r t l1 l2 a _ ih=>
   obtain⟨fs,g,j,f⟩:=ih λt i=>c t (A7 _ i);obtain⟨xs,⟨o,u,y,n,p⟩,l⟩:=a;have i:t≠[]:=c t (by simp)
   obtain⟨xs⟩:=xs;cases l with
   |nil=>exact absurd rfl i
   |cons x tk rest=>
    refine⟨.int x tk::fs,.cons u y p rfl g,by simp[j],λv d=>?_⟩
    rcases B9.mp d with e|e
    ·exact⟨x,tk,e⟩
    ·exact f v e
 obtain⟨fs,g,j,f⟩:=m;refine PySem.W.kat_kind (T:=.type "int") g (by lia) (λv d=>?_) rfl ?_
 ·obtain⟨n,t,rfl⟩:=f v d;exact .now
 ·exact q
theorem qLL:∀(rs:List Addr) {Q:List (Option Value)->Shared->Prop},(∀r∈rs,∃xs:Array Value,IsTup s.heap r xs)->(∀L,Q L s)->wpAny (model prog w) A ((rs.map D6).mapM firstOfTuple') Q E s
 |[],_,_,h=>by rw[i9,List.mapM_nil];exact B88 (h _)
 |r::rs,Q,t,h=>by
  obtain⟨xs,o,ho,hc,n,hd⟩:=t r (by simp)
  rw[D4,B58];refine B87 ?_;rw[A85];refine B87 (A19 (show PySem.W.Looks (model prog w) s.heap (typeOf (.ref r)) o.cls from(x9 ho).andThen .now) ?_);rw[hc,if_neg (by first|decide|simp)]
  exact B87 (listItems_at ho hd (B88 (B87 (qLL rs (Q:=λbs s'=>wpAny (model prog w) A (pure (xs[0]?::bs)) Q E s') (λr hr=>t r (A7 _ hr)) λL=>B88 (h _)))))
theorem qRP {c:Addr} {b:List Addr} {Q:C25->Shared->Prop} (k:IsTup s.heap c #[])(h:∀r∈b,∃xs:Array Value,IsTup s.heap r xs)
  (q:Q oneType' s):wpAny (model prog w) A (keyKind' ((c::b).map D6).toArray) Q E s:=by
 rw[kat_kind_eq,B21,map_eq_pure_bind,D4,B58];obtain⟨o,i,y,n,m⟩:=id k;refine B87 (B87 (B87 ?_));rw[A85];refine B87 (A19 (show PySem.W.Looks (model prog w) s.heap (typeOf (.ref c)) o.cls from(x9 i).andThen .now) ?_);rw[y,if_neg (by first|decide|simp)]
 refine B87 (listItems_at i m (B88 (B87 (qLL b h λL=>B88 (B88 ?_)))));have e1:((((#[]:Array Value)[0]?)::L).toArray.all λx=>x.isSome)=false:=by simp
 have l:((((((#[]:Array Value)[0]?)::L).toArray)[0]?).bind id).isSome=false:=by simp
 rw[if_neg (by rw[e1];exact B8),if_neg (by rw[l];exact B8)]
 rw[oneTypeOnly'_eq,B21,map_eq_pure_bind];refine B87 (B87 (B87 (PySem.W.kas_mapM (r:=V1 "tuple") _ (λv j Q' z=>?_) (B88 ?_))))
 ·rw[<- D4] at j;obtain⟨r,u,rfl⟩:=C3.mp j;have:∃xs:Array Value,IsTup s.heap r xs:=by
   rcases B9.mp u with e|e
   ·rw[e];exact⟨_,k⟩
   ·exact h r e
  obtain⟨xs,t,d,g,n2,p⟩:=this;refine A19 (show PySem.W.Looks (model prog w) s.heap (typeOf (.ref r)) t.cls from(x9 d).andThen .now) ?_;rw[g];exact z
 ·have f:(B38 (λ_=>V1 "tuple") (D6 c::B38 D6 b)).toArray[0]?=some (V1 "tuple"):=by simp
  have a:((B38 (λ_=>V1 "tuple") (D6 c::B38 D6 b)).toArray.all λx=>x==V1 "tuple")=true:=by
   simp only[List.all_toArray,List.all_map,F5];intro _ _
   rfl
  rw[f];simp only[a,if_true];exact B88 (B88 q)
end
section
variable{X:Cx}
abbrev TupsAt (H:Hp)(rs:List Addr)(ts:Aa0):Prop:=Paired (λ(r:Addr) (t:List Int)=>H r=some (.tup (t.map V.int))) rs ts
theorem qEN:∀{rs:List Addr} {its:List Value},Vals (rs.map V.ref) its->its=rs.map D6
 |[],_,.nil=>rfl
 |r::rs,_,.cons h t=>by
  rw[D4,<- qEN t];have:_=D6 r:=h;rw[this]
def qIY:Value->Addr
 |.ref a=>a
 |_=>0
theorem qNC:∀{vs:List Value},(∀v∈vs,∃a,v=.ref a)->(vs.map qIY).map D6=vs
 |[],_=>rfl
 |v::vs,h=>by
  obtain⟨a,rfl⟩:=h v (by simp)
  rw[D4,D4,qNC λv hv=>h v (A7 _ hv)]
  rfl
theorem qPU {H:Hp} :∀{rs:List Addr} {ts:Aa0},TupsAt H rs ts->ts=rs.map λr=>keyH H (.ref r)
 |_,_,.nil=>rfl
 |_,_,.cons h t=>by rw[D4,qM9 h,<- qPU t]
theorem qSL {H:Hp} :∀{rs:List Addr},(∀r∈rs,∃t:List Int,H r=some (.tup (t.map V.int)))->TupsAt H rs (rs.map λr=>keyH H (.ref r))
 |[],_=>.nil
 |r::rs,h=>by
  obtain⟨t,e⟩:=h r (by simp)
  exact .cons (by dsimp only;rw[qM9 e];exact e) (qSL λr hr=>h r (A7 _ hr))
theorem qJ4 {H:Hp} :∀{rs:List Addr} {ts:Aa0},TupsAt H rs ts->∀{r:Addr},r∈rs->∃t,t∈ts/\H r=some (.tup (t.map V.int))
 |_,_,.nil,_,h=>nomatch h
 |_,_,.cons (b:=t) g T,r,h=>by
  rcases B9.mp h with e|e
  ·exact⟨t,by simp,by rw[e];exact g⟩
  ·obtain⟨t,h1,h2⟩:=qJ4 T e;exact⟨t,A7 _ h1,h2⟩
theorem qSY {Ab:Aa2} {σ:St} {H:Hp} {Q:VK} {d:List Addr} {ts:Aa0} {D:Addr} (I:Inv X Ab σ (Ag H D (.lst (d.map V.ref))) s)(hD:H D=none)(T:TupsAt H d ts)
  (hk:(∀t∈ts,t≠[])\/∃ts',ts=[]::ts') (hu:A.units+8<cLine)
  (q:∀rs' ts',rs'.Perm d->TupsAt H rs' ts'->ts'.Perm ts->ts'.Pairwise (λa b=>HT.lexLt b a=false)->Q (.ref D) (Ag H D (.lst (rs'.map V.ref)))):
  wpAny (model X.prog X.w) A (call (.builtin "list.sort") [.ref D]) (λ_ s'=>EP X Ab σ Q (.ref D) s') E s:=by
 obtain⟨z,a1,n,rv,hl,e⟩:=I.lstM qA1;have ei:=qEN rv;subst ei;have hz:(d.map D6).length<=B89:=by simpa using z
 letI:NM:=tupNM H ts
 have gd:∀v∈d.map D6,NM.good v:=λv hv=>by
  obtain⟨r,hr,rfl⟩:=C3.mp hv;obtain⟨t,ht,g⟩:=qJ4 T hr;exact⟨r,t,rfl,g,ht⟩
 have f:∀(h':Heap),(∀(b:Addr) (o:Obj),b≠D->s.heap.get? b=some o->h'.get? b=some o)->∀(r:Addr) (t:List Int),H r=some (.tup (t.map V.int))->∃xs:Array Value,IsTup h' r xs/\C06 xs.toList t:=by
  intro h' c r t g;have nr:r≠D:=qA9 g hD;obtain⟨a1,r1,⟨o,ho,hc,n,hd⟩,_⟩:=I.tuple (Ac0 (show(Ag H D (.lst (d.map V.ref))) r=some (.tup (t.map V.int)) by rw[qA8 nr];exact g))
  exact⟨a1.toArray,⟨o,c r o nr ho,hc,n,hd⟩,qRT r1⟩
 have j:∀(A':Around) (h':Heap) (κ:C25),(∀(x y:Addr) (xs ys:Array Value) (ns ms:List Int) (Q:Bool->Shared->Prop) (E:Aa1),IsTup h' x xs->IsTup h' y ys->C06 xs.toList ns->C06 ys.toList ms->Q (HT.lexLt ns ms) {s with heap:=h'}->wpAny (model X.prog X.w) A' (keyLt' κ (.ref x) (.ref y)) Q E {s with heap:=h'})->
   (∀(b:Addr) (o:Obj),b≠D->s.heap.get? b=some o->h'.get? b=some o)->LtOk X.prog X.w A' {s with heap:=h'} κ:=by
  intro A' h' κ a4 c;refine⟨λ{x y Q E} hx hy h=>?_⟩;obtain⟨r1,t1,rfl,g1,m1⟩:=hx;obtain⟨r2,t2,rfl,g2,m2⟩:=hy;obtain⟨xs,l,m⟩:=f h' c r1 t1 g1;obtain⟨ys,i2,j2⟩:=f h' c r2 t2 g2;refine a4 r1 r2 xs ys t1 t2 Q E l i2 m j2 ?_;have e1:NM.nm (D6 r1)=qIZ ts t1:=by show qIZ ts (keyH H (.ref r1))=_;rw[qM9 g1]
  have e2:NM.nm (D6 r2)=qIZ ts t2:=by show qIZ ts (keyH H (.ref r2))=_;rw[qM9 g2]
  rw[e1,e2,qQ7 m1 m2] at h;exact h
 have a3:∀out:Array Value,out.toList.Perm (d.map D6)->out.toList.Pairwise (λu v=>NM.nm u<=NM.nm v)->EP X Ab σ Q (.ref D) {s with heap:=sortedHeap s.heap D (d.map D6) out}:=by
  intro out p1 p2;have a2:∀v∈out.toList,∃a,v=D6 a:=λv hv=>by
   obtain⟨r,_,er⟩:=C3.mp (p1.mem_iff.mp hv);exact⟨r,er.symm⟩
  have k:=qNC a2;have p3:(out.toList.map qIY).Perm d:=by
   have:=p1.map qIY;rw[Q1] at this;have e:d.map (qIY ∘ D6)=d:=(L4 λx _=>rfl).trans (B49 _)
   rwa[e] at this
  obtain⟨e2,a0⟩:=sortedHeap_at (vs:=d.map D6) (out:=out) e;have T':TupsAt H (out.toList.map qIY) ((out.toList.map qIY).map λr=>keyH H (.ref r)):=qSL λr hr=>by
   obtain⟨t,_,g⟩:=qJ4 T (p3.mem_iff.mp hr);exact⟨t,g⟩
  have p4:((out.toList.map qIY).map λr=>keyH H (.ref r)).Perm ts:=by
   have:=p3.map λr=>keyH H (.ref r);rw[<- qPU T] at this;exact this
  have p5:((out.toList.map qIY).map λr=>keyH H (.ref r)).Pairwise (λa b=>HT.lexLt b a=false):=by
   rw[<- k,P9] at p2;rw[P9];refine p2.imp_of_mem λ{a b} ha hb le=>?_;have ma:keyH H (.ref a)∈ts:=p4.mem_iff.mp (C3.mpr ⟨a,ha,rfl⟩);have mb:keyH H (.ref b)∈ts:=p4.mem_iff.mp (C3.mpr ⟨b,hb,rfl⟩);have le:qIZ ts (keyH H (.ref a))<=qIZ ts (keyH H (.ref b)):=le;rw[<- qQ7 mb ma];exact decide_eq_false (by lia)
  refine⟨.ref D,Ag H D (.lst ((out.toList.map qIY).map V.ref)),?_,rfl,q _ _ p3 T' p4 p5⟩;have hu:Ag (Ag H D (.lst (d.map V.ref))) D (.lst ((out.toList.map qIY).map V.ref))=Ag H D (.lst ((out.toList.map qIY).map V.ref)):=qI2;rw[<- hu];refine I.write (x:=D) (e:=D) (t':=s.toks) (by rw[qA1];exact trivial) (.inl rfl) (λb u hb a5=>?_) ⟨_,a0⟩ ?_
  ·rw[sortedHeap_old hb (B5 a5)];exact a5
  ·refine⟨?_,out.toList,e2,?_,by simpa using a0⟩
   ·rw[A0,p3.length_eq];simpa using z
   ·have:=qJK (out.toList.map qIY);rw[k] at this;exact this
 rcases hk with hk|⟨ts',hk⟩
 ·refine C04 slot_list_sort ⟨_,e,rfl⟩ entry_list_sort (qPZ (κ0:=tuples' true) (n:=n) e hz gd (λh' c h2=>⟨λ{Q} p=>?_,j _ h' _ (λx y xs ys ns ms Q E l i2 m j2 p=>qRQ l i2 m j2 p) c⟩) λout p1 p2=>⟨_,rfl,a3 out p1 p2⟩) (args_list_sort _);refine qU6 (s:={s with heap:=h'}) (ts:=ts) ?_ hk (by simpa using h2) p
  exact Paired.mapP T λr t g=>f h' c r t g
 ·refine C04 slot_list_sort ⟨_,e,rfl⟩ entry_list_sort (qPZ (κ0:=oneType') (n:=n) e hz gd (λh' c h2=>⟨λ{Q} p=>?_,j _ h' _ (λx y xs ys ns ms Q E l i2 m j2 p=>?_) c⟩) λout p1 p2=>⟨_,rfl,a3 out p1 p2⟩) (args_list_sort _)
  ·cases T with
   |nil=>cases hk
   |@cons r t l1 l2 g T=>
    have et:t=[]:=by cases hk;rfl
    subst et;obtain⟨xs,l,m⟩:=f h' c r [] g;obtain⟨xs⟩:=xs;cases m;refine qRP (s:={s with heap:=h'}) l (λr hr=>?_) p;obtain⟨t,_,g⟩:=qJ4 T hr;obtain⟨xs,i,_⟩:=f h' c r t g;exact⟨xs,i⟩
  ·rw[keyLt'_oneType];exact qTR (s:={s with heap:=h'}) (by first|exact j9 (by show _<=A.units+8;simp[Around.in1]) hu|(show A.units+1<cLine;lia)|(show A.units<cLine;lia)) l i2 m j2 p
theorem qOO {Ab:Aa2} {σ:St} {H:Hp} {Q:VK} {f:List Addr} {ts:Aa0} (j:X.A.units+64<cLine){s1:Shared}(I1:Inv X Ab σ H s1)(T:TupsAt H f ts)(i:(∀t∈ts,t≠[])\/∃ts',ts=[]::ts')(hz:f.length<=B89)
  (q:∀ a rs' ts',H a=none->rs'.Perm f->TupsAt H rs' ts'->ts'.Perm ts->ts'.Pairwise (fun a b=>HT.lexLt b a=false)->Q (.ref a) (Ag H a (.lst (rs'.map V.ref)))):wpAny (model X.prog X.w) X.A.in1 (do
   let l <- newList (f.map D6)
   let _ <- C49 [l] (call (.builtin "list.sort") [l] [])
   ret l) (λfin s'=>∃r,fin=.done (.ret r)/\EP X Ab σ Q r s') X.xe s1:=by
 refine B87 (wpAny_newList ?_ (by rw[A0];exact hz))
 have g:=I1.hok.fresh (A9 s1.heap.objs.size);have h:=I1.laid (a:=s1.heap.objs.size) (t':=s1.toks) (o:=.lst (f.map V.ref)) (h':=s1.heap.push {cls:=.type "list",data:=.seq (f.map D6).toArray}) (λb u e=>A4 _ e) (A9 _) ⟨by rw[A0];exact hz,_,0,qJK f,B7 _ rfl⟩
 refine B87 (C00 (B96 (qSY (E:=X.xe) h g T i (by show X.A.units+1+8<cLine;lia) λrs' ts' a b c d=>q _ rs' ts' g a b c d) (λ_ s' x=>?_) λ_ _ e=>e))
 exact B88 ⟨_,rfl,x⟩
theorem call_sortedTL (hc:X.calm=true) (i:X.A.units+64<cLine):qCQ X (.builtin "sorted") (fun xs H Q=>∃ p rs ts,xs=[.ref p]/\SqL X.K H p (rs.map V.ref)/\TupsAt H rs ts/\(∀ t ∈ ts,t ≠ [])/\
  ∀a rs' ts',H a=none->rs'.Perm rs->TupsAt H rs' ts'->ts'.Perm ts->ts'.Pairwise (λa b=>HT.lexLt b a=false)->Q (.ref a) (Ag H a (.lst (rs'.map V.ref)))):=by
 intro Ab s σ H xs us Q I r h;obtain⟨p,rs,ts,rfl,k,T,e,q⟩:=h;obtain⟨u,rfl,v⟩:=qEC r;cases v;refine A26 kind_sorted plain_sorted entry_sorted (args_sorted1 _) ?_;unfold Builtin.«sorted»;refine B87 (m:=checkCount "sorted" 1 1 _) (B88 ?_);obtain⟨x,g,z,d⟩:=I.list k;obtain⟨o,ho,f,n,y⟩:=z.isList;have c:=g.length;have w:=qEN g;subst w;refine B87 (wpAny_collect_seq p (.inl rfl) ho f y (λj l=>?_) (by rw[B6,<- c];exact d))
 have:=qOO (s1:={s with heap:=j}) i (I.kept (t':=s.toks) l) T (.inl e) (by rw[A0] at d;exact d) q
 exact this
end
end L2.G
namespace L2
open PySem PySem.Spec PyProof.Rows
variable{X:Cx}
def bExp (sp:Sp)(ta:TA):TB:=λG D σ H=>ta σ H λvs H1=>sp vs H1 (λ_ H2=>D.nx σ H2) λcls dd H2=>G σ cls dd H2
theorem qTF {d:Str} {a:Expr} {b:List Expr} {m g p:Pos} {n:TA} {k:Nat} {f:Addr} {o:C02} {ps:List Str} {sp:Sp} 
  (F:FnOk X.prog X.w X.K X.mg X.base (CX1 X.prog X.w) k f o ps sp) (hr:Room k X.A) (t:Gl X d) (hm:X.mg d=some (.ref f)) (hk:J1 X.K (.ref f)=true) (hb:Binds X.K o ps [])
  (ha:PA X.nox (a::b) n)
  (hs:swapsWith (.Call (.Name d m) (a::b) [] g) none p.line X.env=pure false:=by rfl)
  (l:(d==("__debug__" : Str))=false:=by decide)
  (y:B95 (a::b) X.env=(false,eval a X.env)::B95 b X.env:=by rfl) (j:(backTo g (B95 b X.env)).any (·.1)=false:=by rfl):
  PB X (.Expr (.Call (.Name d m) (a::b) [] g) p) (bExp sp n):=by
 intro Ab s σ H D G I h;refine wpAny_Expr_any ?_ I.quiet hs;refine C34 (qK0 I t hm ?_ l);refine A14 (h₀:=X.base) I.ok.mod.kin hk (B96 (ha g Ab s σ H _ (I.wish _) h) (λus s1 ⟨vs,H1,I1,r,q⟩=>?_) λ_ _ z=>z.elim) y j;have I1:=I1.unwish;refine⟨I1.kIn,?_⟩;have hl:us.length=ps.length:=by rw[<- r.length];exact F.len _ _ _ _ q
 have c:=hb s1 us I1.kIn (by rw[M6];exact hl)
 rw[M6] at c;refine C63 (C32 (F.run X.A X.stack s1 H1 ⟨us,[]⟩ us vs _ _ hr I1.env0 c r q) λi s2 e=>?_);cases i with
 |ok fl=>
  cases fl with
  |ret u=>
   obtain⟨v,H2,x,rv,q2⟩:=I1.after e;exact⟨_,H2,x,q2⟩
  |next=>exact V2 e
  |brk=>exact V2 e
  |cont=>exact V2 e
 |error ev=>exact⟨σ,H1,s1,_,I1,e,λ_ _ _ z=>z⟩
theorem qbO {K:Ab1} {o e:Expr} {es:List Expr} {j:TE} {t:TA} {name:Str} {c a:Pos} {T id:String} {r:V->List V->Hp->VK->Prop} (q:X.K=K) (k:PlainAttrs T) (g:Slot T name id) (i:typeOf (.builtin id)=pure (.type "method_descriptor")) (n:MtR X id r) (p:PE X o j) (m:PA X (e::es) t)
  (f:C57 o name X.env (eval o X.env)=eval o X.env:=by rfl)
  (h:((backTo a (B95 (e::es) X.env)).all (fun x=>!x.1) && (backToKw a (keywordEach [] X.env)).all (fun x=>x.1.isSome)
   && decide ((e::es).length+([]:List C50).length+(if([]:List C50).isEmpty then 0 else 1)<30))=true:=by rfl)
  (d:(c.endLine==a.line)=true:=by rfl) (l:B95 (e::es) X.env=(false,eval e X.env)::B95 es X.env:=by rfl) (b:(backTo a (B95 es X.env)).any (·.1)=false:=by rfl):
  PE X (.Call (.Attribute o name c) (e::es) [] a) (tBM K T r j t):=by
 subst q;exact qEH k g i n p m f h d l b
def qVQ (r d:Addr):HO:=.ext λh=>h.get? r=some {cls:=.type "dict_values",data:=.fields #[.ref d]}
def qYX:V->List V->Hp->VK->Prop:=λx vs H Q=>E2 λ(d:Addr) (Af:List (Key×V))=>x=.ref d/\vs=[]/\H d=some (.dK Af)/\∀r,H r=none->Q (.ref r) (Ag H r (qVQ r d))
theorem qTU:MtM X "dict.values" qYX:=by
 intro p s σ H x t v m Q I k g h;obtain⟨d,l,rfl,rfl,i,q⟩:=h;cases k;cases g;obtain⟨r,j,z,f,c⟩:=qUX I.hok i;refine call_meetsIn F.slot_dict_values c.typeIs F.entry_dict_values (F.args_dict_values_1 _) (meets_dict_values (qBN X.prog X.w) d j) ⟨⟨_,c⟩,.ref s.heap.objs.size,_,I.laid (a:=s.heap.objs.size) (o:=qVQ s.heap.objs.size d) (t':=s.toks) (λb u e=>A4 _ e) (A9 _) ?_,rfl,q _ (I.hok.fresh (A9 _))⟩;exact⟨B7 _ rfl,⟨_,B7 _ rfl⟩,λy n a b=>b _ a⟩
def qPQ {κ:Type} :∀{Af:List (κ×V)} {vs:List (κ×Value)},KV Af vs->Vals (Af.map (·.2)) (vs.map (·.2))
 |[],[],_=>.nil
 |_::_,_::_,.cons h r=>.cons h.2 (qPQ r)
theorem qS3 (hc:X.calm=true):qCQ X (.type "list") (fun xs H Q=>∃ (r d:Addr) (Af:List (Key × V)),xs=[.ref r]/\H r=some (qVQ r d)/\H d=some (.dK Af)/\
  ∀l,H l=none->Q (.ref l) (Ag H l (.lst (Af.map (·.2))))):=by
 intro Ab s σ H xs us Q I t h;obtain⟨r,d,Af,rfl,hr,hq,q⟩:=h;obtain⟨u,rfl,rx⟩:=qEC t;cases rx;obtain⟨m,hd,k,c,dd⟩:=qUX I.hok hq;obtain⟨ep,z⟩:=dd.dictAt;have p:k.length=Af.length:=c.length.symm;have i:s.heap.get? r=some {cls:=.type "dict_values",data:=.fields #[.ref d]}:=(show ObjOk X.prog X.w H s.heap r (qVQ r d) from I.hok r _ hr).1;refine B31 (PySem.W.kdl_values (r:=r) (ep:=ep)) (I.ok.hd hc) ⟨⟨_,i,rfl,rfl⟩,z⟩ (by rw[p];exact m) λh' x f c' e g b=>?_
 obtain⟨n,y⟩:=b;have ea:f.toList=k.map (·.2):=PySem.W.kdl_vals_eq _ (by rw[C4,n]) λj v i=>y j v (by rw[<- G8];exact i)
 refine⟨.ref s.heap.objs.size,_,I.laid (a:=s.heap.objs.size) (o:=.lst (Af.map (·.2))) (t':=x) e (A9 _) ⟨by rw[A0];exact m,f.toList,c',by rw[ea];exact qPQ c,by simpa using g⟩,rfl,q _ (I.hok.fresh (A9 _))⟩
theorem qVH:qCQ X (.builtin "len") (λxs H Q=>∃p zs,xs=[V.ref p]/\H p=some (SetM X.w p zs)/\Q (.int (zs.length:Nat)) H):=by
 intro m s σ H xs k Q I r h;obtain⟨p,zs,rfl,d,q⟩:=h;obtain⟨u,rfl,g⟩:=qEC r;cases g;obtain⟨c,_⟩:=(show ObjOk X.prog X.w H s.heap p (SetM X.w p zs) from I.hok p _ d);obtain⟨f,z,t,n,j,T,e,a,v,y,o⟩:=c;have i:f.size=zs.length:=by
  have:=B4 e;simp at this;rw[<- a.length_eq,<- this]
 refine call_len_set j ?_ rfl (T.fits (by lia)) (by lia) ?_
 ·exact⟨rfl,rfl,rfl⟩
 ·rw[i];exact⟨.int zs.length,H,I.tok _,⟨_,rfl⟩,q⟩
def lowI (b:Int)(l:List Int):Int:=l.foldl (λb x=>if x<b then x else b) b
theorem qU1:∀(l:List Int) (b:Int),lowI b l<=b/\(∀x∈l,lowI b l<=x)/\(lowI b l=b\/lowI b l∈l)
 |[],b=>⟨J9 _,(λ_ z=>nomatch z),.inl rfl⟩
 |y::l,b=>by
  obtain⟨h1,h2,h3⟩:=qU1 l (if y<b then y else b)
  have e:lowI b (y::l)=lowI (if y<b then y else b) l:=rfl
  rw[e];have hb:(if y<b then y else b)<=b/\(if y<b then y else b)<=y:=by split<;>lia
  refine⟨by lia,λx hx=>?_,?_⟩
  ·rcases B9.mp hx with hx|hx
   ·lia
   ·exact h2 x hx
  ·rcases h3 with h3|h3
   ·split at h3
    ·rw[if_pos (by assumption)]
     exact .inr (by rw[h3];exact A8)
    ·rw[if_neg (by assumption)]
     exact .inl h3
   ·exact .inr (A7 _ h3)
section
variable{prog:B90}{w:World}{A:Around}{R:Result->Shared->Prop}{I:Addr}{fp wr:List Addr}{n:Nat}{P:Nat->Value->Prop}{St:Nat->Heap->Prop}
theorem qZI (W:Walks prog w A.in1 I fp wr n P St)(kw:List (Str×Value))(ns:List Int)(hn:ns.length=n)(a2:∀i v,P i v->∃t,v=.int (ns.getD i 0) t)(S:Addr)(a3:S∉fp):
  ∀(k j:Nat) (s:Shared) (b:Int) (t:Tok) (c:Nat),n-j=k->j<=n->St j s.heap->s.heap.get? S=some {cls:=.type "list",dict:=none,data:=.seq #[.int b t,.int b t] c,slots:=#[]}->
  (∀t' h' tk,(∀x o,x∉wr->x≠S->s.heap.get? x=some o->h'.get? x=some o)->R (.ok (.ret (.int (lowI b (ns.drop j)) t'))) {s with heap:=h',toks:=tk})->
  C18 (model prog w) A (.builtin "min.loop" ⟨[.ref I,.none,.ref S],kw⟩) R s:=by
 have a1:S∉wr:=λh=>a3 (W.sub _ h);have f:(toString "min" ++ toString ".loop" : String) = "min.loop":=by decide
 intro k
 induction k with
 |zero=>
  intro j s b t c hk hj st hS l;have e:j=n:=by lia
  refine C09 A55 ?_;rw[L7 V5 _];show wpAny _ A.in1 (seqItems? (.ref S) >>= _) _ _ s;refine B87 (C07 hS rfl ?_);show wpAny _ A.in1 (tryCatch (pyNext (.ref I)) _ >>= _) _ _ s;refine B87 (C14 (W.done s _ _ (e▸st) λh' tk a=>?_));show wpAny _ A.in1 (updateSeq S (λ_=>#[]) >>= _) _ _ _;refine B87 (C29 (a S _ a1 hS) rfl (B87 (C20 (B88 ?_))));rw[A63 (by lia)] at l
  exact l t _ tk λx o g d p=>(D5 _ _ (K9 d)).trans (a x o g p)
 |succ k ih=>
  intro j s b t c hk hj st hS l;have r:j<n:=by lia
  refine C09 A55 ?_;rw[L7 V5 _];show wpAny _ A.in1 (seqItems? (.ref S) >>= _) _ _ s;refine B87 (C07 hS rfl ?_);show wpAny _ A.in1 (tryCatch (pyNext (.ref I)) _ >>= _) _ _ s;refine B87 (C14 (W.item j s _ _ r st λv h' tk hP a4 a=>?_));have m:=a S _ a1 hS;obtain⟨u,rfl⟩:=a2 j v hP;have ed:ns.drop j=ns.getD j 0::ns.drop (j+1):=by
   have a5:j<ns.length:=by lia
   rw[i5 a5,M9,A5 a5]
   rfl
  rw[ed] at l;generalize ns.getD j 0=y at l hP ⊢;show wpAny _ A.in1 (tryCatch (C49 [R4 y u,R4 y u] (richCompare .Lt (.int y u) (.int b t) >>= _)) _ >>= _) _ _ _;refine B87 (C14 (C00 (B87 (richCompare_gives (op:=.Lt) (C52 _ _ u) (C52 _ _ t) F.slot_int_lt F.entry_int_lt (F.args_int_lt_2 _ _) (gives_int_lt _ _ u t) (λx=>nomatch x) (B87 (C00 (C08 (B87 (C20 (B88 ?_))))))))));by_cases hb:y<b
  ·rw[decide_eq_true hb,if_pos rfl];have et:lowI b (y::ns.drop (j+1))=lowI y (ns.drop (j+1)):=by show lowI (if y<b then y else b) _=_;rw[if_pos hb]
   rw[et] at l;refine B87 (C29 m rfl (B87 (C20 ?_)));rw[f];refine B88 ⟨C12 V5 _,ih (j+1) _ y u _ (by lia) r (W.frame _ _ _ a4 λx g o p=>?_) (L0 _ m rfl) λt' h2 q a0=>?_⟩
   ·exact(D5 _ _ (λz:S=x=>a3 (by rw[z];exact g))).trans p
   ·exact l t' h2 q λx o g d p=>a0 x o g d ((D5 _ _ (K9 d)).trans (a x o g p))
  ·rw[decide_eq_false hb,if_neg B8];have et:lowI b (y::ns.drop (j+1))=lowI b (ns.drop (j+1)):=by show lowI (if y<b then y else b) _=_;rw[if_neg hb]
   rw[et] at l;refine B87 (C20 ?_);rw[f];exact B88 ⟨C12 V5 _,ih (j+1) _ b t c (by lia) r a4 m λt' h2 q a0=>l t' h2 q λx o g d p=>a0 x o g d (a x o g p)⟩
theorem qTY (W:Walks prog w A.in1 I fp wr n P St)(kw:List (Str×Value))(ns:List Int)(l:ns.length=n)(b:∀i v,P i v->∃t,v=.int (ns.getD i 0) t)(S:Addr)(e:S∉fp){s:Shared}{c:Nat}(st:St 0 s.heap)
  (hS:s.heap.get? S=some {cls:=.type "list",dict:=none,data:=.seq #[] c,slots:=#[]})
  (h1:∀y r,ns=y::r->∀t' h' tk,(∀x o,x∉wr->x≠S->s.heap.get? x=some o->h'.get? x=some o)->R (.ok (.ret (.int (lowI y r) t'))) {s with heap:=h',toks:=tk})
  (q:ns=[]->∃nm dv,kw=[(nm,dv)]/\∀h' tk,(∀x o,x∉wr->x≠S->s.heap.get? x=some o->h'.get? x=some o)->R (.ok (.ret dv)) {s with heap:=h',toks:=tk}):
  C18 (model prog w) A (.builtin "min.loop" ⟨[.ref I,.none,.ref S],kw⟩) R s:=by
 have m:S∉wr:=λh=>e (W.sub _ h);have d:(toString "min" ++ toString ".loop" : String) = "min.loop":=by decide
 refine C09 A55 ?_;rw[L7 V5 _];show wpAny _ A.in1 (seqItems? (.ref S) >>= _) _ _ s;refine B87 (C07 hS rfl ?_);show wpAny _ A.in1 (tryCatch (pyNext (.ref I)) _ >>= _) _ _ s;cases ns with
 |nil=>
  obtain⟨nm,dv,rfl,h3⟩:=q rfl;refine B87 (C14 (W.done s _ _ (l▸st) λh' tk a=>?_));show wpAny _ A.in1 (rule _ >>= λ_=>ret dv) _ _ _;exact B87 (C13 (B88 (h3 _ tk λx o f _ j=>a x o f j)))
 |cons y r=>
  refine B87 (C14 (W.item 0 s _ _ (by rw[<- l];simp) st λv h' tk hP a0 a=>?_))
  have g:=a S _ m hS;obtain⟨u,rfl⟩:=b 0 v hP;show wpAny _ A.in1 (updateSeq S (λ_=>#[R4 y u,R4 y u]) >>= _) _ _ _;refine B87 (C29 g rfl ?_);rw[d];refine B88 ⟨C12 V5 _,qZI W kw (y::r) l b S e _ 1 _ y u _ rfl (by rw[<- l];simp) (W.frame _ _ _ a0 λx f o j=>?_) (L0 _ g rfl) λt' q p a1=>?_⟩
  ·exact(D5 _ _ (λz:S=x=>e (by rw[z];exact f))).trans j
  ·exact h1 y r rfl t' q p λx o f k j=>a1 x o f k ((D5 _ _ (K9 k)).trans (a x o f j))
end
def lowD (dv:Option Int):List Int->Option Int
 |[]=>dv
 |y::r=>some (lowI y r)
theorem qZJ {Ab:Aa2} {σ:St} {H:Hp} {Q:VK} {p:Addr} {ns:List Int} {j:List (Str×Value)} {l:Option Int} (hc:X.calm=true)(I:Inv X Ab σ H s)(hq:SqL X.K H p (ns.map V.int))
  (ok:argsOk "min" ⟨[.ref p],j⟩) (u:Option Value) (hb:U6 "min" ["key","default"] 0 ⟨[],j⟩=pure [none,u]) (a0:u=none/\l=none\/∃d t,u=some (.int d t)/\l=some d)
  (m:Int) (k:lowD l ns=some m) (q:Q (.int m) H):wpAny (model X.prog X.w) X.A (call (.builtin "min") [.ref p] j) (EP X Ab σ Q) X.xe s:=by
 obtain⟨x,rv,pl,hz⟩:=I.list hq;have z:=pl.isList;have h:p<s.heap.objs.size:=by obtain⟨_,e,_⟩:=z;exact B5 e
 have a:=rv.length;rw[A0] at a;have ia:=qDV rv;have f:(toString "min" ++ toString ".loop" : String) = "min.loop":=by decide
 refine qIR F.kind_min F.plain_min F.entry_min ok ?_;show wpAny _ _ (U6 "min" ["key","default"] 0 ⟨[],j⟩ >>= _) _ _ s;refine B87 (C37 hb (B87 (B88 (B87 (C23 z (B87 (B98 ?_)))))));rw[f];have w0:X.A.in1.handled=none:=I.ok.hd hc;refine B88 ⟨_,rfl,C12 V5 _,qTY (A79 w0 _ p (D7 h) x.toArray) _ ns (by simpa using a) (λi v hv=>?_) _ ?_ (c:=0) ?_ (B7 _ rfl) ?_ ?_⟩
 ·exact b9 ia i v (by simpa using hv)
 ·simp only[M7,B9,T4,or_false,not_or];exact⟨x6 _,V8 (O2 h)⟩
 ·exact⟨⟨_,A4 _ (B7 _ rfl),rfl,rfl⟩,(z.push _).push _⟩
 ·intro y r e t' h' n hk;subst e;cases k;refine⟨_,rfl,.int _,H,I.kept (t':=n) λb o g=>hk b o ?_ ?_ (A4 _ (A4 _ g)),⟨t',rfl⟩,q⟩
  ·simp only[B9,T4,or_false];exact D7 (B5 g)
  ·rw[M7];exact D7 (O2 (B5 g))
 ·intro e;subst e;rcases a0 with⟨_,e2⟩|⟨d,t,rfl,rfl⟩
  ·rw[e2] at k;cases k
  ·cases k;refine⟨_,_,rfl,λh' n hk=>⟨_,rfl,.int _,H,I.kept (t':=n) λb o g=>hk b o ?_ ?_ (A4 _ (A4 _ g)),⟨t,rfl⟩,q⟩⟩
   ·simp only[B9,T4,or_false];exact D7 (B5 g)
   ·rw[M7];exact D7 (O2 (B5 g))
theorem qKH (d:X.calm=true):qCQ X (.builtin "min") (λxs H Q=>∃p ns m,xs=[.ref p]/\SqL X.K H p (ns.map V.int)/\lowD none ns=some m/\Q (.int m) H):=by
 intro f s σ H xs e Q I r h;obtain⟨p,ns,m,rfl,a,c,q⟩:=h;obtain⟨u,rfl,b⟩:=qEC r;cases b;exact qZJ d I a (F.args_min1 _) none rfl (.inl ⟨rfl,rfl⟩) m c q
structure Clb (P:B90)(w:World)(K:Ab1)(mg:Ab0)(base:Heap)(n:Nat)(f:Addr)(fd:C02)(x:Str)(ps:List Str)(sp:Sp):Prop where
 G:FnOk P w K mg base CX0 n f fd ps sp
 b:Binds K fd ps []
 k:J1 K (.ref f)=true
 m:mg x=some (.ref f)
theorem qB4 {X:Cx} {n k:Nat} {f:Addr} {o:C02} {x:Str} {ps:List Str} {sp:Sp} {e:Expr} {es:List Expr} {t:TA} {p a:Pos} (C:Clb X.prog X.w X.K X.mg X.base n f o x ps sp)(j:Room k X.A)(i:Gl X x)
  (l:PA X (e::es) t) (c:n<=k:=by decide) (g:(x==("__debug__" : Str))=false:=by decide) (h:B95 (e::es) X.env=(false,eval e X.env)::B95 es X.env:=by rfl) (d:(backTo a (B95 es X.env)).any (·.1)=false:=by rfl):
  PE X (.Call (.Name x p) (e::es) [] a) (qb3 sp [] E0 t):=qDR C.G (j.mono c) i C.m C.k C.b .nil qbR l g h d
def nmD {i:Nat} {t u:TS} {D:Ends} {x:V} {σ:St} {H:Hp} (h:∀D':Ends,(∀σ H,D.nx σ H->D'.nx σ H)->(∀v H,D.rt v H->D'.rt v H)->tSeq t u D' (σ.set i (some x)) H):qUL i x σ H λσ2 H2=>tSeq t u D σ2 H2:=h D (λ_ _ z=>z) λ_ _ z=>z
def nmT {t u:TS} {D:Ends} {σ:St} {H:Hp} (h:∀D':Ends,(∀σ H,D.nx σ H->D'.nx σ H)->(∀v H,D.rt v H->D'.rt v H)->tSeq t u D' σ H):tSeq t u D σ H:=h D (λ_ _ z=>z) λ_ _ z=>z
def Tf (K:Ab1)(x:Str)(s:Stmt)(f:Addr):Prop:=W5 K C01 x=some (some (.ref f))/\∃fd,Fun K x x s f fd
def Tf.use {K:Ab1} {h:Heap} {mg:Ab0} {x:Str} {s:Stmt} {f:Addr} (X:K.In h)(G:h.Ns C01 mg)(T:Tf K x s f):∃fd,Fun K x x s f fd/\mg x=some (.ref f):=
 let⟨a,fd,F⟩:=T
 ⟨fd,F,k7 X G a⟩
def Tf.clb {K:Ab1} {h base:Heap} {mg:Ab0} {x:Str} {s:Stmt} {f:Addr} {n:Nat} {ps:List Str} {sp:Sp} (X:K.In h)(G:h.Ns C01 mg)(T:Tf K x s f)(a:∀fd,Fun K x x s f fd->FnOk P w K mg base CX0 n f fd ps sp)
  (b:∀(kV doc pm:Value) (an:Option Addr) (cdv ct:Value) (us:List Value),us.length=ps.length->bindArgs (W1 x x (qFQ s) (qDY s) (qAC s) .none kV doc pm an cdv ct) ⟨us,[]⟩=pure (ps.zip us)):∃fd,Clb P w K mg base n f fd x ps sp:=
 let⟨fd,F,m⟩:=T.use X G
 ⟨fd,a fd F,F.binds b,F.kp,m⟩
def Zs (K:Ab1):List Str->Prop
 |[]=>True
 |x::r=>W5 K C01 x=some none/\Zs K r
def Zm (mg:Ab0):List Str->Prop
 |[]=>True
 |x::r=>mg x=none/\Zm mg r
def Zs.mg {K:Ab1} {h:Heap} {mg:Ab0} (X:K.In h)(G:h.Ns C01 mg):∀{l:List Str},Zs K l->Zm mg l
 |[],_=>trivial
 |_::_,⟨a,b⟩=>⟨PySem.W.mg_none_of X G a,Zs.mg X G b⟩
theorem qCF {N P:List Str} {a:Scope} (f:a.kind=.function:=by rfl)(b:a.isCoroutine=false:=by rfl)(e:a.isGenerator=false:=by rfl)(c:N.Nodup:=by decide +kernel)(d:N.take P.length=P:=by rfl)(h:∀x∈P,a.names.lookup x=some .local\/a.names.lookup x=some .cell:=by decide +kernel)(g:∀y∈a.names,y.2≠.free:=by decide +kernel):FnScope N P a:=⟨f,b,e,c,d,h,g⟩
section
variable{P:B90}{w:World}{K:Ab1}{mg:Ab0}{base:Heap}
theorem Fun.okA {x a:Str} {st:Stmt} {f:Addr} {d:C02} {N ps:List Str} {k:Nat} {sp:Sp} (F:Fun K x a st f d)(S:FnScope N ps (qAC st))
  (b:∀ (cdv:Value) (A:Around) (outer:List Env) (s:Shared) (H:Hp) (vs:List V) (Q:VK) (E:XK),Room k (A.deeper (envOfC a (qAC st) s.heap.objs.size f cdv))->sp vs H Q E->
   ∃t,PSs (cxOf CX0 P w K mg base N a (qAC st) f cdv A outer s H E).nox (qDY st) t/\t {nx:=λ_ H'=>Q .non H',rt:=Q} (start N vs) H)
  (c:∀vs H Q E,sp vs H Q E->vs.length=ps.length:=by intro vs H Q E h;(repeat (cases h;rename_i h));subst_vars;rfl):FnOk P w K mg base CX0 (k+1) f d ps sp:=F.ok S c b
@[elab_as_elim] theorem us5 {α:Type}{P:List α->Prop}(f:List α)(g:f.length=5)(h:∀a b c d e,P [a,b,c,d,e]):P f:=by
 match f,g with
 |[a,b,c,d,e],_=>exact h a b c d e
def Bs (P:B90)(w:World)(base:Heap):Prop:=P=P/\w=w/\base=base
theorem Tf.c {h:Heap} {x:Str} {s:Stmt} {f:Addr} {n:Nat} {ps:List Str} {sp:Sp} (X:K.In h)(G:h.Ns C01 mg)(B:Bs P w base)(T:Tf K x s f)(a:∀fd,Fun K x x s f fd->FnOk P w K mg base CX0 n f fd ps sp)
  (b:∀ (kV doc pm:Value) (an:Option Addr) (cdv ct:Value) (us:List Value),us.length=ps.length->bindArgs (W1 x x (qFQ s) (qDY s) (qAC s) .none kV doc pm an cdv ct) ⟨us,[]⟩=pure (ps.zip us):=by
   intro _ _ _ _ _ _ us hl;first|exact us1 us hl (λ_=>rfl)|exact us2 us hl (λ_ _=>rfl)|exact us3 us hl (λ_ _ _=>rfl)|exact us4 us hl (λ_ _ _ _=>rfl)|exact us5 us hl (λ_ _ _ _ _=>rfl)|exact us0 us hl rfl):∃fd,Clb P w K mg base n f fd x ps sp:=T.clb X G a b
end
section
variable{X:Cx}{pos:Pos}
theorem qCH {x:Str} (i:Nat)(a:X.N.Nodup:=by exact qdK (by kernel_rfl))(hi:X.N[i]?=some x:=by rfl)(b:Loc X.env.scope x:=by exact G2 rfl)(c:X.fn x=true\/X.env.scope.names.lookup x=some .local:=by first|exact .inl rfl|exact .inr rfl|assumption):PG X (.Name x pos) (qUL i):=qAS a hi b c
end
abbrev TJ:=St->Hp->(Hp->Prop)->Prop
def PJ (X:Cx)(es:List Expr)(t:TJ):Prop:=∀(Ab:Aa2) (s:Shared) (σ:St) (H:Hp) (acc:Str) (R:Hp->Prop),Inv X Ab σ H s->acc.length+2000*es.length<=B89->t σ H R->
 Joins (model X.prog X.w) X.A X.xe (evalEach es X.env) acc (λout s1=>out.length<=B89/\∃H1,Inv X Ab σ H1 s1/\R H1) s
def jNil:TJ:=λ_ H R=>R H
def jInt (te:TE)(t:TJ):TJ:=λσ H R=>te σ H λv H1=>∃i:Int,v=.int i/\(-1000000000<=i/\i<=1000000000)/\t σ H1 R
theorem qbJ:PJ X [] jNil:=λb s σ H a R I c h=>⟨by lia,H,I,h⟩
theorem qXQ {x:Str} {j:Nat} {a:Pos} {es:List Expr} {t:TJ} (f:x.length<=2000)(h:PJ X es t):PJ X (.Constant (.str x) j a::es) t:=by
 intro d s σ H b R I c e;show wpAny _ _ (eval (.Constant (.str x) j a) X.env) _ _ _;refine Calls.Constant_str ⟨x,_,rfl,?_,?_⟩
 ·rw[strLen_append];rw[C9] at c
  lia
 ·refine h d _ σ H (b++x) R (I.tok _) ?_ e;rw[strLen_append];rw[C9] at c
  lia
theorem qXR {e:Expr} {a:Pos} {es:List Expr} {g:TE} {t:TJ} (l:PE X e g)(h:PJ X es t):PJ X (.FormattedValue e (-1) none a::es) (jInt g t):=by
 intro c s σ H m R I d j;show wpAny _ _ (eval (.FormattedValue e (-1) none a) X.env) _ _ _;refine PyProof.Rows.FormattedValue_plain (B96 (l c s σ H _ I j) (λu s1 ⟨v,H1,I1,r,q⟩=>?_) λ_ _ z=>z);obtain⟨i,rfl,⟨x,o⟩,q⟩:=q;obtain⟨w,rfl⟩:=r;have n:i.natAbs<2^31:=by lia
 have f:i.natAbs.log2<31:=by
  by_cases b:i.natAbs=0
  ·rw[b];decide
  ·exact(Nat.log2_lt b).mpr n
 have p:(J7 (toString i)).length<=2000:=by
  have e:=int_text_length_le (k:=31) (by decide) f
  rw[PySem.ofString_length]
  lia
 refine formatField_int_small (F9 f (by decide)) ⟨_,_,rfl,?_,?_⟩
 ·rw[strLen_append];rw[C9] at d
  lia
 ·refine h c _ σ H1 _ R (I1.tok _) ?_ q;rw[strLen_append];rw[C9] at d
  lia
def qLH {M:Model} {Q Q':Str->Shared->Prop} :∀{l:List (Sem Value)} {acc:Str} {s:Shared},Joins M A E l acc Q s->(∀o s1,Q o s1->Q' o s1)->Joins M A E l acc Q' s
 |[],_,_,h,k=>k _ _ h
 |_::_,_,_,h,k=>B96 h (λ_ _ ⟨y,t,a,b,c⟩=>⟨y,t,a,b,qLH c k⟩) λ_ _ z=>z
def qd4 (t:TJ):TE:=λσ H Q=>t σ H λH1=>∀out:Str,Q (.str out) H1
theorem qZ9 {d e:Expr} {b:List Expr} {c:Pos} {t:TJ} (h:PJ X (d::e::b) t)(i:b.length<=20):PE X (.JoinedStr (d::e::b) c) (qd4 t):=by
 intro f s σ H Q I g;refine JoinedStr_many (wpAny_joinPartsRec _ _ _ _ ?_);have:=h f s σ H Z2 _ I (by rw[B94];simp only[C9];show 0+_<=_;lia) g
 refine qLH this λout s1 ⟨a,H1,I1,q⟩=>⟨a,.str out,H1,I1.tok _,⟨_,rfl⟩,q out⟩
theorem qWF {K:Ab1} (a:X.K=K):OpR X (C22 .Add) (qbG K):=by subst a;exact qOY
def Its (lo c:Int)(n:Nat):It:=⟨λi _=>i<n,λi H x H'=>H'=H/\x=.int (lo+i*c),λi _=>n<=i⟩
theorem qSI {K:Ab1} {tg:Expr} (d:Addr)(lo c:Int)(n:Nat):Turn P w K tg (Its lo c n) [d] d (λi h=>IsRangeIter h d (lo+(i:Nat)*c) ((n:Int)-(i:Nat)) c) where
 mem:=A6.mpr rfl
 obj:=λi h a b f=>by
  cases A6.mp f;exact⟨_,a,λv z=>nomatch(show A40 _=A28 v from z)⟩
 keep:=λi h j a k=>k d (A6.mpr rfl) _ a
 item:=by
  intro X m y hK hc i Ab s σ H E I l a p;subst m y hK;obtain⟨u,q,f2,r,f4,x⟩:=l d (A6.mpr rfl);refine(Walks.range (prog:=X.prog) (w:=X.w) (I.ok.hd hc) d lo c n).item i s _ _ p a λv j tk hv g kk=>?_;obtain⟨t,rfl⟩:=hv;have I1:Inv X Ab σ H {s with heap:=j,toks:=tk}:=I.turned (λb o f e=>kk b o (by simpa using f) e) u q r f4 x
  exact⟨_,rfl,qWW (s:={s with heap:=j,toks:=tk}) (n:="range_iterator") g rfl rfl (by decide) ⟨.int (lo+i*c),H,I1,⟨t,rfl⟩,⟨rfl,rfl⟩,g,λb f=>(l b f).1⟩⟩
 done:=by
  intro X m y hK hc i Ab s σ H E I l a p;subst m y hK;obtain⟨u,q,f2,r,f4,x⟩:=l d (A6.mpr rfl);have a0:n<=i:=p;exact wpAny_pyNext_range_end (I.ok.hd hc) a (by lia) λj eb=>⟨rfl,I.turned (t':=s.toks) (λb o f e=>eb b o f e) u q r f4 x⟩
 self:=λ_ _ _ _ _ a h=>wpAny_pyIter_rangeiter a h
def qdQ (ta:TA):TI:=λσ H R=>ta σ H λvs H1=>E4 λ(i j c:Int) (n:Nat)=>vs=[.int i,.int j,.int c]/\(0<=i/\i<2^40/\0<=j/\j<2^40/\0<c/\c<2^20)/\G5 i j c=(n:Int)/\R (Its i c n) H1
theorem qRC {a b c:Int} (h:0<=a/\a<2^40/\0<=b/\b<2^40/\0<c/\c<2^20):i8 a b c=true:=by
 obtain⟨r,l,p,m,f,t⟩:=h;have d:G5 a b c*c<=2^41/\0<=G5 a b c/\G5 a b c<=2^40:=by
  unfold G5;rw[if_pos f]
  split
  ·have e:=Int.mul_ediv_add_emod (b-a-1) c;have g:=Y0 (b-a-1) (b:=c) (by lia)
   have o:0<=(b-a-1)/c:=Int.ediv_nonneg (by lia) (by lia)
   have s:(b-a-1)/c<=b-a-1:=Int.ediv_le_self _ (by lia)
   rw[Int.add_mul,Int.mul_comm];generalize (b-a-1)/c=q at *
   lia
  ·lia
 unfold i8;simp only[Builtin.Range.rangeFitsLong,C6,A70,decide_eq_true_eq,beq_iff_eq,show c>0 from f,if_true];have j:=d.1;have i:=d.2.2;have k:=d.2.1;have n:0<=G5 a b c*c:=Int.mul_nonneg d.2.1 (by lia)
 generalize G5 a b c=y at *;have g:(y-1)*c=y*c-c:=by rw[Int.sub_mul,B50]
 generalize y*c=z at *
 lia
theorem qZ7 {tg a b c:Expr} {v:TA} {p d:Pos} (x:Gl X "range") (hm:X.mg "range" = none) (ha:PA X [a,b,c] v) (hs:B95 [a,b,c] X.env=[(false,eval a X.env),(false,eval b X.env),(false,eval c X.env)]:=by rfl)
  (g:B95 [b,c] X.env=[(false,eval b X.env),(false,eval c X.env)]:=by rfl):PI X tg (.Call (.Name "range" p) [a,b,c] [] d) (qdQ v):=by
 intro w s σ H R I h;refine Call_ (qIO I x hm boot_range (P4 (thn (ha d w s σ H _ I h) λus s1 ⟨vs,H1,I1,r1,q1⟩=>?_) (by rw[hs,g]) (by rw[g];rfl)))
 obtain⟨i,j,c,n,e,bb,en,q⟩:=q1;subst e;obtain⟨u1,f,rfl,⟨m,rfl⟩,z⟩:∃u f,us=u::f/\RelV (.int i) u/\Vals [.int j,.int c] f:=by cases r1 with|cons r f=>exact⟨_,_,rfl,r,f⟩
 obtain⟨u2,u3,rfl,⟨t,rfl⟩,⟨l,rfl⟩⟩:=qOI z;refine call_range_3 (by lia) ?_ (G2 (m4 (by lia)))
 refine wpAny_pyIter_range (B83 ..) (qRC bb) ?_;have k:Inv X w σ H1 {s1 with heap:=s1.heap.push {cls:=.type "range",data:=.fields #[.int i m,.int j t,.int c l]},toks:=s1.toks}:=I1.kept λb o e=>A4 _ e;refine⟨(s1.heap.push {cls:=.type "range",data:=.fields #[.int i m,.int j t,.int c l]}).objs.size,[(s1.heap.push {cls:=.type "range",data:=.fields #[.int i m,.int j t,.int c l]}).objs.size],_,_,H1,rfl,
  k.kept (t':=s1.toks) λb o e=>A4 _ e,qSI _ i c n,?_,λb hb=>?_,q⟩
 ·have e1:i+((0:Nat):Int)*c=i:=by simp
  have y:(n:Int)-((0:Nat):Int)=G5 i j c:=by rw[en];simp
  show IsRangeIter _ _ (i+((0:Nat):Int)*c) ((n:Int)-((0:Nat):Int)) c;rw[e1,y];exact B7 _ rfl
 ·cases A6.mp hb;exact k.fpOk (A9 _) (k.hok.fresh (A9 _))
theorem qQS {K:Ab1} {b:Bool} {l m:Addr} {xs ys:List V} {g:TG} {h:TS} {D:Ends} {σ0:St} {H0:Hp} (j:ys.length<=xs.length)(Pv:Nat->St->Hp->Prop)(p:Pv 0 σ0 H0)(s:∀i σ H,i<=ys.length->Pv i σ H->SqB b K H l xs/\SqB b K H m ys)
  (r:∀i x y σ H T,xs[i]?=some x->ys[i]?=some y->Pv i σ H->H T=none->g (.ref T) σ (Ag H T (.tup [x,y])) λσ2 H2=>h {D with nx:=Pv (i+1),ct:=Pv (i+1),bk:=D.nx} σ2 H2)
  (k:∀σ H,Pv ys.length σ H->D.nx σ H):
  ∃W:Nat->Nat->St->Hp->Prop,(∃m,W 0 m σ0 H0)/\∀i n σ H,W i n σ H->
   ((Itz K b l m).stop i H/\D.nx σ H)\/((Itz K b l m).go i H/\∃N:St->Hp->Prop,(∀σ' H',N σ' H'->∃m',m'<n/\W (i+1) m' σ' H')/\∀x H',(Itz K b l m).yld i H x H'->g x σ H' λσ2 H2=>h {D with nx:=N,ct:=N,bk:=D.nx} σ2 H2):=by
 refine⟨λi n σ H=>n=ys.length-i/\i<=ys.length/\Pv i σ H,⟨ys.length,by simp,G6 _,p⟩,?_⟩
 rintro i n σ H ⟨rfl,hi,q⟩;have a:=s i σ H hi q;by_cases d:i<ys.length
 ·refine .inr ⟨⟨xs,ys,xs[i]'(by lia),ys[i],a.1,a.2,A5 _,by simp[d]⟩,Pv (i+1),λσ' H' u=>⟨ys.length-(i+1),by lia,rfl,d,u⟩,λv H' y=>?_⟩
  obtain⟨T,x,y,w,t,o,f⟩:=y;subst t o;exact r i x y σ H T (f xs ys a.1 a.2).1 (f xs ys a.1 a.2).2 q w
 ·have e:i=ys.length:=by lia
  subst e;by_cases c:ys.length<xs.length
  ·exact .inl ⟨⟨xs,a.1,.inr ⟨ys,xs[ys.length],a.2,A5 _,A9 _⟩⟩,k σ H q⟩
  ·exact .inl ⟨⟨xs,a.1,.inl (by lia)⟩,k σ H q⟩
end L2
namespace Fw
open PySem L2
theorem qBA:B97 "len" = some (.builtin "len"):=by decide +kernel
theorem qKJ:B97 "min" = some (.builtin "min"):=by decide +kernel
theorem qR3:B97 "max" = some (.builtin "max"):=by decide +kernel
theorem qE0:B97 "sorted" = some (.builtin "sorted"):=by decide +kernel
theorem qVJ:B97 "divmod" = some (.builtin "divmod"):=by decide +kernel
theorem qKL:B97 "all" = some (.builtin "all"):=by decide +kernel
theorem qAF:B97 "isinstance" = some (.builtin "isinstance"):=by decide +kernel
theorem qKK:B97 "int" = some (.type "int"):=by decide +kernel
theorem qPL:B97 "bool" = some (.type "bool"):=by decide +kernel
theorem qY9:B97 "str" = some (.type "str"):=by decide +kernel
theorem qDB:B97 "list" = some (.type "list"):=by decide +kernel
theorem qB9:B97 "tuple" = some (.type "tuple"):=by decide +kernel
theorem qR1:B97 "set" = some (.type "set"):=by decide +kernel
theorem qR2:B97 "range" = some (.type "range"):=by decide +kernel
theorem qIT:B97 "enumerate" = some (.type "enumerate"):=by decide +kernel
structure StAt (H:Hp)(d c:Addr)(t:Int)(ns:List Int):Prop where
 dict:H d=some (.dK [(P6 "cells",.ref c),(P6 "turn",.int t)])
 list:H c=some (.lst (ns.map V.int))
 ne:0<ns.length
 len:ns.length<=63
 pos:0<=t
def Keep (d c:Addr)(H H':Hp):Prop:=∀b o,H b=some o->b≠d->b≠c->H' b=some o
def Keep.refl {d c:Addr} {H:Hp} :Keep d c H H:=λ_ _ h _ _=>h
def Keep.trans {d c:Addr} {H H1 H2:Hp} (a:Keep d c H H1)(b:Keep d c H1 H2):Keep d c H H2:=λx o h n m=>b x o (a x o h n m) n m
def Keep.of_same {d c:Addr} {H H':Hp} (h:Same H H'):Keep d c H H':=λb o e _ _=>h b o e
theorem qA3 {H:Hp} {p:Addr} (h:H p=none)(o:HO):Same H (Ag H p o):=λb u q=>by rw[qA8 (qA9 q h)];exact q
def qF0 {d c:Addr} {H:Hp} {p:Addr} (h:H p=none)(o:HO):Keep d c H (Ag H p o):=.of_same (qA3 h o)
theorem StAt.ndc {H:Hp} {d c:Addr} {t:Int} {ns:List Int} (S:StAt H d c t ns):d≠c:=qCK S.dict S.list (by intro z;cases z)
def StAt.same {H H':Hp} {d c:Addr} {t:Int} {ns:List Int} (S:StAt H d c t ns)(h:Same H H'):StAt H' d c t ns:=⟨h _ _ S.dict,h _ _ S.list,S.ne,S.len,S.pos⟩
def StAt.new {H:Hp} {d c p:Addr} {t:Int} {ns:List Int} (S:StAt H d c t ns)(h:H p=none)(o:HO):StAt (Ag H p o) d c t ns:=S.same (qA3 h o)
theorem s_cs:¬(J7 "cells" = J7 "turn"):=by decide +kernel
def s_ct:¬((P6 (J7 "cells"):Key)=P6 (J7 "turn")):=λh=>s_cs (B82 h)
theorem qaB {H:Hp} {d c:Addr} {t:Int} {ns:List Int} (S:StAt H d c t ns):DGet H d (.str "turn") (some (.int t)):=by
 have h:=DGet.k (k:=P6 "turn") S.dict;rw[qBY s_ct,qBX rfl] at h;exact h
theorem qMK {H:Hp} {d c:Addr} {t:Int} {ns:List Int} (S:StAt H d c t ns):DGet H d (.str "cells") (some (.ref c)):=by
 have h:=DGet.k (k:=P6 "cells") S.dict;rw[qBX rfl] at h;exact h
theorem qW9 (c:Addr) (t u:Int):putK [((P6 "cells" : Key),V.ref c),(P6 "turn",V.int t)] (P6 "turn") (V.int u)=[((P6 "cells" : Key),V.ref c),(P6 "turn",V.int u)]:=by
 unfold putK;simp[s_cs]
theorem qaA {H:Hp} {d c:Addr} {t u:Int} {ns:List Int} (S:StAt H d c t ns):DPut H d (.str "turn") (.int u) (Ag H d (.dK [(P6 "cells",.ref c),(P6 "turn",.int u)])):=by
 have h:=DPut.k (k:=P6 "turn") (v:=.int u) S.dict (by rw[B94];exact(by decide:2<16777216))
 rw[qW9] at h;exact h
theorem StAt.turn {H:Hp} {d c:Addr} {t u:Int} {ns:List Int} (S:StAt H d c t ns) (h:0<=u):StAt (Ag H d (.dK [(P6 "cells",.ref c),(P6 "turn",.int u)])) d c u ns:=
 ⟨qA1,by rw[qA8 (K9 S.ndc)];exact S.list,S.ne,S.len,h⟩
theorem StAt.put {H:Hp} {d c:Addr} {t:Int} {ns a:List Int} (S:StAt H d c t ns)(h:a.length=ns.length):StAt (Ag H c (.lst (a.map V.int))) d c t a:=
 ⟨by rw[qA8 S.ndc];exact S.dict,qA1,by rw[h];exact S.ne,by rw[h];exact S.len,S.pos⟩
abbrev TB:Int:=1000000000
def qL5:Sp:=λvs H Q _=>E5 λd c t ns m=>vs=[.ref d,.int m]/\StAt H d c t ns/\t<=TB/\1<=m/\m<=1000000/\∀k ns' H',0<=k->k<m->StAt H' d c (t+1) ns'->Keep d c H H'->Q (.int k) H'
def qSX (K:Ab1):Sp:=λvs H Q _=>E2 λ(a:Addr) (ns:List Int)=>vs=[.ref a]/\SqL K H a (ns.map V.int)/\ns.length<=63/\∀d c ms H',StAt H' d c 0 ms->Same H H'->H d=none->H c=none->Q (.ref d) H'
noncomputable def cutI {α:Type}(xs:List α)(lo hi:Option Int):List α:=(xs.drop (HT.sIx xs.length 0 lo)).take (HT.sIx xs.length xs.length hi-HT.sIx xs.length 0 lo)
theorem qDK {α:Type} (f:α->V)(xs:List α)(lo hi:Option Int):cutV (xs.map f) lo hi=(cutI xs lo hi).map f:=by
 unfold cutV cutI;rw[A0,<- B75,<- B74]
theorem qX6 {α:Type} (xs:List α)(lo hi:Option Int):(cutI xs lo hi).length<=xs.length:=by
 unfold cutI;rw[D3,J5]
 lia
theorem qXT (c:Addr) (t:Int):qEJ [] [((P6 (J7 "cells"):Key),V.ref c),(P6 (J7 "turn"),V.int t)]=[((P6 (J7 "cells"):Key),V.ref c),(P6 (J7 "turn"),V.int t)]:=by
 unfold qEJ;simp only[X6,B57];unfold putK;simp[s_cs]
theorem qZT {xs:List V} {j:Nat} (h:j<xs.length):ixN xs.length (j:Int)=some j:=by
 unfold ixN;rw[if_pos (by lia),if_pos (by lia),O0]
def qW0 (K:Ab1):Sp:=λvs H Q _=>E2 λ(a:Addr) (ns:List Int)=>vs=[.ref a]/\SqL K H a (ns.map V.int)/\ns.length<=63/\∀H',Q (.bl true) H'
def cut {t u:TS} {D:Ends} {σ:St} {H:Hp} (h:∀N:St->Hp->Prop,(∀σ H,u D σ H->N σ H)->t {D with nx:=N} σ H):tSeq t u D σ H:=h _ λ_ _ z=>z
def opq {A:Prop} (h:∀G:Prop,(A->G)->G):A:=h A id
structure Rise (k:Int)(zs:List Int):Prop where
 up:zs.Pairwise (·<·)
 in_:∀x∈zs,0<=x/\x<k
def Rise.nil {k:Int} :Rise k []:=⟨.nil,λ_ h=>nomatch h⟩
theorem Rise.mono {j k:Int} {zs:List Int} (h:Rise j zs)(l:j<=k):Rise k zs:=⟨h.up,λx a=>⟨(h.in_ x a).1,by have:=(h.in_ x a).2;lia⟩⟩
def Rise.sub {k:Int} {zs ys:List Int} (h:Rise k zs)(s:ys.Sublist zs):Rise k ys:=⟨h.up.sublist s,λx a=>h.in_ x (s.subset a)⟩
theorem Rise.snoc {k:Int} {zs:List Int} (h:Rise k zs)(e:0<=k):Rise (k+1) (zs++[k]):=by
 refine⟨O6.mpr ⟨h.up,k9 _ _,λa c b d=>?_⟩,λx hx=>?_⟩
 ·rw[A6.mp d];exact(h.in_ a c).2
 ·rcases C1.mp hx with hx|hx
  ·have:=h.in_ x hx;lia
  ·rw[A6.mp hx];lia
theorem Rise.shift {k j:Int} {zs:List Int} (h:Rise k zs)(g:0<=j):Rise (k+j) (zs.map (·+j)):=by
 refine⟨P9.mpr (h.up.imp λ{a b} c=>by lia),λx d=>?_⟩
 obtain⟨y,f,e⟩:=C3.mp d;have:=h.in_ y f
 lia
theorem Rise.nodup {k:Int} {zs:List Int} (h:Rise k zs):zs.Nodup:=h.up.imp λ{a b} c=>by lia
theorem Rise.len {zs:List Int} {k:Nat} (h:Rise (k:Int) zs):zs.length<=k:=by
 have a:zs ⊆ (G9 k).map λ(i:Nat)=>(i:Int):=λx b=>by
  have:=h.in_ x b;exact C3.mpr ⟨x.toNat,G3.mpr (by lia),by lia⟩
 have:=D9 h.nodup a;simpa using this
theorem qWG {zs:List Int} {k x:Int} :x∈addI zs k↔x∈zs\/x=k:=by
 unfold addI
 split
 ·rename_i h
  constructor
  ·exact .inl
  ·rintro(z|rfl)
   ·exact z
   ·exact h
 ·simp
theorem qZE {zs:List Int} {k:Int} (h:zs.Nodup):(addI zs k).Nodup:=by
 unfold addI
 split
 ·exact h
 ·rename_i hk
  exact qM7 h hk
theorem qUY:∀(l zs:List Int),zs.Nodup->(l.foldl addI zs).Nodup/\∀x,x∈l.foldl addI zs↔x∈zs\/x∈l
 |[],zs,h=>⟨h,λx=>by simp⟩
 |k::r,zs,h=>by
  obtain⟨a,b⟩:=qUY r (addI zs k) (qZE h);refine⟨a,λx=>?_⟩;rw[X6,b x,qWG,B9,or_assoc]
def qLO (l:List Int):(dedI l).Nodup:=(qUY l [] .nil).1
theorem mem_dedI {l:List Int} {x:Int} :x∈dedI l↔x∈l:=by
 have:=(qUY l [] .nil).2 x;unfold dedI;rw[this];simp
theorem qNO {zs:List Int} (c:zs.Pairwise (·<=·))(d:zs.Nodup):zs.Pairwise (·<·):=by
 have e:zs.Pairwise (λa b=>a<=b/\a≠b):=List.pairwise_and_iff.mpr ⟨c,d⟩;exact e.imp λ{a b} ⟨x,y⟩=>by lia
def qQ5 {k:Int} {a zs:List Int} (b:zs.Perm (dedI a))(d:zs.Pairwise (·<=·))(h:∀x∈a,0<=x/\x<k):Rise k zs:=
 ⟨qNO d (b.nodup_iff.mpr (qLO a)),λx c=>h x (mem_dedI.mp (b.mem_iff.mp c))⟩
def qAJ (lo hi:Int):List Int:=(G9 (hi-lo).toNat).map λ(i:Nat)=>lo+i
theorem qJS (lo hi:Int):qGC lo hi=(qAJ lo hi).map V.int:=by
 unfold qGC qAJ;rw[Q1]
 rfl
theorem mem_rangeI {lo hi x:Int} :x∈qAJ lo hi↔lo<=x/\x<hi:=by
 unfold qAJ;rw[C3]
 constructor
 ·rintro⟨i,a,e⟩;have:=G3.mp a
  lia
 ·intro h;exact⟨(x-lo).toNat,G3.mpr (by lia),by lia⟩
theorem qD0 (lo hi:Int):(qAJ lo hi).length=(hi-lo).toNat:=by unfold qAJ;simp
theorem qHA (lo hi:Int):(qAJ lo hi).Pairwise (·<·):=by
 unfold qAJ;exact P9.mpr (Z5.imp λ{a b} h=>by lia)
theorem qOU {lo hi:Int} (h:0<=lo):Rise hi (qAJ lo hi):=⟨qHA _ _,λx a=>by have:=mem_rangeI.mp a;lia⟩
theorem qEL {α:Type} (xs:List α)(k:Nat)(h:k<=xs.length):cutI xs (some (k:Int)) none=xs.drop k:=by
 unfold cutI;rw[HT.sIx_nat,HT.sIx_none,B51 h];exact F7 (by rw[J5];exact A9 _)
theorem qV6 {α:Type} (xs:List α)(k:Nat):cutI xs none (some (k:Int))=xs.take k:=by
 unfold cutI;rw[HT.sIx_nat,HT.sIx_none,t7,B28];rcases Nat.le_total k xs.length with h|h
 ·rw[B51 h]
 ·rw[Nat.min_eq_right h,F7 h,F7 (A9 _)]
abbrev NetL (H:Hp):List Addr->Aa0->Prop:=Paired λr zs=>H r=some (.tup (zs.map V.int))
theorem NetL.keep {d c:Addr} {H H':Hp} {a:List Addr} {Ae:Aa0} (h:NetL H a Ae)(b:∀r zs,H r=some (.tup zs)->r≠d/\r≠c)(k:Keep d c H H'):NetL H' a Ae:=by
 induction h with
 |nil=>exact .nil
 |cons r t ih=>exact .cons (k _ _ r (b _ _ r).1 (b _ _ r).2) ih
theorem NetL.same {H H':Hp} {a:List Addr} {Ae:Aa0} (h:NetL H a Ae)(k:∀r zs,H r=some (.tup zs)->H' r=some (.tup zs)):NetL H' a Ae:=by
 induction h with
 |nil=>exact .nil
 |cons r t ih=>exact .cons (k _ _ r) ih
theorem NetL.get {H:Hp} :∀{rs:List Addr} {Ae:Aa0} {i:Nat} {zs:List Int},NetL H rs Ae->Ae[i]?=some zs->∃r,rs[i]?=some r/\H r=some (.tup (zs.map V.int))
 |_,_,_,_,.nil,e=>by simp at e
 |_,_,0,_,.cons r _,e=>by simp at e;subst e;exact⟨_,rfl,r⟩
 |_,_,i+1,zs,.cons _ t,e=>by
  obtain⟨r,h1,h2⟩:=NetL.get (i:=i) (zs:=zs) t (by simpa using e)
  exact⟨r,by simpa using h1,h2⟩
def NetAt (H:Hp)(a:Addr)(Ae:Aa0):Prop:=∃rs:List Addr,H a=some (.tup (rs.map V.ref))/\NetL H rs Ae
theorem StAt.tup {H:Hp} {d c:Addr} {t:Int} {ns:List Int} (S:StAt H d c t ns){r:Addr}{zs:List V}(h:H r=some (.tup zs)):r≠d/\r≠c:=
 ⟨qCK h S.dict (by intro z;cases z),qCK h S.list (by intro z;cases z)⟩
theorem NetAt.keep {H H':Hp} {d c:Addr} {t:Int} {ns:List Int} (S:StAt H d c t ns){a:Addr}{Ae:Aa0}(h:NetAt H a Ae)(k:Keep d c H H'):NetAt H' a Ae:=by
 obtain⟨f,b,g⟩:=h;exact⟨f,k _ _ b (S.tup b).1 (S.tup b).2,g.keep (λr i e=>S.tup e) k⟩
theorem NetAt.same {H H':Hp} {a:Addr} {Ae:Aa0} (h:NetAt H a Ae)(k:Same H H'):NetAt H' a Ae:=by
 obtain⟨c,b,d⟩:=h;exact⟨c,k _ _ b,d.same λr f e=>k _ _ e⟩
def NetAt.len {H:Hp} {a:List Addr} {Ae:Aa0} (h:NetL H a Ae):a.length=Ae.length:=B4 h
def WFn (Ae:Aa0):Prop:=∀(i:Nat) zs,Ae[i]?=some zs->Rise (i:Int) zs
theorem WFn.snoc {Ae:Aa0} {zs:List Int} (h:WFn Ae)(hz:Rise (Ae.length:Int) zs):WFn (Ae++[zs]):=by
 intro i a e;rcases B22 i Ae.length with l|l|l
 ·rw[F4 l] at e;exact h i a e
 ·subst l;simp at e;subst e;exact hz
 ·rw[Q9 (by rw[B0,C2];lia)] at e
  cases e
theorem WFn.nil:WFn []:=λi a e=>by simp at e
def qB3 {α β:Type} {F:α->β->Prop} {a:α} {b:β} {l₁:List α} {l₂:List β} (h:Paired F l₁ l₂)(r:F a b):Paired F (l₁++[a]) (l₂++[b]):=A03 h r
def qON:Sp:=λvs H Q _=>E5 λd c t ns k=>vs=[.ref d,.int k]/\StAt H d c t ns/\t<=TB-20/\0<=k/\k<=1000/\
 ∀r zs t' ns' H',StAt H' d c t' ns'->t<=t'->t'<=t+9->Keep d c H H'->H' r=some (.tup (zs.map V.int))->Rise k zs->Q (.ref r) H'
def qb5:Sp:=λvs H Q _=>E5 λd c t ns m=>vs=[.ref d,.int m]/\StAt H d c t ns/\t<=TB-10000/\1<=m/\m<=400/\
 ∀a Ae t' ns' H',StAt H' d c t' ns'->t<=t'->t'<=t+10*m+10->Keep d c H H'->NetAt H' a Ae->WFn Ae->(Ae.length:Int)=m->Q (.ref a) H'
def qXI:Sp:=λvs H Q _=>E5 λd c t ns m=>vs=[.ref d,.int m]/\StAt H d c t ns/\t<=TB-1000/\1<=m/\m<=400/\
 ∀a Ae t' ns' H',StAt H' d c t' ns'->t<=t'->t'<=t+m->Keep d c H H'->NetAt H' a Ae->WFn Ae->(Ae.length:Int)=m->Q (.ref a) H'
theorem qdH {a b k:Int} (d:0<=k)(c:k<4):∃v,atI [V.int a,V.int b] (k/3)=some (.int v)/\(v=a\/v=b):=by
 rcases(by lia:k=0\/k=1\/k=2\/k=3) with rfl|rfl|rfl|rfl
 ·exact⟨a,rfl,.inl rfl⟩
 ·exact⟨a,rfl,.inl rfl⟩
 ·exact⟨a,rfl,.inl rfl⟩
 ·exact⟨b,rfl,.inr rfl⟩
theorem qdG {k:Int} (b:0<=k)(a:k<6):∃v,atI [V.int 0,V.int 0,V.int 1,V.int 2,V.int 2,V.int 3] k=some (.int v)/\0<=v/\v<=3:=by
 rcases(by lia:k=0\/k=1\/k=2\/k=3\/k=4\/k=5) with rfl|rfl|rfl|rfl|rfl|rfl
 all_goals exact⟨_,rfl,by decide,by decide⟩
theorem qAB {H Hc:Hp} {p:Addr} {o:HO} (h:Same H Hc)(a:H p=none):Same H (Ag Hc p o):=λb u e=>by rw[qA8 (qA9 e a)];exact h b u e
theorem qQL {d c:Addr} {H Hc:Hp} {p:Addr} {o:HO} (h:Keep d c H Hc)(a:H p=none):Keep d c H (Ag Hc p o):=λb u e f g=>by rw[qA8 (qA9 e a)];exact h b u e f g
theorem qBL {H:Hp} {p:Addr} {xs:List V} {o:HO} {a:List Addr} {Ae:Aa0} (h:NetL H a Ae)(b:H p=some (.lst xs)):NetL (Ag H p o) a Ae:=
 h.same λr c e=>by rw[qA8 (qCK e b (by intro z;cases z))];exact e
theorem qBO (a:List Addr)(r:Addr):a.map V.ref++[V.ref r]=(a++[r]).map V.ref:=by rw[B2];rfl
theorem qbE (b:Bool)(x:Int):(C7 (if b=true then(1:Int) else 0).toNat [V.int x]).flatten=(if b=true then[x] else[]).map V.int:=by cases b<;>rfl
theorem qAH {α β:Type} {F:α->β->Prop} :∀{l₁:List α} {l₂:List β} {i:Nat} {a:α},Paired F l₁ l₂->l₁[i]?=some a->∃b,l₂[i]?=some b/\F a b
 |_,_,_,_,.nil,e=>by simp at e
 |_,_,0,_,.cons r _,e=>by simp at e;subst e;exact⟨_,rfl,r⟩
 |_,_,i+1,a,.cons _ t,e=>by
  obtain⟨b,h1,h2⟩:=qAH (i:=i) (a:=a) t (by simpa using e)
  exact⟨b,by simpa using h1,h2⟩
theorem qI7 {α β:Type} {F G:α->β->Prop} {l₁:List α} {l₂:List β} (h:Paired F l₁ l₂)(k:∀a b,F a b->G a b):Paired G l₁ l₂:=by
 induction h with
 |nil=>exact .nil
 |cons r t ih=>exact .cons (k _ _ r) ih
theorem qB8 {a:List Addr} {i:Nat} {x:V} (h:(a.map V.ref)[i]?=some x):∃r,a[i]?=some r/\x=.ref r:=by
 rw[C0] at h;cases e:a[i]? with
 |none=>rw[e] at h;cases h
 |some r=>rw[e] at h;exact⟨r,rfl,(G0 h).symm⟩
theorem qAV {zs:List Int} {i:Nat} {x:V} (h:(zs.map V.int)[i]?=some x):∃z,zs[i]?=some z/\x=.int z:=by
 rw[C0] at h;cases e:zs[i]? with
 |none=>rw[e] at h;cases h
 |some r=>rw[e] at h;exact⟨r,rfl,(G0 h).symm⟩
theorem qQ0 {α:Type} {l:List α} {a b:α} {j:Nat} (h:(l++[a])[j]?=some b):l[j]?=some b\/(j=l.length/\b=a):=by
 rcases B22 j l.length with z|z|z
 ·rw[F4 z] at h;exact .inl h
 ·subst z;simp at h;exact .inr ⟨rfl,h.symm⟩
 ·rw[Q9 (by rw[B0,C2];lia)] at h
  cases h
theorem qF1 (a:Int)(zs:List Int):inV (.int a) (zs.map V.int)=decide (a∈zs):=by
 unfold inV
 induction zs with
 |nil=>simp
 |cons z r ih=>
  rw[D4,j8,ih];have e:eqV (.int z) (.int a)=decide (a=z):=by
   by_cases h:z=a
   ·subst h;simp[eqV]
   ·have b:¬a=z:=λq=>h q.symm;simp[eqV,h,b]
  rw[e];simp[B9]
theorem qCW (zs:List Int):(zs.map V.int).all qMC=true:=by
 rw[F5];intro x a;obtain⟨z,_,rfl⟩:=C3.mp a
 rfl
noncomputable def qaV (ns st:List Int) (Aa wk:Int):V:=if wk∈st then .str "there" else if∀x∈ns,x∈st then(if Aa<=(st.length:Int) then .str "full" else .non) else .str "needs"
def qSE (st:List Int) (wk:Int):V:=if wk∈st then .non else .str "empty"
noncomputable def qaU (ns st:List Int) (Aa:Int) (Ac:Str) (wk:Int):V:=if Ac = "do" then qaV ns st Aa wk else qSE st wk
theorem qBK {xs:List V} {i:Int} {x:V} (a:0<=i)(h:xs[i.toNat]?=some x):atI xs i=some x:=by
 have e:i=((i.toNat:Nat):Int):=by lia
 rw[e];exact qVM (by simpa using h)
theorem NetAt.get {H:Hp} {a:Addr} {Ae:Aa0} {ns:List Int} {i:Nat} (h:NetAt H a Ae)(e:Ae[i]?=some ns):∃(rs:List Addr) (r:Addr),H a=some (.tup (rs.map V.ref))/\rs.length=Ae.length/\(rs.map V.ref)[i]?=some (.ref r)/\H r=some (.tup (ns.map V.int)):=by
 obtain⟨rs,d,b⟩:=h;obtain⟨r,f,c⟩:=b.get e;exact⟨rs,r,d,B4 b,by rw[C0,f];rfl,c⟩
theorem qO7:B97 "zip" = some (.type "zip"):=by decide +kernel
def seqO (b:Bool)(xs:List V):HO:=match b with|true=>.tup xs|false=>.lst xs
def Leaf (x:V):Prop:=x=.non\/(∃i,x=.int i)\/∃y,x=.str y
def Alike (H:Hp):Nat->V->V->Prop
 |0,x,y=>x=y/\Leaf x
 |n+1,x,y=>(x=y/\Leaf x)\/∃(b:Bool) (a c:Addr) (xs ys:List V),x=.ref a/\y=.ref c/\H a=some (seqO b xs)/\H c=some (seqO b ys)/\xs.length=ys.length/\xs.length<=100000/\∀(i:Nat) (x' y':V),xs[i]?=some x'->ys[i]?=some y'->Alike H n x' y'
theorem Alike.same {H H':Hp} (s:Same H H'):∀{n:Nat} {x y:V},Alike H n x y->Alike H' n x y:=by
 intro n
 induction n with
 |zero=>exactλ{x y} h=>show x=y/\Leaf x from h
 |succ n ih=>
  rintro x y (h|⟨b,a,c,xs,ys,e1,e2,h1,h2,hl,hb,h⟩)
  ·exact .inl h
  ·exact .inr ⟨b,a,c,xs,ys,e1,e2,s _ _ h1,s _ _ h2,hl,hb,λi g d f e=>ih (h i g d f e)⟩
def qb4 (n:Nat):Sp:=λvs H Q _=>E2 λ(x y:V)=>vs=[x,y]/\Alike H n x y/\∀H',Same H H'->Q (.bl true) H'
theorem SqB.of {b:Bool} {K:Ab1} {H:Hp} {a:Addr} {xs:List V} (h:H a=some (seqO b xs)):SqB b K H a xs:=by
 cases b
 ·exact Ab2 h
 ·exact Ac0 h
def tyOf (b:Bool):Value:=match b with|true=>.type "tuple" |false=>.type "list"
theorem qJM {b:Bool} {K:Ab1} {H:Hp} {a:Addr} {xs:List V} (h:H a=some (seqO b xs)):TyOf K H (.ref a) (tyOf b):=by
 cases b
 ·exact TyOf.lst h
 ·exact TyOf.tup h
section
variable{K:Ab1}
theorem qLF (b:Bool):P5 K (tyOf b) (.type "list")=some (!b):=by cases b<;>rfl
theorem qHH (b:Bool):P5 K (tyOf b) (.type "tuple")=some b:=by cases b<;>rfl
theorem qc5:P5 K (.type "str") (.type "list")=some false:=by rfl
theorem qc4:P5 K (.type "str") (.type "tuple")=some false:=by rfl
theorem qXW:P5 K (.type "str") (.type "str")=some true:=by rfl
theorem qc8:P5 K (.type "int") (.type "list")=some false:=by rfl
theorem qc6:P5 K (.type "int") (.type "tuple")=some false:=by rfl
theorem qc7:P5 K (.type "int") (.type "str")=some false:=by rfl
theorem qc9:P5 K (.type "int") (.type "int")=some true:=by rfl
theorem qcA:P5 K (.type "int") (.type "bool")=some false:=by rfl
end
theorem qVK {i:Nat} :((C7 i true).map V.bl)++[V.bl true]=(C7 (i+1) true).map V.bl:=by
 rw[Q0,B2];rfl
theorem qVO {n:Nat} :(C7 n true).all id=true:=by simp
end Fw
namespace L2
open PySem PySem.Spec PyProof.Rows Fw
section
variable{X:Cx}{e:Expr}{te:TE}{st:Option Expr}{tst:TO}{pos p2:Pos}
theorem qFT {K:Ab1} (a:X.K=K):qCQ X (.builtin "isinstance") (λxs H Q=>∃x T t b,xs=[x,.ty T]/\TyOf K H x t/\P5 K t (.type T)=some b/\Q (.bl b) H):=by subst a;exact qAP
end
open PySem PySem.Spec PyProof.Rows
section
variable{X:Cx}
theorem qYM {Ab:Aa2} {σ:St} {H:Hp} (I:Inv X Ab σ H s)(hu:A.units<cLine){a b:Addr}{zs ys:List Int}(z:H a=some (.tup (zs.map V.int)))(d:H b=some (.tup (ys.map V.int))):SeqAt.EqAt A s (.ref a) (.ref b) (decide (zs=ys)):=by
 have g:∀{u v:List Int},u.map V.int=v.map V.int->u=v:=by
  intro u
  induction u with
  |nil=>intro v h;cases v with|nil=>rfl|cons _ _=>cases h
  |cons x u ih=>
   intro v h;cases v with
   |nil=>cases h
   |cons y v=>
    rw[D4,D4] at h
    injection h with h1 h2
    injection h1 with h1
    rw[h1,ih h2]
 by_cases e:a=b
 ·subst e;rw[z] at d
  injection d with d
  injection d with d
  rw[decide_eq_true (g d)];exact B42 _
 ·obtain ⟨k,q,p1,z1⟩:=I.tuple (Ac0 z);obtain ⟨l,o,p2,z2⟩:=I.tuple (Ac0 d);have n:=q.length;have p:=o.length;rw [A0] at n p;refine SeqAt.EqAt.of_refs e ?_;have f:=SeqAt.RcAt.tuples (A:=A) (s:=s) (e:=fun j=>decide (zs[j]?=ys[j]?)) p1 p2 hu (fun j h1 h2=>by
   rw[B6] at h1 h2;have r:j<zs.length:=by lia
   have hy:j<ys.length:=by lia
   obtain⟨a,ea,ra⟩:=q.get (i:=j) (x:=.int zs[j]) (by rw[C0,A5 r];rfl)
   obtain⟨b,m,rb⟩:=o.get (i:=j) (x:=.int ys[j]) (by rw[C0,A5 hy];rfl)
   obtain⟨t,rfl⟩:=ra;obtain⟨w,rfl⟩:=rb;have e1:k.toArray[j]=.int zs[j] t:=by
    rw[T5];exact G0 ((A5 h1).symm.trans ea)
   have e2:l.toArray[j]=.int ys[j] w:=by
    rw[T5];exact G0 ((A5 h2).symm.trans m)
   rw[e1,e2];have:=j7 (A:=A.in1) (s:=s) zs[j] t ys[j] w;rw[show(zs[j]==ys[j])=decide (zs[j]?=ys[j]?) by rw[A5 r,A5 hy];by_cases c:zs[j]=ys[j]<;>simp[c]] at this
   exact this)
  have m:((G9 (min k.toArray.size l.toArray.size)).all (λj=>decide (zs[j]?=ys[j]?))&&k.toArray.size==l.toArray.size)=decide (zs=ys):=by
   rw[B6,B6,<- n,<- p,R8,C6,F5,beq_iff_eq,decide_eq_true_eq]
   constructor
   ·rintro⟨h1,h2⟩;refine B23 λi=>?_;by_cases hi:i<zs.length
    ·exact of_decide_eq_true (h1 i (G3.mpr (by lia)))
    ·rw[Q9 (by lia),Q9 (by lia)]
   ·rintro rfl;exact⟨λ_ _=>decide_eq_true rfl,rfl⟩
  rw[m] at f;exact f
theorem qT4 {b:List Addr} {c:List Value} (h:Vals (b.map V.ref) c):c=b.map D6:=by
 induction b generalizing c with
 |nil=>cases h;rfl
 |cons a b ih=>cases h with|cons h1 h2=>cases h1;rw[ih h2];rfl
theorem qOW (hu:X.A.units+64<cLine):OpR X (C03 .NotEq) (λx y H Q=>∃(p l:Addr) (rs rs':List Addr) (ts ts':Aa0),x=.ref p/\y=.ref l/\SqL X.K H p (rs.map V.ref)/\SqL X.K H l (rs'.map V.ref)/\Paired (λ(r:Addr) (t:List Int)=>H r=some (.tup (t.map V.int))) rs ts/\Paired (λ(r:Addr) (t:List Int)=>H r=some (.tup (t.map V.int))) rs' ts'/\Q (.bl (decide (ts≠ts'))) H):=by
 intro Ab s σ H x y v u Q I rx ry h;obtain⟨p,l,rs,rs',ts,ts',rfl,rfl,w,h2,T,a,q⟩:=h;cases rx;cases ry;obtain⟨us,r1,f,z1⟩:=I.list w;obtain⟨vs,r2,k,z2⟩:=I.list h2;have e1:=qT4 r1;have n:=qT4 r2;subst e1;subst n;have m:=B4 T;have l2:=B4 a;have g:∀{rs:List Addr} {ms:Aa0},Paired (λr (zs:List Int)=>H r=some (.tup (zs.map V.int))) rs ms->∀(i:Nat) (hi:i<rs.length) (hj:i<ms.length),H rs[i]=some (.tup (ms[i].map V.int)):=by
  intro rs ms h
  induction h with
  |nil=>intro i hi;simp at hi
  |cons r t ih=>
   intro i hi hj;cases i with
   |zero=>exact r
   |succ i=>exact ih i (by simpa using hi) (by simpa using hj)
 by_cases hl:ts.length=ts'.length
 ·refine A35 (e:=λj=>decide (ts[j]?=ts'[j]?)) f.isList k.isList (by simp;lia) (by lia) (λj b d=>?_) _ _ _ _ ⟨.bl (decide (ts≠ts')),H,I,?_,q⟩
  ·simp at b d;simp only[T5,List.getElem_map];have:=qYM I (A:=X.A.in1) (by show X.A.units+1<cLine;lia) (g T j b (by lia)) (g a j d (by lia))
   rw[show decide (ts[j]=ts'[j])=decide (ts[j]?=ts'[j]?) by rw[A5 (by lia),A5 (by lia)];simp] at this
   exact this
  ·show T8 _=T8 _;congr 1;rw[B6,A0,m];by_cases c:ts=ts'
   ·subst c;simp
   ·have o:decide (ts≠ts')=true:=decide_eq_true c;rw[o,B20,<- Bool.not_eq_true,F5];intro z;apply c;apply B23;intro i;by_cases hi:i<ts.length
    ·exact of_decide_eq_true (z i (G3.mpr hi))
    ·rw[Q9 (by lia),Q9 (by lia)]
 ·refine l8 f.isList k.isList (by simp;lia) (by lia) _ _ _ _ ⟨.bl true,H,I,rfl,?_⟩
  have:decide (ts≠ts')=true:=decide_eq_true (λz=>hl (by rw[z]))
  rw[this] at q;exact q
end
end L2
namespace Fw
open PySem L2
abbrev MovL (H:Hp):List Addr->List (Str×Int)->Prop:=Paired λr m=>H r=some (.tup [.str m.1,.int m.2])
theorem qLC {α β:Type} {F:α->β->Prop} {a c:List α} {b d:List β} (h:Paired F a b)(k:Paired F c d):Paired F (a++c) (b++d):=by
 induction h with
 |nil=>exact k
 |cons r t ih=>exact .cons r ih
theorem qLB {α β:Type} {F:α->β->Prop} :∀{l₁:List α} {l₂:List β} {i:Nat} {b:β},Paired F l₁ l₂->l₂[i]?=some b->∃a,l₁[i]?=some a/\F a b
 |_,_,_,_,.nil,e=>by simp at e
 |_,_,0,_,.cons r _,e=>by simp at e;subst e;exact⟨_,rfl,r⟩
 |_,_,i+1,b,.cons _ t,e=>by
  obtain⟨a,h1,h2⟩:=qLB (i:=i) (b:=b) t (by simpa using e)
  exact⟨a,by simpa using h1,h2⟩
def qc1 (w:Str)(n:Nat):List (Str×Int):=(G9 n).map λ(i:Nat)=>(w,(i:Int))
def wd (Ae:Aa0)(st:List Int)(Aa:Int)(m:Str×Int):V:=qaU ((Ae[m.2.toNat]?).getD []) st Aa m.1 m.2
def qdZ (n:Nat):List (Str×Int):=qc1 "do" n++qc1 "clear" n
noncomputable def qa9 (Ae:Aa0)(st:List Int)(Aa:Int):List (Str×Int):=(qdZ Ae.length).filter λm=>decide (wd Ae st Aa m=.non)
theorem qJ5 {α:Type} {l:List α} {n:Nat} (h:l.length=n):l.take n=l:=F7 (by lia)
structure Cnt (n:Nat)(cs:List Int)(seen:List Int):Prop where
 len:cs.length=n
 at_:∀x:Nat,x<n->∃c,cs[x]?=some c/\0<=c/\(c=0↔(x:Int)∉seen)
def qXK:Sp:=λvs H Q _=>E5 λd c t ns m=>vs=[.ref d,.int m]/\StAt H d c t ns/\t<=TB-100/\9<=m/\m<=400/\∀k t' ns' H',1<=k->k<=m->StAt H' d c t' ns'->t<=t'->t'<=t+3->Keep d c H H'->Q (.int k) H'
theorem qdF {a b k:Int} (f:0<=k)(e:k<7)(d:1<=a/\a<=9)(c:1<=b/\b<=9):∃v,atI [V.int a,V.int 3,V.int 4,V.int 5,V.int 6,V.int 7,V.int b] k=some (.int v)/\1<=v/\v<=9:=by
 rcases(by lia:k=0\/k=1\/k=2\/k=3\/k=4\/k=5\/k=6) with rfl|rfl|rfl|rfl|rfl|rfl|rfl
 ·exact⟨a,rfl,d⟩
 ·exact⟨3,rfl,by decide,by decide⟩
 ·exact⟨4,rfl,by decide,by decide⟩
 ·exact⟨5,rfl,by decide,by decide⟩
 ·exact⟨6,rfl,by decide,by decide⟩
 ·exact⟨7,rfl,by decide,by decide⟩
 ·exact⟨b,rfl,c⟩
theorem qAL {n:Nat} (h:n<=1000000):n<B89:=by rw[B94];lia
inductive Nd (Ae:Aa0)(Ad:List Int):Int->Prop
 |ask {x:Int}:x∈Ad->Nd Ae Ad x
 |need {w y:Int} {zs:List Int}:Nd Ae Ad w->Ae[w.toNat]?=some zs->y∈zs->Nd Ae Ad y
structure KeysI (Af:List (Key×V))(ks:List Int):Prop where
 keys:Af.map (·.1)=ks.map E9
 nd:ks.Nodup
theorem qc0 {ks:List Int} {n:Nat} (h:ks.Nodup)(b:∀x∈ks,0<=x/\x<(n:Int)):ks.length<=n:=by
 have a:ks ⊆ (G9 n).map λ(i:Nat)=>(i:Int):=λx c=>by
  have:=b x c;exact C3.mpr ⟨x.toNat,G3.mpr (by lia),by lia⟩
 have:=D9 h a;simpa using this
structure Fnd (Ae:Aa0)(Ad ks:List Int)(j:Int):Prop where
 in_:∀x∈ks,(0<=x/\x<(Ae.length:Int))/\Nd Ae Ad x
 ask:∀x∈Ad,x∈ks
 clo:∀(w:Nat) zs,j<=(w:Int)->(w:Int)∈ks->Ae[w]?=some zs->∀y∈zs,y∈ks
def qXC (Ae:Aa0)(Ad zs:List Int):Prop:=Rise (Ae.length:Int) zs/\∀x,x∈zs↔Nd Ae Ad x
theorem qaW:∀{l m:List Int},l.Pairwise (·<·)->m.Pairwise (·<·)->(∀x,x∈l↔x∈m)->l=m
 |[],[],_,_,_=>rfl
 |[],y::m,_,_,h=>absurd ((h y).mpr (by simp)) (by simp)
 |x::l,[],_,_,h=>absurd ((h x).mp (by simp)) (by simp)
 |x::l,y::m,hl,hm,h=>by
  have l1:=M5.mp hl;have m1:=M5.mp hm;have exy:x=y:=by
   rcases B9.mp ((h x).mp (by simp)) with e|e
   ·exact e
   ·rcases B9.mp ((h y).mpr (by simp)) with e2|e2
    ·exact e2.symm
    ·have:=m1.1 x e;have:=l1.1 y e2
     lia
  subst exy;rw[qaW l1.2 m1.2 λz=>?_]
  constructor
  ·intro hz;rcases B9.mp ((h z).mp (by simp[hz])) with e|e
   ·have:=l1.1 z hz;lia
   ·exact e
  ·intro hz;rcases B9.mp ((h z).mpr (by simp[hz])) with e|e
   ·have:=m1.1 z hz;lia
   ·exact e
theorem qTT {Ae:Aa0} (a:WFn Ae)(w:Nat):Rise (w:Int) ((Ae[w]?).getD []):=by
 cases e:Ae[w]? with
 |none=>exact Rise.nil
 |some zs=>exact a w zs e
abbrev Mv:=Str×Int
def nd (Ae:Aa0)(w:Int):List Int:=(Ae[w.toNat]?).getD []
theorem qBI {Ae:Aa0} {w:Int} {zs:List Int} (h:Ae[w.toNat]?=some zs):nd Ae w=zs:=by unfold nd;rw[h];rfl
noncomputable def qXV (Ae:Aa0):List Int->Int->Option Int
 |[],_=>none
 |w::r,y=>match qXV Ae r y with
  |some v=>some v
  |none=>if y∈nd Ae w then some w else none
def qZR (Ae:Aa0)(zs:List Int)(j:Nat)(x:Int):Prop:=∃v∈zs.drop j,x∈nd Ae v
instance (Ae:Aa0) (zs:List Int) (j:Nat) (x:Int):Decidable (qZR Ae zs j x):=by unfold qZR;infer_instance
noncomputable def clrs (Ae:Aa0)(Ad zs:List Int)(w:Int):List Int:=(nd Ae w).filter λy=>decide (qXV Ae zs y=some w/\y∉Ad)
noncomputable def qdJ (Ae:Aa0) (Ad zs:List Int) (w:Int):List Mv:=("do",w)::(clrs Ae Ad zs w).map λy=>("clear",y)
def qbI (Ae:Aa0)(Ad zs:List Int):List Mv:=zs.flatMap (qdJ Ae Ad zs)
inductive Run (Ae:Aa0)(Aa:Int):List Int->List Mv->List Int->Prop
 |nil {s:List Int}:Run Ae Aa s [] s
 |do_ {s s' t:List Int} {w:Int} {ms:List Mv}:w∉s->(∀y∈nd Ae w,y∈s)->(s.length:Int)<Aa->s'.Perm (s++[w])->s'.Pairwise (·<·)->Run Ae Aa s' ms t->Run Ae Aa s (("do",w)::ms) t
 |clear {s t:List Int} {w:Int} {ms:List Mv}:w∈s->Run Ae Aa (s.filter λx=>decide (x≠w)) ms t->Run Ae Aa s (("clear",w)::ms) t
section
variable{Ae:Aa0}{Ad zs:List Int}
def qbZ (a:WFn Ae)(w:Int):(nd Ae w).Pairwise (·<·):=(qTT a w.toNat).up
end
def qYE (H:Hp)(l:Addr)(ms:List Mv):Prop:=∃rs:List Addr,H l=some (.lst (rs.map V.ref))/\MovL H rs ms
def lv (L:List Int)(x:Int):Int:=(L[x.toNat]?).getD 0
structure Lev (Ae:Aa0)(L:List Int):Prop where
 len:L.length=Ae.length
 at_:∀(i:Nat) zs,Ae[i]?=some zs->∃l,L[i]?=some l/\0<=l/\l<=(i:Int)/\(∀y∈zs,lv L y+1<=l)/\(l=0\/∃y∈zs,lv L y+1=l)
structure Fd (n:Nat)(L:List Int)(S:Int->Prop)(fs:List Int):Prop where
 len:fs.length=n
 at_:∀w:Nat,w<n->(S w->fs[w]?=some (lv L w))/\(¬S w->fs[w]?=some 0)
structure CntX (n:Nat)(cs:List Int)(seen:List Int):Prop where
 len:cs.length=n
 at_:∀x:Nat,x<n->cs[x]?=some ((seen.count (x:Int):Nat):Int)
theorem qRH {X:Cx} :qLR (CX1 P w) X E0:=by
 rintro _ _ _ _ _ _ _ ⟨e,cls,dd,H',B,nt,_,_,_,_,z⟩;exact z.elim
def Beh (st st':List Int) (Ac:Str) (wk:Int):Prop:=(Ac = "do"->st'.Perm (st++[wk])/\st'.Pairwise (·<=·))/\(Ac = "clear"->st'=st.filter λx=>decide (x≠wk))
theorem qVP {H:Hp} {l a:Addr} {zs:List Int} (e:H l=some (.tup (zs.map V.int)))(f:H a=some (.tup (zs.map V.int)))(d:zs.length<=100000):Alike H 1 (.ref l) (.ref a):=by
 refine .inr ⟨true,l,a,_,_,rfl,rfl,e,f,rfl,by rw[A0];exact d,λi x y c b=>?_⟩
 rw[c] at b;cases b;obtain⟨z,_,rfl⟩:=qAV c;exact⟨rfl,.inr (.inl ⟨z,rfl⟩)⟩
theorem qQ6 (e:Addr):∀k:Nat,(C7 k [V.ref e]).flatten=(C7 k e).map V.ref
 |0=>rfl
 |k+1=>by rw[R6,O1,qQ6 e k,R6];rfl
def qNM {H:Hp} {e:Addr} (h:H e=some (.tup (([]:List Int).map V.int))):∀k:Nat,NetL H (C7 k e) (C7 k [])
 |0=>.nil
 |k+1=>.cons h (qNM h k)
inductive Play (Ae:Aa0)(Aa:Int):List Int->List Mv->Aa0->V->Prop
 |nil {st}:Play Ae Aa st [] [] .non
 |stop {st m ms w0}:wd Ae st Aa m=.str w0->Play Ae Aa st (m::ms) [] (.str w0)
 |go {st st' m ms sts v}:wd Ae st Aa m=.non->Beh st st' m.1 m.2->Play Ae Aa st' ms sts v->Play Ae Aa st (m::ms) (st'::sts) v
def MvOk (Ae:Aa0) (ms:List Mv):Prop:=∀m∈ms,(m.1 = "do"\/m.1 = "clear")/\0<=m.2/\m.2<(Ae.length:Int)
def qXB (H:Hp)(l:Addr)(sts:Aa0):Prop:=∃rs:List Addr,H l=some (.lst (rs.map V.ref))/\NetL H rs sts
def lens (sts:Aa0):List Int:=sts.map λz=>(z.length:Int)
theorem Alike.up {H:Hp} :∀{n:Nat} {x y:V},Alike H n x y->Alike H (n+1) x y:=by
 intro n
 induction n with
 |zero=>exactλ{x y} h=>.inl h
 |succ n ih=>
  rintro x y (h|⟨b,a,c,xs,ys,e1,e2,h1,h2,hl,hb,h⟩)
  ·exact .inl h
  ·exact .inr ⟨b,a,c,xs,ys,e1,e2,h1,h2,hl,hb,λi g d f e=>ih (h i g d f e)⟩
structure YNa (K:Ab1)(C:Addr):Prop where
 Ae:qR5 K C "net"
 Aa:qR5 K C "rooms"
 made:qR5 K C "made"
 stands:qR5 K C "stands"
noncomputable def yfs (a:Addr) (Aa:Int) (lm ls:Addr):List (Str×V):=putF "stands" (.ref ls) (putF "made" (.ref lm) (putF "rooms" (.int Aa) (putF "net" (.ref a) [])))
structure YardAt (C:Addr)(H:Hp)(y a lm ls:Addr)(Ae:Aa0)(Aa:Int)(ms:List Mv)(sts:Aa0):Prop where
 obj:∃dx,H y=some (.ins C dx (yfs a Aa lm ls))
 nat:NetAt H a Ae
 wf:WFn Ae
 n400:Ae.length<=400
 r0:0<=Aa
 r62:Aa<=62
 made:qYE H lm ms
 ok:MvOk Ae ms
 len:ms.length<=10000
 stands:qXB H ls ([]::sts)
 play:Play Ae Aa [] ms sts .non
 ne:lm≠ls
def KeepL (xs:List Addr)(H H':Hp):Prop:=∀b o,H b=some o->b∉xs->H' b=some o
def KeepL.of_same {xs:List Addr} {H H':Hp} (h:Same H H'):KeepL xs H H':=λb o e _=>h b o e
def KeepL.trans {xs:List Addr} {H H1 H2:Hp} (a:KeepL xs H H1)(b:KeepL xs H1 H2):KeepL xs H H2:=λx o h n=>b x o (a x o h n) n
def off (n:Nat):Nat->Nat
 |0=>0
 |r+1=>off n r+(n-r)
abbrev keyOf (s:Nat×Nat):List Key:=[E9 (s.1:Int),E9 (s.2:Int)]
structure NumP (rs:List Addr)(ss:List (Nat×Nat))(j:Nat)(ps:List (List Key×Addr×V)):Prop where
 keys:ps.map (·.1)=(ss.take j).map keyOf
 at_:∀(k:Nat) (s:Nat×Nat),k<j->ss[k]?=some s->∃a,ps[k]?=some (keyOf s,a,.int (k:Int))
def qZX (ins:List (Int×Int))(x:Int):Option Int:=(ins.find? λq=>decide (q.1=x)).map (·.2)
noncomputable def qdC (ins:List (Int×Int))(i:Nat):Nat:=((G9 i).filter λ(x:Nat)=>(qZX ins (x:Int)).isNone).length
noncomputable def numO (m:Nat)(ins:List (Int×Int))(x:Nat):Int:=match qZX ins (x:Int) with|some v=>v|none=>((m+qdC ins x:Nat):Int)
structure InsAt (H:Hp)(i:Addr)(ins:List (Int×Int)):Prop where
 at_:∃rs:List Addr,qe7 H i (rs.map V.ref)/\Paired (λr (q:Int×Int)=>H r=some (.tup [.int q.1,.int q.2])) rs ins
 nodup:(ins.map (·.1)).Nodup
structure InsOk (m:Nat)(other:Aa0)(k:Nat)(ins:List (Int×Int))(fs:List Int):Prop where
 st:∀q∈ins,(0<=q.1/\q.1<(k:Int))/\other[q.1.toNat]?=some []/\0<=q.2/\q.2<(m:Int)
 nd1:(ins.map (·.1)).Nodup
 nd2:(ins.map (·.2)).Nodup
 fr:fs.Nodup
 fin:∀x∈fs,(0<=x/\x<(m:Int))/\x∉ins.map (·.2)
 len:ins.length<=k
def pm (m:Mv):Int:=if m.1 = "do" then 1 else -1
def peak:Int->List Mv->Int
 |n,[]=>n
 |n,m::ms=>max n (peak (n+pm m) ms)
def less (th s:List Int):List Int:=s.filter λx=>decide (x∉th)
def qdN (th:List Int)(ms:List Mv):List Mv:=ms.filter λm=>decide (m.2∉th)
noncomputable def pbGo (num:Int->Int)(jn:Int->Bool)(pl:Int->List Mv):List Int->List Mv->List Mv
 |_,[]=>[]
 |th,m::ms=>if m.1 = "clear" then("clear",num m.2)::pbGo num jn pl (th.filter λx=>decide (x≠num m.2)) ms else(if jn m.2 then qdN th (pl (num m.2)) else[("do",num m.2)])++pbGo num jn pl (th++[num m.2]) ms
structure ThOk (n:Nat)(num:Int->Int)(th s:List Int):Prop where
 perm:th.Perm (s.map num)
 rise:Rise (n:Int) s
structure TopO (Ae:Aa0)(zs:List Int):Prop where
 nodup:zs.Nodup
 in_:∀x∈zs,0<=x/\x<(Ae.length:Int)
 bef:∀(p:Nat) (o:Int),zs[p]?=some o->∀x∈nd Ae o,x∈zs.take p
 aft:∀(p:Nat) (o:Int),zs[p]?=some o->p+1<zs.length->qZR Ae zs (p+1) o
structure Begun (Ae:Aa0)(some_ ord:List Int):Prop where
 nodup:ord.Nodup
 sub:∀x∈ord,x∈some_
 bef:∀(p:Nat) (o:Int),ord[p]?=some o->∀x∈nd Ae o,x∈ord.take p
noncomputable def ndOf (Ae:Aa0)(Ad:List Int):List Int:=by
 classical
 exact if h:∃zs,qXC Ae Ad zs then Classical.choose h else[]
def qXP (Ae:Aa0)(w:Int):List Mv:=qbI Ae [w] (ndOf Ae [w])
def numF (m:Nat)(ins:List (Int×Int))(x:Int):Int:=numO m ins x.toNat
def qdP (ins:List (Int×Int))(x:Int):Bool:=(qZX ins x).isSome
noncomputable def qeD (one:Aa0)(ins:List (Int×Int))(ms:List Mv):List Mv:=pbGo (numF one.length ins) (qdP ins) (qXP one) [] ms
noncomputable def qdL (one:Aa0)(ins:List (Int×Int)):Int:=(topD (some 1) (ins.map λq=>peak 0 (qXP one q.2))).getD 0
noncomputable def qeC (one:Aa0)(ins:List (Int×Int))(ms:List Mv):Int:=match ins with|[]=>peak 0 ms|_::_=>qdL one ins+peak 0 ms-1
structure BehIn (H:Hp)(a b i l:Addr)(one other:Aa0)(ins:List (Int×Int))(ms:List Mv)(st:List Int):Prop where
 gA:NetAt H a one
 wf1:WFn one
 gB:NetAt H b other
 wf2:WFn other
 gI:InsAt H i ins
 ok:∃fs,InsOk one.length other other.length ins fs
 plan:qYE H l ms
 mv:MvOk other ms
 len:ms.length<=400
 run:Run other (other.length:Int) [] ms st
 o1:1<=one.length
 o2:one.length<=60
 o3:1<=other.length
 o4:other.length<=60
structure TwoIn (H:Hp)(a b i:Addr)(one other:Aa0)(ins:List (Int×Int)):Prop where
 gA:NetAt H a one
 wf1:WFn one
 gB:NetAt H b other
 wf2:WFn other
 gI:InsAt H i ins
 ok:∃fs,InsOk one.length other other.length ins fs
 o1:1<=one.length
 o2:one.length<=40
 o3:1<=other.length
 o4:other.length<=7
theorem qJW {α β:Type} {F:α->β->Prop} {l₁:List α} {l₂:List β} (h:Paired F l₁ l₂):Paired F l₁.reverse l₂.reverse:=by
 induction h with
 |nil=>exact .nil
 |cons r _ ih=>rw[d0,d0];exact qB3 ih r
theorem qVZ {K:Ab1} {H H':Hp} {a:Addr} {xs:List V} (h:SqT K H a xs)(b:Same H H'):SqT K H' a xs:=by
 rcases h with(h|⟨o,h⟩)|h
 ·exact .inl (.inl (b _ _ h))
 ·exact .inl (.inr ⟨o,b _ _ h⟩)
 ·exact .inr h
section
variable{Ae:Aa0}
theorem qD1 (a:WFn Ae){w y:Int}(b:0<=w)(h:y∈nd Ae w):0<=y/\y<w:=by
 unfold nd at h;cases e:Ae[w.toNat]? with
 |none=>rw[e] at h;cases h
 |some zs=>
  rw[e] at h;have:=(a _ _ e).in_ y h
  lia
noncomputable def qDZ (Ae:Aa0):Nat->List Int
 |0=>[]
 |i+1=>qDZ Ae i++[if nd Ae (i:Int)=[] then 1 else((nd Ae (i:Int)).map λz=>(qDZ Ae i).getD z.toNat 0).sum]
def cn (Ae:Aa0)(z:Int):Int:=(qDZ Ae (z.toNat+1)).getD z.toNat 0
theorem qD8:∀i,(qDZ Ae i).length=i
 |0=>rfl
 |i+1=>by rw[qDZ,B0,qD8 i];rfl
theorem qG8:∀i,qDZ Ae i=(G9 i).map λ(k:Nat)=>cn Ae (k:Int)
 |0=>rfl
 |i+1=>by
  have e:cn Ae (i:Int)=if nd Ae (i:Int)=[] then 1 else((nd Ae (i:Int)).map λz=>(qDZ Ae i).getD z.toNat 0).sum:=by
   unfold cn;rw[O0,qDZ,M9,E1 (by rw[qD8];exact A9 _),qD8,Y3]
   rfl
  rw[c6,B2,<- qG8 i,qDZ,A20,e]
theorem qFR {i:Nat} {z:Int} (b:0<=z)(a:z<(i:Int)):(qDZ Ae i)[z.toNat]?=some (cn Ae z):=by
 rw[qG8,C0,B02 (by lia)]
 show some (cn Ae ((z.toNat:Nat):Int))=_;rw[show((z.toNat:Nat):Int)=z by lia]
theorem qRY (c:WFn Ae){z:Int}(h:0<=z):cn Ae z=if nd Ae z=[] then 1 else((nd Ae z).map (cn Ae)).sum:=by
 obtain⟨i,rfl⟩:∃i:Nat,z=(i:Int):=⟨z.toNat,by lia⟩
 have e:cn Ae (i:Int)=if nd Ae (i:Int)=[] then 1 else((nd Ae (i:Int)).map λz=>(qDZ Ae i).getD z.toNat 0).sum:=by
  unfold cn;rw[O0,qDZ,M9,E1 (by rw[qD8];exact A9 _),qD8,Y3]
  rfl
 rw[e];congr 2;refine L4 λy a=>?_;have b:=qD1 c h a;rw[M9,qFR b.1 b.2]
 rfl
theorem qJN:∀{l:List Int},(∀x∈l,1<=x)->(l.length:Int)<=l.sum
 |[],_=>by simp
 |x::l,h=>by
  have a:=h x A8;have b:=qJN λy hy=>h y (A7 _ hy);rw[W6,C9]
  lia
theorem qQX (d:WFn Ae):∀(n:Nat) (z:Int),z.toNat=n->0<=z->1<=cn Ae z:=by
 intro n
 induction n using U7 with
 |ind n ih=>
  intro z g a;rw[qRY d a]
  split
  ·exact J9 _
  ·rename_i c
   have:=qJN (l:=(nd Ae z).map (cn Ae)) λx f=>by
    obtain⟨y,e,rfl⟩:=C3.mp f;have b:=qD1 d a e;exact ih y.toNat (by lia) y rfl b.1
   have l:0<(nd Ae z).length:=R7.mpr c;rw[A0] at this
   lia
def cap (x:Int):Int:=if 301<x then 301 else x
theorem qVC:∀{l:List Int},(∀x∈l,1<=x)->(l.map cap).sum=l.sum\/(301<=(l.map cap).sum/\301<=l.sum)
 |[],_=>.inl rfl
 |x::l,h=>by
  have a:=h x A8;have hl:∀y∈l,1<=y:=λy hy=>h y (A7 _ hy);have b:=qVC hl;have p:=qJN hl;have p2:=qJN (l:=l.map cap) λy hy=>by
   obtain⟨z,hz,rfl⟩:=C3.mp hy;have:=hl z hz;unfold cap
   split<;>lia
  rw[D4,W6,W6];unfold cap at b p2 ⊢
  split<;>lia
theorem qcT (a:WFn Ae){z:Int}(h:0<=z):cap (cn Ae z)=cap (if nd Ae z=[] then 1 else((nd Ae z).map λy=>cap (cn Ae y)).sum):=by
 rw[qRY a h];by_cases c:nd Ae z=[]
 ·rw[if_pos c,if_pos c]
 ·rw[if_neg c,if_neg c];have:=qVC (l:=(nd Ae z).map (cn Ae)) λx d=>by
   obtain⟨y,b,rfl⟩:=C3.mp d;exact qQX a _ y rfl (qD1 a h b).1
  rw[Q1] at this;have e:(B38 (cap ∘ cn Ae) (nd Ae z))=(nd Ae z).map λy=>cap (cn Ae y):=rfl;rw[e] at this;rcases this with q|⟨q1,q2⟩
  ·rw[q]
  ·unfold cap;unfold cap at q1
   split<;>split<;>lia
theorem qcS (a:WFn Ae){z:Int}(h:0<=z):cn Ae z=if((nd Ae z).map (cn Ae)).sum>1 then((nd Ae z).map (cn Ae)).sum else 1:=by
 rw[qRY a h];by_cases c:nd Ae z=[]
 ·rw[if_pos c,c];rfl
 ·rw[if_neg c];have:=qJN (l:=(nd Ae z).map (cn Ae)) λx d=>by
   obtain⟨y,b,rfl⟩:=C3.mp d;exact qQX a _ y rfl (qD1 a h b).1
  have l:0<(nd Ae z).length:=R7.mpr c;rw[A0] at this
  split<;>lia
def hd (p:List Int):Int:=p.headD 0
noncomputable def apF (Ae:Aa0):Nat->List Int->Aa0
 |0,p=>[p]
 |n+1,p=>if nd Ae (hd p)=[] then[p] else((nd Ae (hd p)).reverse.map λz=>apF Ae n (z::p)).flatten
theorem qaG (d:WFn Ae):∀(k n m:Nat) (p:List Int),(hd p).toNat=k->0<=hd p->k<n->k<m->apF Ae n p=apF Ae m p:=by
 intro k
 induction k using U7 with
 |ind k ih=>
  intro n m p g a e f;obtain⟨n,rfl⟩:∃n',n=n'+1:=⟨n-1,by lia⟩
  obtain⟨m,rfl⟩:∃m',m=m'+1:=⟨m-1,by lia⟩
  unfold apF;congr 2;refine L4 λz c=>?_;have b:=qD1 d a (O9.mp c);exact ih z.toNat (by lia) n m (z::p) rfl b.1 (by lia) (by lia)
def aP (Ae:Aa0)(p:List Int):Aa0:=apF Ae ((hd p).toNat+1) p
theorem qPN (a:WFn Ae){p:List Int}(c:0<=hd p):aP Ae p=if nd Ae (hd p)=[] then[p] else((nd Ae (hd p)).reverse.map λz=>aP Ae (z::p)).flatten:=by
 unfold aP;rw[apF];congr 2;refine L4 λz d=>?_;have b:=qD1 a c (O9.mp d);exact qaG a z.toNat _ _ (z::p) rfl b.1 (by lia) (by show z.toNat<z.toNat+1;lia)
theorem qWH {α:Type} (l:List (List α)):((l.flatten.length:Nat):Int)=(l.map λx=>(x.length:Int)).sum:=by
 induction l with
 |nil=>rfl
 |cons x l ih=>rw[O1,B0,D4,W6,<- ih];lia
theorem qVY {l m:List Int} (p:l.Perm m):l.sum=m.sum:=by
 induction p with
 |nil=>rfl
 |cons x _ ih=>rw[W6,W6,ih]
 |swap x y l=>simp only[W6];lia
 |trans _ _ h1 h2=>rw[h1,h2]
theorem qOE (d:WFn Ae):∀(k:Nat) (p:List Int),(hd p).toNat=k->0<=hd p->((aP Ae p).length:Int)=cn Ae (hd p):=by
 intro k
 induction k using U7 with
 |ind k ih=>
  intro p f a;rw[qPN d a,qRY d a];by_cases c:nd Ae (hd p)=[]
  ·rw[if_pos c,if_pos c];rfl
  ·rw[if_neg c,if_neg c,qWH,Q1];rw[qVY ((d6 (nd Ae (hd p))).map (cn Ae)).symm];congr 1;refine L4 λz e=>?_;have b:=qD1 d a (O9.mp e);exact ih z.toNat (by lia) (z::p) rfl b.1
def tmF (Ae:Aa0):Nat->Int->Nat
 |0,_=>1
 |n+1,w=>1+((nd Ae w).map (tmF Ae n)).sum
theorem qYN (d:WFn Ae):∀(k n m:Nat) (w:Int),w.toNat=k->0<=w->k<n->k<m->tmF Ae n w=tmF Ae m w:=by
 intro k
 induction k using U7 with
 |ind k ih=>
  intro n m w g a e f;obtain⟨n,rfl⟩:∃n',n=n'+1:=⟨n-1,by lia⟩
  obtain⟨m,rfl⟩:∃m',m=m'+1:=⟨m-1,by lia⟩
  unfold tmF;congr 2;refine L4 λz c=>?_;have b:=qD1 d a c;exact ih z.toNat (by lia) n m z rfl b.1 (by lia) (by lia)
def tM (Ae:Aa0)(w:Int):Nat:=tmF Ae (w.toNat+1) w
theorem qd3 (a:WFn Ae){w:Int}(d:0<=w):tM Ae w=1+((nd Ae w).map (tM Ae)).sum:=by
 unfold tM;rw[tmF];congr 2;refine L4 λz c=>?_;have b:=qD1 a d c;exact qYN a z.toNat _ _ z rfl b.1 (by lia) (by lia)
structure POk (Ae:Aa0)(p:List Int):Prop where
 ne:p≠[]
 h0:0<=hd p
 h1:hd p<(Ae.length:Int)
 len:(p.length:Int)+hd p<=(Ae.length:Int)
structure PWay (Ae:Aa0)(work:Int)(fs st:Aa0):Prop where
 all:fs++(st.map (aP Ae)).flatten=aP Ae [work]
 ok:∀p∈st,POk Ae p
 fok:∀p∈fs,POk Ae p
def msP (Ae:Aa0)(st:Aa0):Nat:=(st.map λp=>tM Ae (hd p)).sum
theorem PWay.start {a:Int} (d:0<=a)(c:a<(Ae.length:Int)):PWay Ae a [] [[a]]:=by
 have e:hd [a]=a:=rfl;refine⟨by simp,λp b=>?_,λp b=>nomatch b⟩
 rw[A6.mp b];exact⟨by simp,by rw[e];exact d,by rw[e];exact c,by rw[e,C2];lia⟩
theorem POk.more (a:WFn Ae){p:List Int}(h:POk Ae p){z:Int}(hz:z∈nd Ae (hd p)):POk Ae (z::p):=by
 have b:=qD1 a h.h0 hz;have e:hd (z::p)=z:=rfl;exact⟨by simp,by rw[e];exact b.1,by rw[e];have:=h.h1;lia,by rw[e,C9];have:=h.len;lia⟩
def nxF (Ae:Aa0)(fs:Aa0)(p:List Int):Aa0:=if nd Ae (hd p)=[] then fs++[p] else fs
def nxS (Ae:Aa0)(p:List Int)(st:Aa0):Aa0:=((nd Ae (hd p)).map λz=>z::p).reverse++st
theorem PWay.step (d:WFn Ae){a:Int}{f st:Aa0}{p:List Int}(h:PWay Ae a f (p::st)):PWay Ae a (nxF Ae f p) (nxS Ae p st)/\msP Ae (nxS Ae p st)<msP Ae (p::st):=by
 have P:=h.ok p A8;refine⟨⟨?_,λr b=>?_,λr b=>?_⟩,?_⟩
 ·rw[<- h.all,D4,O1,qPN d P.h0];unfold nxF nxS;by_cases c:nd Ae (hd p)=[]
  ·rw[if_pos c,if_pos c,c];simp
  ·rw[if_neg c,if_neg c,B2,Z0,<- A56,Q1]
   rfl
 ·unfold nxS at b;rcases C1.mp b with q|q
  ·obtain⟨z,g,rfl⟩:=C3.mp (O9.mp q);exact P.more d g
  ·exact h.ok r (A7 _ q)
 ·unfold nxF at b
  split at b
  ·rcases C1.mp b with q|q
   ·exact h.fok r q
   ·rw[A6.mp q];exact P
  ·exact h.fok r b
 ·unfold msP nxS;rw[B2,List.sum_append,D4,W6,qd3 d P.h0,<- A56,Q1,A56];have e:((nd Ae (hd p)).map ((λq=>tM Ae (hd q)) ∘ λz=>z::p))=(nd Ae (hd p)).map (tM Ae):=L4 λz _=>rfl;rw[e,List.sum_reverse]
  lia
theorem PWay.lens (g:WFn Ae){f:Int}{i st:Aa0}(h:PWay Ae f i st)(h0:0<=f)(m:cn Ae f<=300):i.length+st.length<=300:=by
 have l:=qOE g _ [f] rfl h0;rw[<- h.all,B0] at l;have e:hd [f]=f:=rfl;rw[e] at l;have b:st.length<=((st.map (aP Ae)).flatten).length:=by
  have j:=h.ok;clear l h e
  induction st with
  |nil=>simp
  |cons p st ih=>
   rw[D4,O1,B0,C9];have P:=j p A8;have a:=qOE g _ p rfl P.h0;have c:=qQX g _ (hd p) rfl P.h0;have d:=ih λr k=>j r (A7 _ k)
   lia
 lia
theorem PWay.done {a:Int} {b:Aa0} (h:PWay Ae a b []):b=aP Ae [a]:=by
 have:=h.all;simpa using this
theorem PWay.lens1 (e:WFn Ae){d:Int}{f st:Aa0}{p:List Int}(h:PWay Ae d f (p::st))(g:0<=d)(i:cn Ae d<=300):f.length+st.length+(nd Ae (hd p)).length<=300/\f.length+st.length+1<=300:=by
 have a:=(h.step e).1.lens e g i;have b:=h.lens e g i;unfold nxS at a;rw[B0,i7,A0] at a;rw[C9] at b;unfold nxF at a
 split at a
 ·rename_i c
  rw[c] at a ⊢;rw[B0] at a;simp only[O4,C2] at a ⊢
  lia
 ·lia
end
def qSW:Sp:=λvs H Q _=>E3 λ(a:Addr) (Ae:Aa0) (work:Int)=>vs=[.ref a,.int work]/\NetAt H a Ae/\WFn Ae/\Ae.length<=401/\0<=work/\work<(Ae.length:Int)/\∀H',Same H H'->Q (.int (cap (cn Ae work))) H'
def qPX:Sp:=λvs H Q _=>E3 λ(a:Addr) (Ae:Aa0) (work:Int)=>vs=[.ref a,.int work]/\NetAt H a Ae/\WFn Ae/\Ae.length<=401/\0<=work/\work<(Ae.length:Int)/\∀H',Same H H'->Q (.int (cn Ae work)) H'
def SortP (Ae:Aa0)(work:Int)(ts:Aa0):Prop:=ts.Perm (aP Ae [work])/\ts.Pairwise (λa b=>HT.lexLt b a=false)
def SortP.one {Ae:Aa0} {c:Int} {a b:Aa0} (h:SortP Ae c a)(h':SortP Ae c b):a=b:=
 (h.1.trans h'.1.symm).eq_of_pairwise (λx y _ _ d e=>L2.G.lexLt_tri x y e d) h.2 h'.2
def TLAt (H:Hp)(l:Addr)(ts:Aa0):Prop:=∃rs:List Addr,H l=some (.lst (rs.map V.ref))/\NetL H rs ts
def qH7:Sp:=λvs H Q _=>E3 λ(a:Addr) (Ae:Aa0) (work:Int)=>vs=[.ref a,.int work]/\NetAt H a Ae/\WFn Ae/\Ae.length<=401/\0<=work/\work<(Ae.length:Int)/\cn Ae work<=300/\∀l ts H',Same H H'->H l=none->TLAt H' l ts->SortP Ae work ts->ts.length<=300->(∀t∈ts,t.length<=401)->Q (.ref l) H'
def qOM (C:Addr):Sp:=λvs H Q E=>E3 λ(a:Addr) (Ae:Aa0) (work:Int)=>vs=[.ref a,.int work]/\NetAt H a Ae/\WFn Ae/\Ae.length<=401/\0<=work/\work<(Ae.length:Int)/\
 (cn Ae work<=300->∀l ts H',Same H H'->H l=none->TLAt H' l ts->SortP Ae work ts->ts.length<=300->(∀t∈ts,t.length<=401)->Q (.ref l) H')/\(300<cn Ae work->∀H',Same H H'->E (.ref C) none H')
theorem qPM {H:Hp} {a b:Addr} {zs:List Int} (g:H a=some (.tup (zs.map V.int)))(e:H b=some (.tup (zs.map V.int)))(f:zs.length<=100000):Alike H 1 (.ref a) (.ref b):=by
 refine .inr ⟨true,a,b,_,_,rfl,rfl,g,e,rfl,by rw[A0];exact f,λi x y d c=>?_⟩
 rw[d] at c;cases c;obtain⟨z,_,rfl⟩:=qAV d;exact⟨rfl,.inr (.inl ⟨_,rfl⟩)⟩
theorem qX8 {H:Hp} {a b:Addr} {ts:Aa0} (k:TLAt H a ts)(m:TLAt H b ts)(o:ts.length<=100000)(hz:∀t∈ts,t.length<=100000):Alike H 2 (.ref a) (.ref b):=by
 obtain⟨u,q,f⟩:=k;obtain⟨ss,p,g⟩:=m;refine .inr ⟨false,a,b,_,_,rfl,rfl,q,p,by rw[A0,A0,B4 f,B4 g],by rw[A0,B4 f];exact o,λi x y l s=>?_⟩
 obtain⟨r,n,rfl⟩:=qB8 l;obtain⟨w,d,rfl⟩:=qB8 s;obtain⟨z,h,j⟩:=qAH f n;obtain⟨v,c,e⟩:=qAH g d;rw[h] at c;cases c;exact qPM j e (hz z (B3 h))
def oV:Option Int->V
 |none=>.non
 |some i=>.int i
structure Mo where
 dk:Bool
 wk:Int
 rm:Int
noncomputable def Mo.vs (m:Mo):List V:=match m.dk with|true=>[.str "do",.int m.wk,.int m.rm]|false=>[.str "clear",.int m.rm]
def Mo.res (m:Mo):Option Int:=match m.dk with|true=>some m.wk|false=>none
structure TIn (H:Hp)(a wd sz la mv:Addr)(Ae:Aa0)(wides sizes:List Int)(lay:List (Option Int))(m:Mo)(ns:List Int)(o:Option Int)(s w:Int):Prop where
 net_:NetAt H a Ae
 wides_:H wd=some (.tup (wides.map V.int))
 sizes_:H sz=some (.tup (sizes.map V.int))
 lay_:H la=some (.tup (lay.map oV))
 move:H mv=some (.tup m.vs)
 work:m.dk=true->0<=m.wk/\Ae[m.wk.toNat]?=some ns/\ns.length<=1000/\wides[m.wk.toNat]?=some w
 rm0:0<=m.rm
 at_:lay[m.rm.toNat]?=some o
 size:sizes[m.rm.toNat]?=some s
 len:lay.length<=1000
structure TKit (H:Hp)(a wd sz:Addr)(Ae:Aa0)(wides sizes:List Int):Prop where
 net_:NetAt H a Ae
 wf:WFn Ae
 n1:1<=Ae.length
 n6:Ae.length<=6
 wides_:H wd=some (.tup (wides.map V.int))
 lw:wides.length=Ae.length
 w9:∀x∈wides,0<=x/\x<=99
 sizes_:H sz=some (.tup (sizes.map V.int))
 k1:1<=sizes.length
 k5:sizes.length<=5
 s9:∀x∈sizes,0<=x/\x<=99
structure Sm (W:Nat)(d:PyData):Prop where
 sh:d.showable=true
 nd:d.hasDict=false
 ls:d.leavesShort 8=true
 wt:d.weight<=W
def numB:PyData->Bool|.int _=>true|_=>false
def qYB (e:Int):PyData->Bool|.int i=>decide (0<=i)&&decide (i<e)|_=>false
abbrev Wy:=Int->List Int
def upW (W:Wy)(a b:Int):Wy:=λx=>if x=a then(W a).erase b else if x=b then W b++[a] else W x
structure Fl0 (W0 W:Wy):Prop where
 nd:∀x,(W x).Nodup
 ex:∀x y,y∈W0 x->(y∈W x↔x∉W y)
 on:∀x y,y∈W x->y∈W0 x\/x∈W0 y
structure Anti (W0:Wy):Prop where
 nd:∀x,(W0 x).Nodup
 no:∀x y,y∈W0 x->x∉W0 y
section
variable{W0 W:Wy}
def Anti.self (A:Anti W0):Fl0 W0 W0:=⟨A.nd,λx y h=>⟨λ_=>A.no x y h,λ_=>h⟩,λ_ _ h=>.inl h⟩
theorem qMU {a b x:Int} (c:x≠a)(d:x≠b):upW W a b x=W x:=by unfold upW;rw[if_neg c,if_neg d]
theorem qYL {a b:Int} :upW W a b a=(W a).erase b:=by unfold upW;rw[if_pos rfl]
theorem qYK {a b:Int} (h:b≠a):upW W a b b=W b++[a]:=by unfold upW;rw[if_neg h,if_pos rfl]
theorem Fl0.turn (F:Fl0 W0 W){a b:Int}(h:b∈W a)(j:b≠a):Fl0 W0 (upW W a b):=by
 have o:a∉W b:=by
  intro z;rcases F.on a b h with e|e
  ·exact(F.ex a b e).mp h z
  ·exact(F.ex b a e).mp z h
 -- who is in the new one
 have d:∀x y,y∈upW W a b x↔(y∈W x/\¬(x=a/\y=b))\/(x=b/\y=a):=by
  intro x y;by_cases c:x=a
  ·subst c;rw[qYL,(F.nd x).mem_erase_iff]
   constructor
   ·rintro⟨g,i⟩;exact .inl ⟨i,λz=>g z.2⟩
   ·rintro(⟨g,i⟩|⟨g,i⟩)
    ·exact⟨λz=>i ⟨rfl,z⟩,g⟩
    ·exact absurd g.symm j
  ·by_cases f:x=b
   ·subst f;rw[qYK c,C1,A6]
    constructor
    ·rintro(h|h)
     ·exact .inl ⟨h,λz=>c z.1⟩
     ·exact .inr ⟨rfl,h⟩
    ·rintro(⟨h,_⟩|⟨_,h⟩)
     ·exact .inl h
     ·exact .inr h
   ·rw[qMU c f];exact⟨λh=>.inl ⟨h,λz=>c z.1⟩,λh=>h.elim (λz=>z.1) λz=>absurd z.1 f⟩
 refine⟨λx=>?_,λx y m=>?_,λx y m=>?_⟩
 ·by_cases c:x=a
  ·subst c;rw[qYL];exact(F.nd x).erase _
  ·by_cases f:x=b
   ·subst f;rw[qYK c,O3];exact⟨F.nd x,by simp,λu p v n z=>o (by rw[A6.mp n] at z;exact z▸p)⟩
   ·rw[qMU c f];exact F.nd x
 ·rw[d,d];have:=F.ex x y m;by_cases k:x=a/\y=b
  ·obtain⟨rfl,rfl⟩:=k
   constructor
   ·rintro(⟨_,z⟩|⟨z,_⟩)
    ·exact absurd ⟨rfl,rfl⟩ z
    ·exact absurd z.symm j
   ·intro z;exact absurd (.inr ⟨rfl,rfl⟩) z
  ·by_cases l:x=b/\y=a
   ·obtain⟨rfl,rfl⟩:=l
    constructor
    ·rintro _ (⟨_,z⟩|⟨z,_⟩)
     ·exact z ⟨rfl,rfl⟩
     ·exact j z.symm
    ·exactλ_=>.inr ⟨rfl,rfl⟩
   ·constructor
    ·rintro(⟨z,_⟩|z)
     ·rintro(⟨u,_⟩|⟨u,v⟩)
      ·exact this.mp z u
      ·exact k ⟨v,u⟩
     ·exact absurd z l
    ·intro z;refine .inl ⟨this.mpr λu=>z (.inl ⟨u,λv=>l ⟨v.2,v.1⟩⟩),k⟩
 ·rcases(d x y).mp m with⟨z,_⟩|⟨rfl,rfl⟩
  ·exact F.on x y z
  ·exact(F.on y x h).symm
def Pth (W:Wy):List Int->Prop
 |f::s::r=>f∈W s/\Pth W (s::r)
 |_=>True
def qCZ:List Int->Wy->Wy
 |f::s::r,W=>qCZ (s::r) (upW W s f)
 |_,W=>W
theorem qXM {W W':Wy} :∀{r:List Int},Pth W r->(∀x∈r.tail,W' x=W x)->Pth W' r
 |[],_,_=>trivial
 |[_],_,_=>trivial
 |f::s::r,h,e=>⟨by rw[e s A8];exact h.1,qXM h.2 λx hx=>e x (A7 _ hx)⟩
def oneI (p:Prop)[Decidable p]:Nat:=if p then 1 else 0
theorem qLV:∀(st:List Int) (W:Wy),Fl0 W0 W->Pth W st->st.Nodup->∀g l,st.head?=some g->st.getLast?=some l->Fl0 W0 (qCZ st W)/\∀x,(qCZ st W x).length+oneI (x=l)=(W x).length+oneI (x=g)
 |[],_,_,_,_,_,_,h,_=>by cases h
 |[s],W,F,_,_,g,l,h1,h2=>by cases h1;cases h2;exact⟨F,λx=>rfl⟩
 |f::s::r,W,F,P,n,g,l,h1,h2=>by
  cases h1;obtain⟨n1,n2⟩:=J6.mp n;have nfs:f≠s:=λz=>n1 (by rw[z];exact A8)
  have F1:=F.turn P.1 nfs;have P1:Pth (upW W s f) (s::r):=qXM P.2 λx hx=>by
   have hx:x∈r:=hx;exact qMU (λz=>(J6.mp n2).1 (z▸hx)) λz=>n1 (z▸A7 _ hx)
  obtain⟨k1,k2⟩:=qLV (s::r) (upW W s f) F1 P1 n2 s l rfl (by rw[l0] at h2;exact h2)
  refine⟨k1,λx=>?_⟩;have:=k2 x;show(qCZ (s::r) (upW W s f) x).length+_=_;rw[this];unfold oneI;by_cases e1:x=s
  ·subst e1;rw[qYL,Y1 P.1,if_pos rfl,if_neg (λz=>nfs z.symm)];have:=A65 P.1
   lia
  ·by_cases e2:x=f
   ·subst e2;rw[qYK e1,B0,if_neg e1,if_pos rfl]
    rfl
   ·rw[qMU e1 e2,if_neg e1,if_neg e2]
end
section
variable(Ae:Aa0)(path:List Int)
def qAX (w:Int):Bool:=decide (0<=w)&&decide (w<(Ae.length:Int))&&decide (w∉path)
def qCV (n:Int):Bool:=decide (n∉path)&&(path.drop 1).any λw=>decide (n∈nd Ae w)
noncomputable def fwW (i:Nat):Wy:=λx=>
 if x = -1 then((qAJ 0 i).filter λw=>qAX Ae path w&&(nd Ae w).isEmpty).map (2 * ·)
 else if x%2=0 then(if qAX Ae path (x/2)&&decide (x/2<(i:Int)) then[x+1] else[])
 else(if qAX Ae path (x/2)&&decide (x/2<(i:Int)) then(if qCV Ae path (x/2) then[-2] else[])++((qAJ 0 i).filter λu=>qAX Ae path u&&decide (x/2∈nd Ae u)).map (2 * ·) else[])
end
section
variable{Ae:Aa0}{path:List Int}
theorem free_in {w:Int} :qAX Ae path w=true↔(0<=w/\w<(Ae.length:Int))/\w∉path:=by
 unfold qAX;rw[C6,C6,decide_eq_true_eq,decide_eq_true_eq,decide_eq_true_eq]
abbrev W0 (Ae:Aa0)(path:List Int):Wy:=fwW Ae path Ae.length
theorem w0_s {y:Int} :y∈W0 Ae path (-1)↔∃w,y=2*w/\qAX Ae path w=true/\nd Ae w=[]:=by
 show y∈(if(-1:Int) = -1 then _ else _)↔_
 rw[if_pos rfl,C3]
 constructor
 ·rintro⟨w,c,rfl⟩;obtain⟨_,a⟩:=K0.mp c;rw[C6,V6] at a;exact⟨w,rfl,a⟩
 ·rintro⟨w,rfl,b,a⟩;refine⟨w,K0.mpr ⟨mem_rangeI.mpr (free_in.mp b).1,?_⟩,rfl⟩;rw[C6,V6];exact⟨b,a⟩
theorem w0_e {w:Int} (a:0<=w):W0 Ae path (2*w)=if qAX Ae path w=true then[2*w+1] else[]:=by
 show(if 2*w = -1 then _ else if 2*w%2=0 then _ else _)=_
 rw[if_neg (by lia),if_pos (by lia),show 2*w/2=w by lia]
 cases e:qAX Ae path w with
 |false=>rfl
 |true=>rw[decide_eq_true (free_in.mp e).1.2];rfl
theorem w0_o {w y:Int} (d:0<=w):y∈W0 Ae path (2*w+1)↔qAX Ae path w=true/\((y = -2/\qCV Ae path w=true)\/∃u,y=2*u/\qAX Ae path u=true/\w∈nd Ae u):=by
 show y∈(if 2*w+1 = -1 then _ else if(2*w+1)%2=0 then _ else _)↔_
 rw[if_neg (by lia),if_neg (by lia),show(2*w+1)/2=w by lia]
 cases e:qAX Ae path w with
 |false=>simp
 |true=>
  rw[decide_eq_true (free_in.mp e).1.2,if_pos (by rfl),C1,C3]
  constructor
  ·rintro(h|⟨u,hu,rfl⟩)
   ·refine⟨rfl,.inl ?_⟩
    split at h
    ·rename_i c;exact⟨A6.mp h,c⟩
    ·cases h
   ·obtain⟨_,a⟩:=K0.mp hu;rw[C6,decide_eq_true_eq] at a;exact⟨rfl,.inr ⟨u,rfl,a⟩⟩
  ·rintro⟨_,⟨rfl,c⟩|⟨u,rfl,b,a⟩⟩
   ·left;rw[if_pos c];exact A8
   ·right
    refine⟨u,K0.mpr ⟨mem_rangeI.mpr (free_in.mp b).1,?_⟩,rfl⟩;rw[C6,decide_eq_true_eq];exact⟨b,a⟩
theorem qDC {x y:Int} (h:y∈W0 Ae path x):(x = -1/\∃w,y=2*w/\qAX Ae path w=true/\nd Ae w=[])\/(∃w,x=2*w/\y=2*w+1/\qAX Ae path w=true)\/∃w,x=2*w+1/\0<=w/\qAX Ae path w=true/\((y = -2/\qCV Ae path w=true)\/∃u,y=2*u/\qAX Ae path u=true/\w∈nd Ae u):=by
 by_cases d:x = -1
 ·subst d;exact .inl ⟨rfl,w0_s.mp h⟩
 ·by_cases e:x%2=0
  ·right;left
   have a:=h;unfold W0 fwW at h;rw[if_neg d,if_pos e] at h
   split at h
   ·rename_i c
    rw[C6] at c;exact⟨x/2,by lia,by rw[A6.mp h];lia,c.1⟩
   ·cases h
  ·right;right
   have a:=h;unfold W0 fwW at h;rw[if_neg d,if_neg e] at h
   split at h
   ·rename_i c
    rw[C6] at c;have b:=(free_in.mp c.1).1;have f:x=2*(x/2)+1:=by lia
    refine⟨x/2,f,b.1,?_⟩;rw[f] at a;exact(w0_o b.1).mp a
   ·cases h
theorem qJR (a b:Int):(qAJ a b).Nodup:=(qHA a b).imp λh e=>by lia
theorem qMB {a b:Int} (h:2*a=2*b):a=b:=by lia
theorem qNL {l:List Int} (h:l.Nodup):(l.map (2 * ·)).Nodup:=by
 rw[List.Nodup,P9];exact h.imp λz e=>z (by lia)
theorem qSF (l:WFn Ae):Anti (W0 Ae path):=by
 constructor
 ·intro x;unfold W0 fwW
  split
  ·exact qNL ((qJR _ _).filter _)
  ·split
   ·split
    ·simp
    ·exact .nil
   ·split
    ·rw[O3];refine⟨by split<;>simp,qNL ((qJR _ _).filter _),λa j b n z=>?_⟩
     obtain⟨u,c,rfl⟩:=C3.mp n;have:=(mem_rangeI.mp (K0.mp c).1).1
     split at j
     ·rw[A6.mp j] at z;lia
     ·cases j
    ·exact .nil
 ·intro x y h z;rcases qDC h with⟨rfl,w,rfl,_⟩|⟨w,rfl,rfl,f⟩|⟨w,rfl,d,f,⟨rfl,_⟩|⟨u,rfl,g,c⟩⟩
  ·rcases qDC z with⟨_,v,e,_⟩|⟨v,e,i,k⟩|⟨v,e,_,_,⟨i,_⟩|⟨u,i,_⟩⟩
   ·lia
   ·have:=(free_in.mp k).1.1;lia
   ·cases i
   ·lia
  ·have d:=(free_in.mp f).1.1;rcases(w0_o d).mp z with⟨_,⟨e,_⟩|⟨u,e,_,c⟩⟩
   ·lia
   ·have e:=qMB e;subst e;have:=qD1 l d c
    lia
  ·rcases qDC z with⟨e,_⟩|⟨v,e,i,k⟩|⟨v,e,_⟩
   ·lia
   ·have:=(free_in.mp k).1.1;lia
   ·lia
  ·have m:=(free_in.mp g).1.1;rw[w0_e m,if_pos g] at z;have:=A6.mp z;have e:w=u:=by lia
   subst e;have:=qD1 l d c
   lia
structure Fl (Ae:Aa0)(path:List Int)(W:Wy):Prop where
 fl:Fl0 (W0 Ae path) W
 len:∀x,x≠-1->x≠-2->(W x).length=(W0 Ae path x).length
def qX1 (a:WFn Ae):Fl Ae path (W0 Ae path):=⟨(qSF a).self,λ_ _ _=>rfl⟩
theorem Fl.turn {W:Wy} (F:Fl Ae path W){st:List Int}(P:Pth W st)(n:st.Nodup)(d:st.head?=some (-2))(e:st.getLast?=some (-1)):Fl Ae path (qCZ st W)/\(qCZ st W (-2)).length=(W (-2)).length+1:=by
 obtain⟨f,c⟩:=qLV st W F.fl P n _ _ d e;refine⟨⟨f,λx a b=>?_⟩,?_⟩
 ·have:=c x;unfold oneI at this;rw[if_neg a,if_neg b] at this;rw[<- F.len x a b];exact this
 ·have:=c (-2);unfold oneI at this;rw[if_neg (by decide),if_pos rfl] at this
  exact this
def Flw (W:Wy)(w:Int):Prop:=2*w+1∉W (2*w)
variable{W:Wy}
theorem Fl.in1 (F:Fl Ae path W){w:Int}(f:qAX Ae path w=true):∃p,W (2*w)=[p]:=by
 have b:=(free_in.mp f).1.1;have:=F.len (2*w) (by lia) (by lia)
 rw[w0_e b,if_pos f] at this
 match e:W (2*w),this with
 |[p],_=>exact⟨p,rfl⟩
theorem Fl.pred (F:Fl Ae path W){w:Int}(f:qAX Ae path w=true)(h:Flw W w):∃p,W (2*w)=[p]/\2*w∉W p/\((p = -1/\nd Ae w=[])\/∃n,p=2*n+1/\qAX Ae path n=true/\n∈nd Ae w):=by
 obtain⟨p,e⟩:=F.in1 f;have b:=(free_in.mp f).1.1;have c:p∈W (2*w):=by rw[e];exact A8
 have j:p≠2*w+1:=λz=>h (z▸c);rcases F.fl.on _ _ c with z|z
 ·rw[w0_e b,if_pos f] at z;exact absurd (A6.mp z) j
 ·refine⟨p,e,λy=>(F.fl.ex _ _ z).mp y c,?_⟩;rcases qDC z with⟨rfl,v,a,_,d⟩|⟨v,a,d,_⟩|⟨v,rfl,k,g,⟨a,_⟩|⟨u,a,_,i⟩⟩
  ·rw[<- qMB a] at d;exact .inl ⟨rfl,d⟩
  ·lia
  ·lia
  ·rw[<- qMB a] at i;exact .inr ⟨v,rfl,g,i⟩
theorem Fl.out (F:Fl Ae path W){n y:Int}(f:qAX Ae path n=true)(j:y∈W0 Ae path (2*n+1))(l:y∉W (2*n+1)):Flw W n/\∀z∈W0 Ae path (2*n+1),z∉W (2*n+1)->z=y:=by
 have b:=(free_in.mp f).1.1;have r:=F.len (2*n+1) (by lia) (by lia)
 have i:∀z∈W (2*n+1),z∉W0 Ae path (2*n+1)->z=2*n:=by
  intro z a h;rcases F.fl.on _ _ a with u|u
  ·exact absurd u h
  ·rcases qDC u with⟨rfl,v,e1,_⟩|⟨v,rfl,e2,_⟩|⟨v,rfl,_,_,⟨e1,_⟩|⟨u,e1,_⟩⟩<;>lia
 have k:2*n∈W (2*n+1):=by
  refine L9 λh=>?_;have d:∀z∈W (2*n+1),z∈(W0 Ae path (2*n+1)).erase y:=λz a=>by
   refine(g8 (show z≠y fromλe=>l (e▸a))).mpr (L9 λq=>h ?_);have:=i z a q;subst this;exact a
  have:=D9 (F.fl.nd (2*n+1)) d;rw[Y1 j] at this;have:=A65 j
  lia
 constructor
 ·have p:2*n+1∈W0 Ae path (2*n):=by rw[w0_e b,if_pos f];exact A8
  exactλz=>(F.fl.ex _ _ p).mp z k
 ·intro z a h;refine L9 λm=>?_;have d:∀v∈W (2*n+1),v∈2*n::((W0 Ae path (2*n+1)).erase y).erase z:=λv g=>by
   by_cases c:v∈W0 Ae path (2*n+1)
   ·refine A7 _ ((g8 (show v≠z fromλe=>h (e▸g))).mpr ((g8 (show v≠y fromλe=>l (e▸g))).mpr c))
   ·rw[i v g c];exact A8
  have o:=D9 (F.fl.nd (2*n+1)) d;rw[C9,Y1 ((g8 m).mpr a),Y1 j] at o;have:2<=(W0 Ae path (2*n+1)).length:=by
   have:=D9 (l₁:=[y,z]) (l₂:=W0 Ae path (2*n+1)) (by simp;exactλe=>m e.symm) (by intro v g;simp at g;rcases g with rfl|rfl<;>assumption)
   simpa using this
  lia
inductive Sd (W:Wy):Int->List Int->Prop
 |top {w:Int}:W (2*w)=[-1]->Sd W w [w]
 |step {w n:Int} {s:List Int}:0<=n->W (2*w)=[2*n+1]->Sd W n s->Sd W w (s++[w])
theorem qOQ {w:Int} {s:List Int} (h:Sd W w s):s.getLast?=some w:=by
 cases h with
 |top _=>rfl
 |step _ _ _=>rw[A86];rfl
theorem Fl.side (F:Fl Ae path W)(wf:WFn Ae):∀(k:Nat) (w:Int),w.toNat<k->qAX Ae path w=true->Flw W w->∃s,Sd W w s
 |0,_,h,_,_=>absurd h (A77 _)
 |k+1,w,h,f,fl=>by
  obtain⟨p,e1,e2,⟨rfl,_⟩|⟨n,rfl,g,hn⟩⟩:=F.pred f fl
  ·exact⟨[w],.top e1⟩
  ·have b:=(free_in.mp f).1.1;have bn:=qD1 wf b hn;have gn:=(free_in.mp g).1.1;obtain⟨fn,_⟩:=F.out g (y:=2*w) ((w0_o gn).mpr ⟨g,.inr ⟨w,rfl,f,hn⟩⟩) e2;obtain⟨s,hs⟩:=Fl.side F wf k n (by lia) g fn
   exact⟨s++[w],.step gn e1 hs⟩
theorem Sd.one {w:Int} {s s':List Int} (h:Sd W w s):Sd W w s'->s=s':=by
 induction h generalizing s' with
 |top e=>
  intro a;cases a with
  |top _=>rfl
  |step h0 e' _=>
   rw[e] at e';have:=(R0 e').1
   exfalso;lia
 |@step w n s h0 e _ ih=>
  intro a;cases a with
  |top e'=>rw[e] at e';have:=(R0 e').1;exfalso;lia
  |@step _ n' _ h0' e' k=>
   rw[e] at e';have:=(R0 e').1;have b:n=n':=by lia
   subst b;rw[ih k]
structure SdIs (Ae:Aa0)(path:List Int)(W:Wy)(w:Int)(s:List Int):Prop where
 up:s.Pairwise (·<·)
 le:∀x∈s,x<=w
 fr:∀x∈s,qAX Ae path x=true/\Flw W x
 hd:∃t r,s=t::r/\nd Ae t=[]
 nx:∀x∈s,x=w\/∃u∈s,x<u/\W (2*u)=[2*x+1]
 co:∀i a b,s[i]?=some a->s[i+1]?=some b->a∈nd Ae b
theorem Fl.sdIs (F:Fl Ae path W)(wf:WFn Ae){w:Int}{s:List Int}(h:Sd W w s):qAX Ae path w=true->Flw W w->SdIs Ae path W w s:=by
 induction h with
 |@top w e=>
  intro f o;obtain⟨p,m,_,⟨rfl,nn⟩|⟨n,rfl,g,_⟩⟩:=F.pred f o
  ·exact⟨by simp,by simp,by simp;exact⟨f,o⟩,⟨w,[],rfl,nn⟩,by simp,λi a b j d=>by simp at d⟩
  ·rw[e] at m;have:=(R0 m).1;have:=(free_in.mp g).1.1;exfalso;lia
 |@step w n s h0 e hs ih=>
  intro f o;obtain⟨p,m,e2,⟨rfl,nn⟩|⟨n',rfl,g,v⟩⟩:=F.pred f o
  ·rw[e] at m;have:=(R0 m).1
   exfalso;lia
  ·have en:n=n':=by rw[e] at m;have:=(R0 m).1;lia
   subst en;have b:=(free_in.mp f).1.1;have bn:=qD1 wf b v;have gn:=(free_in.mp g).1.1;obtain⟨fn,_⟩:=F.out g (y:=2*w) ((w0_o gn).mpr ⟨g,.inr ⟨w,rfl,f,v⟩⟩) e2;have k:=ih g fn;have q:=qOQ hs;have a0:n∈s:=y7 q;refine⟨?_,λx l=>?_,λx l=>?_,?_,λx l=>?_,λi a c j d=>?_⟩
   ·rw[O6];exact⟨k.up,by simp,λx l y hy=>by rw[A6.mp hy];have:=k.le x l;lia⟩
   ·rcases C1.mp l with z|z
    ·have:=k.le x z;lia
    ·rw[A6.mp z];exact J9 _
   ·rcases C1.mp l with z|z
    ·exact k.fr x z
    ·rw[A6.mp z];exact⟨f,o⟩
   ·obtain⟨t,r,rfl,ht⟩:=k.hd;exact⟨t,r++[w],rfl,ht⟩
   ·rcases C1.mp l with z|z
    ·rcases k.nx x z with rfl|⟨u,hu,j,d⟩
     ·exact .inr ⟨w,F6 _ A8,by lia,e⟩
     ·exact .inr ⟨u,L6 _ hu,j,d⟩
    ·exact .inl (A6.mp z)
   ·by_cases c1:i+1<s.length
    ·rw[F4 (by lia)] at j
     rw[F4 c1] at d;exact k.co i a c j d
    ·have li:=(A3.mp d).1;rw[B0,C2] at li;have ei:i+1=s.length:=by lia
     rw[E1 (by lia),ei,Y3] at d
     cases d;rw[F4 (by lia)] at j
     rw[List.getLast?_eq_getElem?,show s.length-1=i by lia,j] at q
     cases q;exact v
theorem Fl.apart (F:Fl Ae path W)(wf:WFn Ae){w w':Int}{s s':List Int}(k:SdIs Ae path W w s)(k':SdIs Ae path W w' s')(h:2*w+1∈W (-2))(h':2*w'+1∈W (-2)):∀(m:Nat) (x:Int),(w-x).toNat<m->x∈s->x∈s'->w=w'
 |0,_,hm,_,_=>absurd hm (A77 _)
 |m+1,x,hm,hx,hx'=>by
  have fx:=(k.fr x hx).1;have bx:=(free_in.mp fx).1.1
  -- what is turned behind x
  have out:∀{v:Int} {t:List Int},SdIs Ae path W v t->2*v+1∈W (-2)->x∈t->(x=v/\(-2:Int)∈W0 Ae path (2*x+1)/\(-2:Int)∉W (2*x+1))\/∃u∈t,x<u/\2*u∈W0 Ae path (2*x+1)/\2*u∉W (2*x+1):=by
   intro v t kt hv ht;rcases kt.nx x ht with rfl|⟨u,hu,h1,h2⟩
   ·left
    rcases F.fl.on _ _ hv with z|z
    ·rcases qDC z with⟨e,_⟩|⟨v,e,e2,_⟩|⟨v,e,_⟩<;>lia
    ·exact⟨rfl,z,λy=>(F.fl.ex _ _ z).mp y hv⟩
   ·right
    have fu:=kt.fr u hu;obtain⟨p,e1,e2,⟨rfl,nn⟩|⟨n,rfl,g,hn⟩⟩:=F.pred fu.1 fu.2
    ·rw[h2] at e1;have:=(R0 e1).1;exfalso;lia
    ·have en:x=n:=by rw[h2] at e1;have:=(R0 e1).1;lia
     subst en;exact⟨u,hu,h1,(w0_o bx).mpr ⟨fx,.inr ⟨u,rfl,fu.1,hn⟩⟩,e2⟩
  rcases out k h hx with⟨rfl,a1,a2⟩|⟨u,hu,lt,a1,a2⟩
  ·rcases out k' h' hx' with⟨rfl,_⟩|⟨u',hu',_,b1,b2⟩
   ·rfl
   ·have:=(F.out fx a1 a2).2 _ b1 b2;have:=(free_in.mp (k'.fr u' hu').1).1.1
    lia
  ·rcases out k' h' hx' with⟨rfl,b1,b2⟩|⟨u',hu',_,b1,b2⟩
   ·have:=(F.out fx b1 b2).2 _ a1 a2;have:=(free_in.mp (k.fr u hu).1).1.1
    lia
   ·have e:=(F.out fx a1 a2).2 _ b1 b2;have e:u'=u:=by lia
    subst e;have:=k.le u' hu;exact Fl.apart F wf k k' h h' m u' (by lia) hu hu'
theorem Fl.ends (F:Fl Ae path W){x:Int}(h:x∈W (-2)):∃w,x=2*w+1/\qAX Ae path w=true/\qCV Ae path w=true/\Flw W w:=by
 rcases F.fl.on _ _ h with z|z
 ·rcases qDC z with⟨e,_⟩|⟨v,e,a,f⟩|⟨v,e,b,_⟩
  ·cases e
  ·have:=(free_in.mp f).1.1;lia
  ·lia
 ·rcases qDC z with⟨e,v,a,f,_⟩|⟨v,e,a,f⟩|⟨w,rfl,b,f,⟨_,c⟩|⟨u,a,d,_⟩⟩
  ·have:=(free_in.mp f).1.1;lia
  ·have:=(free_in.mp f).1.1;lia
  ·exact⟨w,rfl,f,c,(F.out f z λy=>(F.fl.ex _ _ z).mp y h).1⟩
  ·have:=(free_in.mp d).1.1;lia
end
abbrev Cm:=List (Int×Int)
def vis (cm:Cm)(x:Int):Bool:=decide (x = -1)||cm.any λp=>decide (p.1=x)
def look (cm:Cm)(x:Int):Option Int:=(cm.find? λp=>decide (p.1=x)).map (·.2)
noncomputable def dfsF (stop:Int):List Int->Cm×List Int->Cm×List Int
 |[],s=>s
 |f::r,s=>dfsF stop r (if vis s.1 f then s else(s.1++[(f,stop)],s.2++[f]))
def dfsC (s:Cm×List Int):Bool:=!s.2.isEmpty && !vis s.1 (-2)
inductive Dfs (W:Wy):Cm×List Int->Cm×List Int->Prop
 |stop {s}:dfsC s=false->Dfs W s s
 |go {cm:Cm} {due:List Int} {x:Int} {t}:vis cm (-2)=false->Dfs W (dfsF x (W x) (cm,due)) t->Dfs W (cm,due++[x]) t
inductive Back (cm:Cm):Int->List Int->Prop
 |src:Back cm (-1) [-1]
 |step {x p:Int} {r:List Int}:x≠-1->look cm x=some p->Back cm p r->Back cm x (x::r)
def WB (W:Wy)(st:List Int):Prop:=∃cm due,Dfs W ([],[-1]) (cm,due)/\((vis cm (-2)=false/\st=[])\/(vis cm (-2)=true/\Back cm (-2) st))
theorem Dfs.one {W:Wy} {s t t':Cm×List Int} (h:Dfs W s t):Dfs W s t'->t=t':=by
 induction h with
 |stop c=>
  intro k;cases k with
  |stop _=>rfl
  |go v _=>simp[dfsC,v] at c
 |@go cm due x t v _ ih=>
  intro k;generalize e:(cm,due++[x])=s at k;cases k with
  |stop c=>subst e;simp[dfsC,v] at c
  |@go cm' due' x' t' v' k'=>
   have b:=congrArg Prod.fst e;have a:=congrArg Prod.snd e;dsimp only at b a;subst b;obtain⟨f,d⟩:=List.append_inj' a rfl;subst f;cases d;exact ih k'
theorem Back.one {b:Cm} {x:Int} {r a:List Int} (h:Back b x r):Back b x a->r=a:=by
 induction h generalizing a with
 |src=>
  intro k;cases k with
  |src=>rfl
  |step h _ _=>exact absurd rfl h
 |step h1 h2 _ ih=>
  intro k;cases k with
  |src=>exact absurd rfl h1
  |step _ k2 k3=>
   have:=G0 (h2.symm.trans k2);subst this;rw[ih k3]
theorem WB.one {W:Wy} {st f:List Int} :WB W st->WB W f->st=f:=by
 rintro⟨n,m,h,k⟩ ⟨l,i,j,g⟩;have e:=h.one j;cases e;rcases k with⟨a,rfl⟩|⟨a,b⟩
 ·rcases g with⟨_,rfl⟩|⟨c,_⟩
  ·rfl
  ·rw[a] at c;cases c
 ·rcases g with⟨c,_⟩|⟨_,d⟩
  ·rw[a] at c;cases c
  ·exact b.one d
structure Gd (W:Wy)(cm:Cm):Prop where
 nd:(cm.map (·.1)).Nodup
 at_:∀(i:Nat) f p,cm[i]?=some (f,p)->f∈W p/\f≠-1/\(p = -1\/∃j q,j<i/\cm[j]?=some (p,q))
theorem vis_iff {a:Cm} {x:Int} :vis a x=true↔x = -1\/∃(i:Nat) (q:Int),a[i]?=some (x,q):=by
 unfold vis;rw[A70,decide_eq_true_eq,R1];refine or_congr_right ⟨?_,?_⟩
 ·rintro⟨⟨y,q⟩,b,c⟩;have:=of_decide_eq_true c;dsimp only at this;subst this;obtain⟨i,d⟩:=M8 b;exact⟨i,q,d⟩
 ·rintro⟨i,q,h⟩;exact⟨(x,q),B3 h,decide_eq_true rfl⟩
theorem Gd.snoc {W:Wy} {h:Cm} (G:Gd W h){f p:Int}(u:f∈W p)(m:vis h f=false)(t:vis h p=true):Gd W (h++[(f,p)]):=by
 have n:¬(f = -1\/∃(i:Nat) (q:Int),h[i]?=some (f,q)):=λz=>by rw[vis_iff.mpr z] at m;cases m
 refine⟨?_,λi g q e=>?_⟩
 ·rw[B2,O3];refine⟨G.nd,by simp,λa v b o z=>?_⟩
  obtain⟨⟨y,q⟩,s,rfl⟩:=C3.mp v;obtain⟨i,hi⟩:=M8 s;simp at o;rw[o] at z;dsimp only at z;subst z;exact n (.inr ⟨i,q,hi⟩)
 ·by_cases c:i<h.length
  ·rw[F4 c] at e;obtain⟨a,b,d⟩:=G.at_ i g q e;refine⟨a,b,d.imp id ?_⟩;rintro⟨j,r,k,l⟩;exact⟨j,r,k,by rw[F4 (by lia)];exact l⟩
  ·have w:=(A3.mp e).1;rw[B0,C2] at w;have x:i=h.length:=by lia
   subst x;rw[E1 (A9 _),Y3] at e;cases e;refine⟨u,λz=>n (.inl z),?_⟩;rcases vis_iff.mp t with z|⟨j,r,l⟩
   ·exact .inl z
   ·have k:=(A3.mp l).1;exact .inr ⟨j,r,k,by rw[F4 k];exact l⟩
theorem qU2 {a:Cm} (n:(a.map (·.1)).Nodup){i:Nat}{f p:Int}(h:a[i]?=some (f,p)):look a f=some p:=by
 unfold look
 induction a generalizing i with
 |nil=>cases h
 |cons q a ih=>
  obtain⟨b,d⟩:=J6.mp n;cases i with
  |zero=>
   cases h;simp[X7]
  |succ i=>
   have c:=B3 (l:=a) (i:=i) h;rw[Z6 λz=>?_]
   ·exact ih d h
   ·have:=of_decide_eq_true z;exact b (C3.mpr ⟨(f,p),c,this.symm⟩)
theorem Gd.back {W:Wy} {cm:Cm} (G:Gd W cm):∀(i:Nat) (f p:Int),cm[i]?=some (f,p)->∃r,Back cm f r/\Pth W r/\r.Nodup/\r.head?=some f/\r.getLast?=some (-1)/\∀x∈r,x = -1\/∃j q,j<=i/\cm[j]?=some (x,q)
 |i,f,p,h=>by
  obtain⟨h1,h2,h3⟩:=G.at_ i f p h;have hl:=qU2 G.nd h;rcases h3 with rfl|⟨j,q,hj,ej⟩
  ·refine⟨[f,-1],.step h2 hl .src,⟨h1,trivial⟩,by simp;exact h2,rfl,rfl,λx hx=>?_⟩
   simp at hx;rcases hx with rfl|rfl
   ·exact .inr ⟨i,-1,A9 _,h⟩
   ·exact .inl rfl
  ·obtain⟨r,b1,b2,b3,b4,b5,b6⟩:=Gd.back G j p q ej;obtain⟨r',rfl⟩:∃r',r=p::r':=by
    cases r with
    |nil=>cases b4
    |cons y r'=>cases b4;exact⟨r',rfl⟩
   refine⟨f::p::r',.step h2 hl b1,⟨h1,b2⟩,J6.mpr ⟨λz=>?_,b3⟩,rfl,by rw[l0];exact b5,λx hx=>?_⟩
   ·rcases b6 f z with e|⟨k,s,hk,ek⟩
    ·exact h2 e
    ·have n:=G.nd;have e1:(cm.map (·.1))[i]?=some f:=by rw[C0,h];rfl
     have e2:(cm.map (·.1))[k]?=some f:=by rw[C0,ek];rfl
     have:=(p9 (A3.mp e1).1 n).mp (e1.trans e2.symm)
     lia
   ·rcases B9.mp hx with rfl|hx
    ·exact .inr ⟨i,p,A9 _,h⟩
    ·exact(b6 x hx).imp id λ⟨k,s,hk,ek⟩=>⟨k,s,by lia,ek⟩
 termination_by i=>i
def StOk (W:Wy)(st:List Int):Prop:=st=[]\/(Pth W st/\st.Nodup/\st.head?=some (-2)/\st.getLast?=some (-1))
theorem qcJ {W:Wy} :Gd W []:=⟨by simp,λi f p e=>by cases e⟩
structure Sk (W:Wy)(s:Cm×List Int):Prop where
 gd:Gd W s.1
 due:∀x∈s.2,vis s.1 x=true
theorem qOH {a:Cm} {x:Int} {q:Int×Int} (h:vis a x=true):vis (a++[q]) x=true:=by
 rcases vis_iff.mp h with z|⟨i,r,e⟩
 ·exact vis_iff.mpr (.inl z)
 ·exact vis_iff.mpr (.inr ⟨i,r,by rw[F4 (A3.mp e).1];exact e⟩)
theorem qSG {a:Cm} {x q:Int} :vis (a++[(x,q)]) x=true:=vis_iff.mpr (.inr ⟨a.length,q,by rw[E1 (A9 _),Y3];rfl⟩)
noncomputable def dfsO (stop f:Int)(s:Cm×List Int):Cm×List Int:=if vis s.1 f then s else(s.1++[(f,stop)],s.2++[f])
theorem qO5 {stop f:Int} :∀(r:List Int) (s:Cm×List Int),dfsF stop (r++[f]) s=dfsO stop f (dfsF stop r s)
 |[],s=>rfl
 |g::r,s=>by
  show dfsF stop (r++[f]) _=dfsO stop f (dfsF stop r _);exact qO5 r _
theorem Sk.one {W:Wy} {s:Cm×List Int} (h:Sk W s){stop f:Int}(b:f∈W stop)(a:vis s.1 stop=true):Sk W (dfsO stop f s)/\vis (dfsO stop f s).1 stop=true:=by
 unfold dfsO;cases e:vis s.1 f with
 |true=>rw[if_pos rfl];exact⟨h,a⟩
 |false=>
  rw[if_neg (by simp)]
  refine⟨⟨h.gd.snoc b e a,λx c=>?_⟩,qOH a⟩;rcases C1.mp c with z|z
  ·exact qOH (h.due x z)
  ·rw[A6.mp z];exact qSG
def inK (Ae:Aa0)(path:List Int)(i:Nat)(k:Int):Prop:=k = -1\/k = -2\/∃w,qAX Ae path w=true/\w<(i:Int)/\(k=2*w\/k=2*w+1)
theorem qL2 {Ae:Aa0} {path:List Int} {x y:Int} (h:y∈W0 Ae path x):inK Ae path Ae.length x/\inK Ae path Ae.length y:=by
 rcases qDC h with⟨rfl,w,rfl,f,_⟩|⟨w,rfl,rfl,f⟩|⟨w,rfl,a,f,⟨rfl,_⟩|⟨u,rfl,g,_⟩⟩
 ·exact⟨.inl rfl,.inr (.inr ⟨w,f,(free_in.mp f).1.2,.inl rfl⟩)⟩
 ·exact⟨.inr (.inr ⟨w,f,(free_in.mp f).1.2,.inl rfl⟩),.inr (.inr ⟨w,f,(free_in.mp f).1.2,.inr rfl⟩)⟩
 ·exact⟨.inr (.inr ⟨w,f,(free_in.mp f).1.2,.inr rfl⟩),.inr (.inl rfl)⟩
 ·exact⟨.inr (.inr ⟨w,f,(free_in.mp f).1.2,.inr rfl⟩),.inr (.inr ⟨u,g,(free_in.mp g).1.2,.inl rfl⟩)⟩
theorem Fl0.dom {Ae:Aa0} {path:List Int} {W:Wy} (F:Fl0 (W0 Ae path) W){x y:Int}(h:y∈W x):inK Ae path Ae.length y:=by
 rcases F.on x y h with z|z
 ·exact(qL2 z).2
 ·exact(qL2 z).1
theorem qQO {Ae:Aa0} {path:List Int} {i:Nat} {k:Int} (h:inK Ae path i k):k∈qAJ (-2) (2*(Ae.length:Int)):=by
 rw[mem_rangeI];rcases h with rfl|rfl|⟨w,f,_,rfl|rfl⟩
 ·lia
 ·lia
 ·have:=(free_in.mp f).1;lia
 ·have:=(free_in.mp f).1;lia
theorem qHD {Ae:Aa0} {path:List Int} {l:List Int} (n:l.Nodup)(h:∀x∈l,inK Ae path Ae.length x):l.length<=2*Ae.length+2:=by
 have:=D9 n λx a=>qQO (h x a);rw[qD0] at this
 lia
structure WaysAt (H0 H:Hp)(d:Addr)(m:Nat)(P:Int->Prop)(W:Wy)(ad:Int->Addr):Prop where
 dict:∃Af,H d=some (.dK Af)/\Af.length<=m/\∀k,P k->valV Af (E9 k)=some (.ref (ad k))
 lst:∀k,P k->H (ad k)=some (.lst ((W k).map V.int))
 inj:∀k k',P k->P k'->ad k=ad k'->k=k'
 fr:∀k,P k->H0 (ad k)=none
 frd:H0 d=none
 old:Same H0 H
section
variable{H0 H H':Hp}{d:Addr}{m:Nat}{P:Int->Prop}{W:Wy}{ad:Int->Addr}
theorem WaysAt.same (h:WaysAt H0 H d m P W ad)(s:Same H H'):WaysAt H0 H' d m P W ad:=by
 obtain⟨e,a,b,c⟩:=h.dict;exact⟨⟨e,s _ _ a,b,c⟩,λk f=>s _ _ (h.lst k f),h.inj,h.fr,h.frd,h.old.trans s⟩
theorem WaysAt.nd (h:WaysAt H0 H d m P W ad){k:Int}(b:P k):ad k≠d:=by
 obtain⟨c,a,_⟩:=h.dict;exact qCK (h.lst k b) a (by intro z;cases z)
theorem WaysAt.put (h:WaysAt H0 H d m P W ad){k:Int}(f:P k)(zs:List Int):WaysAt H0 (Ag H (ad k) (.lst (zs.map V.int))) d m P (λx=>if x=k then zs else W x) ad:=by
 obtain⟨i,a,b,c⟩:=h.dict;refine⟨⟨i,by rw[qA8 (h.nd f).symm];exact a,b,c⟩,λx g=>?_,h.inj,h.fr,h.frd,qAB h.old (h.fr k f)⟩
 by_cases e:x=k
 ·subst e;rw[qA1,if_pos rfl]
 ·rw[qA8 λz=>e (h.inj _ _ g f z),if_neg e];exact h.lst x g
theorem WaysAt.congr {W':Wy} (h:WaysAt H0 H d m P W ad)(e:∀x,P x->W' x=W x):WaysAt H0 H d m P W' ad:=⟨h.dict,λk a=>by rw[e k a];exact h.lst k a,h.inj,h.fr,h.frd,h.old⟩
end
theorem WaysAt.add {H0 H:Hp} {d:Addr} {m:Nat} {P:Int->Prop} {W:Wy} {f:Int->Addr} (h:WaysAt H0 H d m P W f){k:Int}(r:¬P k){e:Addr}{zs:List Int}{Af:List (Key×V)}(p:H0 e=none)(i:H e=some (.lst (zs.map V.int)))(j:∀x,P x->f x≠e)(o:H d=some (.dK Af))(q:Af.length<=m)(n:∀x,P x->valV Af (E9 x)=some (.ref (f x))):WaysAt H0 (Ag H d (.dK (putK Af (E9 k) (.ref e)))) d (m+1) (λx=>P x\/x=k) (λx=>if x=k then zs else W x) (λx=>if x=k then e else f x):=by
 have g:e≠d:=qCK i o (by intro z;cases z)
 refine⟨⟨_,qA1,L5 (qC5 _ _ _) (by lia),λx a=>?_⟩,λx a=>?_,λx y a l z=>?_,λx a=>?_,h.frd,qAB h.old h.frd⟩
 ·rw[qFV];by_cases c:x=k
  ·rw[if_pos (by rw[c]),if_pos c]
  ·rw[if_neg λu=>c (W7 u),if_neg c];exact n x (a.resolve_right c)
 ·by_cases c:x=k
  ·rw[if_pos c,if_pos c,qA8 g];exact i
  ·rw[if_neg c,if_neg c,qA8 (h.nd (a.resolve_right c))];exact h.lst x (a.resolve_right c)
 ·by_cases c:x=k
  ·by_cases b:y=k
   ·rw[c,b]
   ·rw[if_pos c,if_neg b] at z;exact absurd z.symm (j y (l.resolve_right b))
  ·by_cases b:y=k
   ·rw[if_neg c,if_pos b] at z;exact absurd z (j x (a.resolve_right c))
   ·rw[if_neg c,if_neg b] at z;exact h.inj x y (a.resolve_right c) (l.resolve_right b) z
 ·by_cases c:x=k
  ·rw[if_pos c];exact p
  ·rw[if_neg c];exact h.fr x (a.resolve_right c)
theorem WaysAt.dom {H0 H:Hp} {d:Addr} {m m':Nat} {P P':Int->Prop} {W:Wy} {i:Int->Addr} (h:WaysAt H0 H d m P W i)(l:m<=m')(e:∀x,P' x->P x):WaysAt H0 H d m' P' W i:=by
 obtain⟨j,a,b,c⟩:=h.dict;exact⟨⟨j,a,by lia,λk f=>c k (e k f)⟩,λk f=>h.lst k (e k f),λk g a b=>h.inj k g (e k a) (e g b),λk f=>h.fr k (e k f),h.frd,h.old⟩
section
variable{Ae:Aa0}{path:List Int}{i:Nat}
theorem qM1 (i:Nat):qAJ 0 ((i+1:Nat):Int)=qAJ 0 (i:Int)++[(i:Int)]:=by
 refine qaW (qHA _ _) ?_ λx=>?_
 ·rw[O6];exact⟨qHA _ _,by simp,λa c b d=>by rw[A6.mp d];exact(mem_rangeI.mp c).2⟩
 ·rw[C1,mem_rangeI,mem_rangeI,A6]
  lia
theorem qcK (h:qAX Ae path (i:Int)=false)(x:Int):fwW Ae path (i+1) x=fwW Ae path i x:=by
 have a:∀p:Int->Bool,((qAJ 0 ((i+1:Nat):Int)).filter λw=>qAX Ae path w&&p w)=(qAJ 0 (i:Int)).filter λw=>qAX Ae path w&&p w:=λp=>by
  rw[qM1,l5,V4,h];simp
 unfold fwW;have b:(qAX Ae path (x/2)&&decide (x/2<((i+1:Nat):Int)))=(qAX Ae path (x/2)&&decide (x/2<(i:Int))):=by
  by_cases c:x/2=(i:Int)
  ·rw[c,h];rfl
  ·congr 1;exact decide_eq_decide.mpr (by lia)
 rw[b,a,a]
theorem fw_s (h:qAX Ae path (i:Int)=true):fwW Ae path (i+1) (-1)=fwW Ae path i (-1)++if(nd Ae (i:Int)).isEmpty then[2*(i:Int)] else[]:=by
 unfold fwW;rw[if_pos rfl,if_pos rfl,qM1,l5,B2,V4,h];cases(nd Ae (i:Int)).isEmpty<;>rfl
theorem fw_g (k:Nat):fwW Ae path k (-2)=[]:=by
 unfold fwW;rw[if_neg (by decide),if_pos (by decide)]
 have:qAX Ae path (-2/2)=false:=by unfold qAX;rfl
 rw[this]
 rfl
theorem qP6 (k:Nat){n:Int}(a:0<=n):fwW Ae path k (2*n)=if qAX Ae path n&&decide (n<(k:Int)) then[2*n+1] else[]:=by
 show(if 2*n = -1 then _ else if 2*n%2=0 then _ else _)=_
 rw[if_neg (show¬2*n = -1 by lia),if_pos (show 2*n%2=0 by lia),show 2*n/2=n by lia]
theorem qUO (k:Nat){n:Int}(a:0<=n):fwW Ae path k (2*n+1)=if qAX Ae path n&&decide (n<(k:Int)) then(if qCV Ae path n then[-2] else[])++((qAJ 0 k).filter λu=>qAX Ae path u&&decide (n∈nd Ae u)).map (2 * ·) else[]:=by
 show(if 2*n+1 = -1 then _ else if(2*n+1)%2=0 then _ else _)=_
 rw[if_neg (show¬2*n+1 = -1 by lia),if_neg (show¬(2*n+1)%2=0 by lia),show(2*n+1)/2=n by lia]
theorem qdW (h:qAX Ae path (i:Int)=true):fwW Ae path (i+1) (2*(i:Int))=[2*(i:Int)+1]:=by
 rw[qP6 _ (by lia),h,decide_eq_true (by lia)]
 rfl
theorem qdV (a:WFn Ae)(h:qAX Ae path (i:Int)=true):fwW Ae path (i+1) (2*(i:Int)+1)=if qCV Ae path (i:Int) then[-2] else[]:=by
 have:((qAJ 0 ((i+1:Nat):Int)).filter λu=>qAX Ae path u&&decide ((i:Int)∈nd Ae u))=[]:=List.filter_eq_nil_iff.mpr λu c z=>by
  rw[C6,decide_eq_true_eq] at z;have b:=mem_rangeI.mp c;have:=qD1 a b.1 z.2
  lia
 rw[qUO _ (by lia),h,decide_eq_true (by lia),if_pos (by rfl),this,i9,M6]
theorem fw_e {n:Int} (a:0<=n)(b:n<(i:Int)):fwW Ae path (i+1) (2*n)=fwW Ae path i (2*n):=by
 rw[qP6 _ a,qP6 _ a,decide_eq_true (show n<((i+1:Nat):Int) by lia),decide_eq_true b]
theorem fw_o (h:qAX Ae path (i:Int)=true){n:Int}(a:qAX Ae path n=true)(d:n<(i:Int)):fwW Ae path (i+1) (2*n+1)=fwW Ae path i (2*n+1)++if n∈nd Ae (i:Int) then[2*(i:Int)] else[]:=by
 have b:=(free_in.mp a).1.1;rw[qUO _ b,qUO _ b,decide_eq_true (show n<((i+1:Nat):Int) by lia),decide_eq_true d,a]
 generalize (if qCV Ae path n then[(-2:Int)] else[])=E
 rw[if_pos (show(true&&true)=true from rfl),if_pos (show(true&&true)=true from rfl),qM1,l5,B2,J4,V4,h];by_cases c:n∈nd Ae (i:Int)
 ·rw[decide_eq_true c,if_pos c];rfl
 ·rw[decide_eq_false c,if_neg c];rfl
theorem qUP (k:Nat)(x:Int):(fwW Ae path k x).length<=k+1:=by
 have a:∀p:Int->Bool,(((qAJ 0 (k:Int)).filter p).map (2 * ·)).length<=k:=λp=>by
  rw[A0];have:=u9 p (qAJ 0 (k:Int));rw[qD0] at this
  lia
 unfold fwW
 split
 ·have:=a λw=>qAX Ae path w&&(nd Ae w).isEmpty
  lia
 ·split
  ·split<;>simp
  ·split
   ·rw[B0];have:=a λu=>qAX Ae path u&&decide (x/2∈nd Ae u)
    split<;>simp<;>simp at this<;>lia
   ·simp
theorem qY2 (g:WFn Ae)(h:qAX Ae path (i:Int)=true){zs:List Int}(d:nd Ae (i:Int)=zs){W3:Wy}(m:W3 (-1)=fwW Ae path i (-1)++if zs.isEmpty then[2*(i:Int)] else[])(j:W3 (2*(i:Int))=[2*(i:Int)+1])(n:W3 (2*(i:Int)+1)=if qCV Ae path (i:Int) then[-2] else[])(a:∀x,x≠-1->x≠2*(i:Int)->x≠2*(i:Int)+1->W3 x=fwW Ae path i x){k:Int}(o:inK Ae path (i+1) k):W3 k++(if(0<=k/\k%2=1/\k/2∈zs) then[2*(i:Int)] else[])=fwW Ae path (i+1) k:=by
 rcases o with rfl|rfl|⟨v,f,hv,rfl|rfl⟩
 ·rw[if_neg (by lia),M6,m,fw_s h,d]
 ·rw[if_neg (by lia),M6,a _ (by lia) (by lia) (by lia),fw_g,fw_g]
 ·have b:=(free_in.mp f).1.1;rw[if_neg (by lia),M6]
  by_cases e:v=(i:Int)
  ·rw[e,j,qdW h]
  ·rw[a _ (by lia) (by lia) (by lia),fw_e b (by lia)]
 ·have b:=(free_in.mp f).1.1;by_cases e:v=(i:Int)
  ·have l:¬(0<=2*(i:Int)+1/\(2*(i:Int)+1)%2=1/\(2*(i:Int)+1)/2∈zs):=by
    rintro⟨_,_,z⟩;rw[show(2*(i:Int)+1)/2=(i:Int) by lia,<- d] at z
    have:=qD1 g (by lia) z
    lia
   rw[e,n,qdV g h,if_neg l,M6]
  ·rw[a _ (by lia) (by lia) (by lia),fw_o h f (by lia),d]
   congr 1;rw[show(2*v+1)/2=v by lia]
   by_cases c:v∈zs
   ·rw[if_pos ⟨by lia,by lia,c⟩,if_pos c]
   ·rw[if_neg λz=>c z.2.2,if_neg c]
end
def qFU (H:Hp)(a t:Addr)(Ae:Aa0)(path:List Int):Prop:=NetAt H a Ae/\WFn Ae/\Ae.length<=400/\H t=some (.tup (path.map V.int))/\path≠[]/\path.length<=400/\∀x∈path,0<=x/\x<(Ae.length:Int)
def qI4:Sp:=λvs H Q _=>E4 λ(a t:Addr) (Ae:Aa0) (path:List Int)=>vs=[.ref a,.ref t]/\qFU H a t Ae path/\
 ∀d Af H',Same H H'->H d=none->H' d=some (.dK Af)->(∀z:Int,(valV Af (E9 z)).isSome=true↔qCV Ae path z=true)->Q (.ref d) H'
def qL6:Sp:=λvs H Q _=>E4 λ(a t:Addr) (Ae:Aa0) (path:List Int)=>vs=[.ref a,.ref t]/\qFU H a t Ae path/\
 ∀d ad H',WaysAt H H' d 2002 (inK Ae path Ae.length) (W0 Ae path) ad->Q (.ref d) H'
def qMZ:Sp:=λvs H Q _=>E6 λ(d:Addr) (H0:Hp) (Ae:Aa0) (path:List Int) (W:Wy) (ad:Int->Addr)=>vs=[.ref d]/\Ae.length<=400/\WaysAt H0 H d 2002 (inK Ae path Ae.length) W ad/\Fl0 (W0 Ae path) W/\
 ∀l st H',Same H H'->H l=none->H' l=some (.lst (st.map V.int))->WB W st->StOk W st->Q (.ref l) H'
def qXH:Sp:=λvs H Q _=>E8 λ(d l:Addr) (H0:Hp) (Ae:Aa0) (path:List Int) (W:Wy) (ad:Int->Addr) (st:List Int)=>vs=[.ref d,.ref l]/\Ae.length<=400/\WaysAt H0 H d 2002 (inK Ae path Ae.length) W ad/\Fl0 (W0 Ae path) W/\H l=some (.lst (st.map V.int))/\(∀k,inK Ae path Ae.length k->ad k≠l)/\Pth W st/\st.Nodup/\st.head?=some (-2)/\
 ∀H',WaysAt H0 H' d 2002 (inK Ae path Ae.length) (qCZ st W) ad->Q .non H'
def qPW:Sp:=λvs H Q _=>E8 λ(d:Addr) (H0:Hp) (Ae:Aa0) (path:List Int) (W:Wy) (ad:Int->Addr) (w:Int) (s:List Int)=>vs=[.ref d,.int w]/\Ae.length<=400/\WaysAt H0 H d 2002 (inK Ae path Ae.length) W ad/\Fl Ae path W/\WFn Ae/\qAX Ae path w=true/\Flw W w/\Sd W w s/\
 ∀T H',Same H H'->H' T=some (.tup (s.map V.int))->Q (.ref T) H'
inductive SW:Wy->Wy->Prop
 |stop {W:Wy}:WB W []->SW W W
 |go {W W':Wy} {st:List Int}:WB W st->st≠[]->SW (qCZ st W) W'->SW W W'
theorem SW.one {W W' W'':Wy} (h:SW W W'):SW W W''->W'=W'':=by
 induction h with
 |stop b=>
  intro k;cases k with
  |stop _=>rfl
  |go b' ne _=>exact absurd (b'.one b) ne
 |go b ne _ ih=>
  intro k;cases k with
  |stop b'=>exact absurd (b.one b') ne
  |go b' _ k'=>
   have:=b.one b';subst this;exact ih k'
def SidesOf (Ae:Aa0)(path:List Int)(ts:Aa0):Prop:=∃(W:Wy) (ss:Aa0),SW (W0 Ae path) W/\Fl Ae path W/\Paired (λx s=>Sd W (x/2) s) (W (-2)) ss/\ts.Perm ss/\ts.Pairwise λa b=>HT.lexLt b a=false
def qOL:Sp:=λvs H Q _=>E4 λ(a t:Addr) (Ae:Aa0) (path:List Int)=>vs=[.ref a,.ref t]/\qFU H a t Ae path/\Ae.length<=60/\
 ∀l rs ts H',Same H H'->H l=none->H' l=some (.lst (rs.map V.ref))->L2.G.TupsAt H' rs ts->SidesOf Ae path ts->Q (.ref l) H'
def cmK (cm:Cm):List (Key×V):=(E9 (-1),.non)::cm.map λp=>(E9 p.1,.int p.2)
theorem qV8 (a:Cm)(x:Int):valV (cmK a) (E9 x)=if x = -1 then some .non else(look a x).map V.int:=by
 unfold valV cmK look;by_cases c:x = -1
 ·rw[if_pos c,c];rfl
 ·rw[if_neg c,Z6 (by simp;exactλz=>c z.symm)]
  induction a with
  |nil=>rfl
  |cons q a ih=>
   rw[D4];by_cases e:q.1=x
   ·rw[A66 (by simp[e]),A66 (by simp[e])];rfl
   ·rw[Z6 (by simp[e]),Z6 (by simp[e])];exact ih
theorem qPJ (a:Cm)(x:Int):(valV (cmK a) (E9 x)).isSome=vis a x:=by
 rw[qV8];unfold vis look;by_cases c:x = -1
 ·rw[if_pos c,decide_eq_true c];rfl
 ·rw[if_neg c,decide_eq_false c,B68,P7,P7,R8,A37,R1]
theorem qaD {a:Cm} {f p:Int} (h:vis a f=false):putK (cmK a) (E9 f) (.int p)=cmK (a++[(f,p)]):=by
 unfold putK;rw[if_neg]
 ·unfold cmK;simp
 ·intro z;obtain⟨g,h1,b⟩:=R1.mp z;have e:=of_decide_eq_true b;have:vis a f=true:=by
   unfold cmK at h1;rcases B9.mp h1 with rfl|h1
   ·exact vis_iff.mpr (.inl (W7 e).symm)
   ·obtain⟨q,c,rfl⟩:=C3.mp h1;obtain⟨i,d⟩:=M8 c;have:=W7 e;exact vis_iff.mpr (.inr ⟨i,q.2,by rw[d,<- this]⟩)
  rw[h] at this;cases this
structure SkI (Ae:Aa0)(path:List Int)(W:Wy)(s:Cm×List Int):Prop where
 sk:Sk W s
 go:∀t,Dfs W s t->Dfs W ([],[-1]) t
 dom:∀q∈s.1,inK Ae path Ae.length q.1
theorem SkI.few {Ae:Aa0} {path:List Int} {W:Wy} {s:Cm×List Int} (h:SkI Ae path W s):s.1.length<=2*Ae.length+2:=by
 have:=qHD (Ae:=Ae) (path:=path) h.sk.gd.nd λx b=>by
  obtain⟨q,a,rfl⟩:=C3.mp b;exact h.dom q a
 rw[A0] at this;exact this
theorem SkI.inK {Ae:Aa0} {path:List Int} {W:Wy} {s:Cm×List Int} (h:SkI Ae path W s){x:Int}(a:vis s.1 x=true):Fw.inK Ae path Ae.length x:=by
 rcases vis_iff.mp a with rfl|⟨i,q,e⟩
 ·exact .inl rfl
 ·exact h.dom (x,q) (B3 e)
structure SkF (Ae:Aa0)(path:List Int)(W:Wy)(stop:Int)(s:Cm×List Int):Prop where
 sk:Sk W s
 dom:∀q∈s.1,Fw.inK Ae path Ae.length q.1
 at_:vis s.1 stop=true
theorem SkF.one {Ae:Aa0} {path:List Int} {W:Wy} {stop f:Int} {s:Cm×List Int} (F:Fl0 (W0 Ae path) W)(h:SkF Ae path W stop s)(d:f∈W stop):SkF Ae path W stop (dfsO stop f s)/\(dfsO stop f s).2.length+s.1.length=s.2.length+(dfsO stop f s).1.length:=by
 obtain⟨a,b⟩:=h.sk.one d h.at_;refine⟨⟨a,λq c=>?_,b⟩,?_⟩
 ·unfold dfsO at c
  split at c
  ·exact h.dom q c
  ·rcases C1.mp c with z|z
   ·exact h.dom q z
   ·rw[A6.mp z];exact F.dom d
 ·unfold dfsO
  split
  ·lia
  ·rw[B0,B0];show _+1+_=_+(_+1);lia
theorem qMW {a b:Int} :∀(r:List Int) (W:Wy),qCZ (r++[a]++[b]) W=upW (qCZ (r++[a]) W) b a
 |[],W=>rfl
 |[f],W=>rfl
 |f::s::r,W=>by
  show qCZ ((s::r)++[a]++[b]) (upW W s f)=upW (qCZ ((s::r)++[a]) (upW W s f)) b a;exact qMW (s::r) (upW W s f)
theorem qSH {st:List Int} {W:Wy} {j:Nat} {f s:Int} (b:st[j]?=some f)(d:st[j+1]?=some s):qCZ (st.take (j+1+1)) W=upW (qCZ (st.take (j+1)) W) s f:=by
 have a:st.take (j+1)=st.take j++[f]:=by rw[C5,b];rfl
 have c:st.take (j+1+1)=st.take j++[f]++[s]:=by rw[C5,d,a];rfl
 rw[c,a];exact qMW _ W
theorem qPT {x:Int} :∀(st:List Int) (W:Wy),x∉st->qCZ st W x=W x
 |[],_,_=>rfl
 |[_],_,_=>rfl
 |f::s::r,W,h=>by
  show qCZ (s::r) (upW W s f) x=W x;rw[qPT (s::r) _ λz=>h (A7 _ z)];exact qMU (λz=>h (by rw[z];simp)) λz=>h (by rw[z];simp)
theorem qXN {W:Wy} :∀{st:List Int} {j:Nat} {f s:Int},Pth W st->st[j]?=some f->st[j+1]?=some s->f∈W s
 |f'::s'::r,0,f,s,h,h1,h2=>by cases h1;cases h2;exact h.1
 |f'::s'::r,j+1,f,s,h,h1,h2=>qXN (j:=j) h.2 h1 h2
 |[_],0,f,s,h,h1,h2=>by cases h2
 |[_],j+1,f,s,h,h1,h2=>by cases h1
 |[],_,_,_,_,h1,_=>by cases h1
theorem qQ9 {W:Wy} :∀(st:List Int) (k:Nat),Pth W st->Pth W (st.take k)
 |[],_,_=>by simp[Pth]
 |[_],k,_=>by cases k<;>simp[Pth]
 |f::s::r,0,_=>trivial
 |f::s::r,1,_=>trivial
 |f::s::r,k+2,h=>⟨h.1,qQ9 (s::r) (k+1) h.2⟩
theorem qQU:∀{zs:List Int} {y:Int},y∈zs->∃j:Nat,zs[j]?=some y/\(∀i,i<j->zs[i]?≠some y)/\zs.eraseIdx j=zs.erase y
 |z::zs,y,h=>by
  by_cases e:z=y
  ·exact⟨0,by rw[e];rfl,λi hi=>absurd hi (A77 _),by rw[e];simp⟩
  ·obtain⟨j,h1,h2,h3⟩:=qQU ((B9.mp h).resolve_left λz=>e z.symm);refine⟨j+1,h1,λi hi=>?_,?_⟩
   ·cases i with
    |zero=>exactλz=>e (G0 z)
    |succ i=>exact h2 i (by lia)
   ·rw[A42,h3,List.erase_cons_tail (by simpa using e)]
theorem end_iff {Ae:Aa0} {path:List Int} {z:Int} :qCV Ae path z=true↔z∉path/\∃w∈path.drop 1,z∈nd Ae w:=by
 unfold qCV;rw[C6,decide_eq_true_eq,R1];exact and_congr_right λ_=>⟨λ⟨w,c,e⟩=>⟨w,c,of_decide_eq_true e⟩,λ⟨w,c,e⟩=>⟨w,c,decide_eq_true e⟩⟩
def qWM:PyData->Int|.int i=>i|_=>0
def qK5:PyData->List Int|.tuple ds=>ds.map qWM|_=>[]
def qD9 (Ae:Aa0):List Int->Bool
 |a::b::r=>decide (a∈nd Ae b)&&qD9 Ae (b::r)
 |_=>true
def qGA (Ae:Aa0)(zs:List Int):Bool:=qD9 Ae zs&&(nd Ae (zs.headD 0)).isEmpty
noncomputable def qbQ (Ae:Aa0):PyData->Bool
 |.tuple ds=>!ds.isEmpty&&ds.all (qYB (Ae.length:Int))&&qGA Ae (ds.map qWM)
 |_=>false
noncomputable def qOP (Ae:Aa0)(path:List Int)(d:PyData):Bool:=qbQ Ae d&&qCV Ae path ((qK5 d).getLastD 0)&&(qK5 d).all λx=>decide (x∉path)
noncomputable def qb7 (Ae:Aa0)(path:List Int):PyData->Bool
 |.list ds=>ds.all (qOP Ae path)&&decide ((ds.flatMap qK5).Nodup)
 |_=>false
theorem qK4 {zs:List Int} :(zs.map B24).map qWM=zs:=by rw[Q1];exact(L4 λx _=>rfl).trans (B49 _)
theorem chain_iff {Ae:Aa0} :∀{zs:List Int},qD9 Ae zs=true↔∀(i:Nat) a b,zs[i]?=some a->zs[i+1]?=some b->a∈nd Ae b
 |[]=>by simp[qD9]
 |[_]=>by simp[qD9]
 |a::b::r=>by
  show(decide (a∈nd Ae b)&&qD9 Ae (b::r))=true↔_;rw[C6,decide_eq_true_eq,chain_iff]
  constructor
  ·rintro⟨h1,h2⟩ i c e h3 h4;cases i with
   |zero=>cases h3;cases h4;exact h1
   |succ i=>exact h2 i c e h3 h4
  ·exactλh=>⟨h 0 a b rfl rfl,λi c e h3 h4=>h (i+1) c e h3 h4⟩
theorem qN5 {Ae:Aa0} {path zs:List Int} (c:zs≠[])(a:∀z∈zs,0<=z/\z<(Ae.length:Int)):qOP Ae path (.tuple (zs.map .int))=(qGA Ae zs&&qCV Ae path (zs.getLastD 0)&&zs.all λx=>decide (x∉path)):=by
 unfold qOP;have g:qK5 (.tuple (zs.map .int))=zs:=qK4;have f:qbQ Ae (.tuple (zs.map .int))=qGA Ae zs:=by
  show(!(zs.map B24).isEmpty&&_&&qGA Ae ((zs.map .int).map qWM))=_;have:(zs.map B24).isEmpty=false:=by cases zs with|nil=>exact absurd rfl c|cons _ _=>rfl
  have e:(zs.map B24).all (qYB (Ae.length:Int))=true:=F5.mpr λd h=>by
   obtain⟨z,b,rfl⟩:=C3.mp h;show(decide (0<=z)&&decide (z<(Ae.length:Int)))=true;rw[decide_eq_true (a z b).1,decide_eq_true (a z b).2]
   rfl
  rw[this,e,qK4]
  rfl
 rw[g,f]
theorem qH1 {xs:List V} {x:V} (h:xs.getLast?=some x):atI xs (-1)=some x:=by
 obtain⟨a,rfl⟩:=List.getLast?_eq_some_iff.mp h;exact qMR _ _
theorem qUZ:∀(l zs:List Int),(l.foldl addI zs).length=zs.length+l.length↔l.Nodup/\∀x∈l,x∉zs
 |[],zs=>by simp
 |k::l,zs=>by
  show(l.foldl addI (addI zs k)).length=zs.length+(l.length+1)↔_;by_cases c:k∈zs
  ·have e:addI zs k=zs:=by unfold addI;rw[if_pos c]
   rw[e];have:=qEF l zs;exact⟨λh=>by lia,λh=>absurd c (h.2 k A8)⟩
  ·have e:addI zs k=zs++[k]:=by unfold addI;rw[if_neg c]
   have ih:=qUZ l (zs++[k]);rw[B0,C2] at ih;rw[e,show zs.length+(l.length+1)=zs.length+1+l.length by lia,ih,J6]
   constructor
   ·rintro⟨h1,h2⟩;refine⟨⟨λz=>h2 k z (by simp),h1⟩,λx hx=>?_⟩
    rcases B9.mp hx with rfl|hx
    ·exact c
    ·exactλz=>h2 x hx (L6 _ z)
   ·rintro⟨⟨h1,h2⟩,h3⟩;refine⟨h2,λx hx z=>?_⟩;rcases C1.mp z with z|z
    ·exact h3 x (A7 _ hx) z
    ·exact h1 (A6.mp z▸hx)
theorem ded_nodup {l:List Int} :(dedI l).length=l.length↔l.Nodup:=by
 have:=qUZ l [];rw[O4,A72] at this;show(l.foldl addI []).length=l.length↔_;rw[this];exact⟨λh=>h.1,λh=>⟨h,λx _=>by simp⟩⟩
def tupI (s:List Int):PyData:=.tuple (s.map .int)
section
variable{Ae:Aa0}{path:List Int}{W:Wy}
theorem qL3 (F:Fl Ae path W)(k:WFn Ae){xs:List Int}{g:Aa0}(h:Paired (λx s=>Sd W (x/2) s) xs g):xs.Nodup->(∀x∈xs,x∈W (-2))->g.flatten.Nodup/\∀s∈g,∃w,2*w+1∈xs/\qCV Ae path w=true/\SdIs Ae path W w s/\s.getLast?=some w:=by
 induction h with
 |nil=>exactλ_ _=>⟨.nil,λs u=>nomatch u⟩
 |@cons x s xs g h0 _ ih=>
  intro n c;obtain⟨z,m⟩:=J6.mp n;obtain⟨k1,l⟩:=ih m λy hy=>c y (A7 _ hy);obtain⟨w,rfl,f,e,q⟩:=F.ends (c x A8);rw[show(2*w+1)/2=w by lia] at h0
  have I:=F.sdIs k h0 f q
  constructor
  ·rw[O1,O3];refine⟨I.up.imp λh=>by lia,k1,λa ha b hb=>?_⟩
   rintro rfl;obtain⟨p,i,j⟩:=V7.mp hb;obtain⟨w',d,_,o,_⟩:=l p i;have:=F.apart k I o (c _ A8) (c _ (A7 _ d)) _ a (B34 _) ha j;exact z (this▸d)
  ·intro t ht;rcases B9.mp ht with rfl|ht
   ·exact⟨w,A8,e,I,qOQ h0⟩
   ·obtain⟨v,hv,r⟩:=l t ht;exact⟨v,A7 _ hv,r⟩
theorem qRU (ts:Aa0):(ts.map tupI).flatMap qK5=ts.flatten:=by
 induction ts with
 |nil=>rfl
 |cons s ts ih=>
  rw[D4,List.flatMap_cons,ih,O1];congr 1;exact qK4
theorem qO0:∀{ts:Aa0},(∀s∈ts,s≠[])->ts.length<=ts.flatten.length
 |[],_=>G6 _
 |s::ts,h=>by
  have:=qO0 λt ht=>h t (A7 _ ht);have l:=R7.mpr (h s A8);rw[O1,B0,C9]
  lia
theorem SidesOf.are {ts:Aa0} (n:WFn Ae)(h:SidesOf Ae path ts):qb7 Ae path (.list (ts.map tupI))=true/\(∀s∈ts,s≠[]/\s.length<=Ae.length/\∀z∈s,0<=z/\z<(Ae.length:Int))/\ts.length<=Ae.length:=by
 obtain⟨W,q,_,F,P,i,_⟩:=h;obtain⟨p,l⟩:=qL3 F n P (F.fl.nd _) λ_ h=>h;have c:∀s∈ts,∃w,qCV Ae path w=true/\SdIs Ae path W w s/\s.getLast?=some w:=λs a=>by
  obtain⟨w,_,r⟩:=l s (i.mem_iff.mp a);exact⟨w,r⟩
 have b:∀s∈ts,s≠[]/\∀z∈s,0<=z/\z<(Ae.length:Int):=λs a=>by
  obtain⟨w,_,I,_⟩:=c s a;obtain⟨t,r,e,_⟩:=I.hd;exact⟨by rw[e];simp,λz m=>(free_in.mp (I.fr z m).1).1⟩
 have f:ts.flatten.Nodup:=(i.flatten.nodup_iff).mpr p;refine⟨?_,λs a=>⟨(b s a).1,?_,(b s a).2⟩,?_⟩
 ·show((ts.map tupI).all (qOP Ae path)&&decide (((ts.map tupI).flatMap qK5).Nodup))=true;rw[qRU,decide_eq_true f,A01,F5];intro d hd;obtain⟨s,a,rfl⟩:=C3.mp hd;obtain⟨w,e,I,k⟩:=c s a;have j:=b s a;show qOP Ae path (.tuple (s.map .int))=true;rw[qN5 j.1 j.2,J2,k];show(qGA Ae s&&qCV Ae path w&&_)=true;rw[e,A01,C6]
  constructor
  ·unfold qGA;rw[chain_iff.mpr I.co,A00];obtain⟨t,r,rfl,o⟩:=I.hd;show(nd Ae t).isEmpty=true;rw[o]
   rfl
  ·exact F5.mpr λx g=>decide_eq_true (free_in.mp (I.fr x g).1).2
 ·obtain⟨w,_,I,_⟩:=c s a;exact Rise.len ⟨I.up,(b s a).2⟩
 ·refine L5 (qO0 λs a=>(b s a).1) (qc0 f λx g=>?_);obtain⟨s,a,g⟩:=V7.mp g;exact(b s a).2 x g
theorem p2 {a b:Nat} (h:a<=b):(2:Int)^a<=(2:Int)^b:=by
 have:=X5 (n:=2) (by decide) h
 exact_mod_cast this
theorem qT7 {f:Int->Int} :∀{l:List Int} {lo m:Nat},l.Pairwise (·<·)->(∀y∈l,(lo:Int)<=y/\y<(m:Int))->lo<=m->(∀y∈l,f y<=(2:Int)^y.toNat)->(l.map f).sum+(2:Int)^lo<=(2:Int)^m
 |[],lo,m,_,_,h,_=>by
  rw[i9,List.sum_nil,A21];exact p2 h
 |y::l,lo,m,up,hin,h,hf=>by
  have a:=hin y A8;have b:=hf y A8;obtain⟨u1,u2⟩:=M5.mp up;have k:=qT7 (f:=f) (l:=l) (lo:=y.toNat+1) (m:=m) u2 (λz hz=>by have:=u1 z hz;have:=hin z (A7 _ hz);lia) (by lia) λz hz=>hf z (A7 _ hz)
  have c:(2:Int)^lo<=(2:Int)^y.toNat:=p2 (by lia)
  rw[Int.pow_succ] at k;rw[D4,W6]
  lia
theorem qe1 (c:WFn Ae):∀(n:Nat) (z:Int),z.toNat=n->0<=z->cn Ae z<=(2:Int)^z.toNat:=by
 intro n
 induction n using U7 with
 |ind n ih=>
  intro z h g;rw[qRY c g];have p:(1:Int)<=(2:Int)^z.toNat:=p2 (a:=0) (G6 _)
  split
  ·exact p
  ·have:=qT7 (f:=cn Ae) (l:=nd Ae z) (lo:=0) (m:=z.toNat) (qbZ c z) (λy d=>by have:=qD1 c g d;lia) (G6 _) λy d=>by
    have b:=qD1 c g d;exact ih y.toNat (by lia) y rfl b.1
   have e:(2:Int)^0=1:=rfl
   lia
theorem qe5 (f:WFn Ae):∀(k:Nat) (p:List Int),(hd p).toNat=k->0<=hd p->p≠[]->Rise (Ae.length:Int) p->∀t∈aP Ae p,t≠[]/\Rise (Ae.length:Int) t:=by
 intro k
 induction k using U7 with
 |ind k ih=>
  intro p j e d R t c;rw[qPN f e] at c
  split at c
  ·rw[A6.mp c];exact⟨d,R⟩
  ·obtain⟨l,i,c⟩:=V7.mp c;obtain⟨z,h,rfl⟩:=C3.mp i;have b:=qD1 f e (O9.mp h);refine ih z.toNat (by lia) (z::p) rfl b.1 (by simp) ⟨M5.mpr ⟨λy hy=>?_,R.up⟩,λy hy=>?_⟩ t c
   ·cases p with
    |nil=>exact absurd rfl d
    |cons a p=>
     have g:z<a:=b.2;rcases B9.mp hy with rfl|hy
     ·exact g
     ·have:=(M5.mp R.up).1 y hy;lia
   ·rcases B9.mp hy with rfl|hy
    ·cases p with
     |nil=>exact absurd rfl d
     |cons a p=>
      have g:y<a:=b.2;have:=R.in_ a A8
      lia
    ·exact R.in_ y hy
theorem SortP.some {c:Int} {ts:Aa0} (e:WFn Ae)(d:0<=c)(g:c<(Ae.length:Int))(h:SortP Ae c ts):1<=ts.length/\∀t∈ts,t≠[]/\Rise (Ae.length:Int) t:=by
 constructor
 ·have a:=qOE e _ [c] rfl d;have b:1<=cn Ae (hd [c]):=qQX e _ c rfl d;rw[h.1.length_eq]
  lia
 ·exactλt f=>qe5 e _ [c] rfl d (by simp) ⟨by simp,λx i=>by rw[A6.mp i];exact⟨d,g⟩⟩ t (h.1.mem_iff.mp f)
end
def sumI (f:Int->Int):List Int->Int
 |[]=>0
 |x::r=>f x+sumI f r
theorem qCR {f g:Int->Int} :∀{l:List Int},(∀x∈l,f x=g x)->sumI f l=sumI g l
 |[],_=>rfl
 |x::r,h=>by
  show f x+sumI f r=g x+sumI g r;rw[h x A8,qCR λy hy=>h y (A7 _ hy)]
theorem sumI_zero:∀{l:List Int},sumI (λ_=>0) l=0
 |[]=>rfl
 |x::r=>by show 0+sumI _ r=0;rw[sumI_zero];rfl
theorem qH6 {f g:Int->Int} :∀{l:List Int},sumI (λx=>f x+g x) l=sumI f l+sumI g l
 |[]=>rfl
 |x::r=>by
  show f x+g x+sumI _ r=f x+sumI f r+(g x+sumI g r);rw[qH6]
  lia
theorem qJ6 {f:Int->Int} :∀{l:List Int},sumI (λx=>- f x) l = - sumI f l
 |[]=>rfl
 |x::r=>by
  show-f x+sumI _ r = - (f x+sumI f r);rw[qJ6]
  lia
theorem qMX {f:Int->Int->Int} :∀{A B:List Int},sumI (λx=>sumI (f x) B) A=sumI (λy=>sumI (λx=>f x y) A) B
 |[],B=>by rw[show sumI (λx=>sumI (f x) B) []=0 from rfl];exact sumI_zero.symm
 |a::A,B=>by
  show sumI (f a) B+sumI (λx=>sumI (f x) B) A=sumI (λy=>f a y+sumI (λx=>f x y) A) B;rw[qMX,qH6]
theorem qSO {a:Int->Int->Int} (h:∀x y,a x y = - a y x)(C:List Int):sumI (λx=>sumI (a x) C) C=0:=by
 have c:sumI (λx=>sumI (a x) C) C=sumI (λy=>sumI (λx=>a x y) C) C:=qMX;have b:sumI (λy=>sumI (λx=>a x y) C) C=sumI (λy=>- sumI (a y) C) C:=qCR λy _=>by
  rw[<- qJ6];exact qCR λx _=>h x y
 rw[qJ6] at b
 lia
theorem qL4 {f:Int->Int} (p:Int->Bool):∀(l:List Int),sumI f l=sumI f (l.filter λx=>!p x)+sumI f (l.filter p)
 |[]=>rfl
 |x::r=>by
  have:=qL4 (f:=f) p r;show f x+sumI f r=_;cases e:p x with
  |true=>
   rw[l6 (by rw[e];decide),l7 e]
   show _=_+(f x+_)
   lia
  |false=>
   rw[l7 (by rw[e];rfl),l6 (by rw[e];decide)]
   show _=(f x+_)+_
   lia
theorem qPV {f:Int->Int} {a:Int} :∀{l:List Int},l.Nodup->a∈l->(∀x∈l,x≠a->f x=0)->sumI f l=f a
 |[],_,h,_=>nomatch h
 |x::r,n,h,z=>by
  obtain⟨n1,n2⟩:=J6.mp n;show f x+sumI f r=f a;rcases B9.mp h with e|e
  ·subst e;rw[qCR (g:=λ_=>0) λy hy=>z y (A7 _ hy) λw=>n1 (w▸hy),sumI_zero]
   lia
  ·rw[z x A8 λw=>n1 (w▸e),qPV n2 e λy hy=>z y (A7 _ hy)]
   lia
theorem qI3 (p:Int->Bool):∀(l:List Int),sumI (λy=>if p y=true then 1 else 0) l=((l.filter p).length:Int)
 |[]=>rfl
 |x::r=>by
  show(if p x=true then(1:Int) else 0)+sumI _ r=_
  rw[qI3];cases e:p x with
  |true=>rw[l7 e,if_pos rfl,C9];lia
  |false=>rw[l6 (by rw[e];decide),if_neg (by decide)];lia
def ind (W:Wy)(x y:Int):Int:=if decide (y∈W x)=true then 1 else 0
theorem qUF {W:Wy} {x:Int} {K:List Int} (n:(W x).Nodup)(b:K.Nodup)(h:∀y∈W x,y∈K):sumI (ind W x) K=((W x).length:Int):=by
 have e:=qI3 (λy=>decide (y∈W x)) K;have a:(K.filter λy=>decide (y∈W x)).Perm (W x):=(List.perm_ext_iff_of_nodup (b.filter _) n).mpr λy=>by
  rw[K0,decide_eq_true_eq];exact⟨λz=>z.2,λz=>⟨h y z,z⟩⟩
 rw[a.length_eq] at e;exact e
theorem qV5 {W0 W:Wy} {K:List Int} (A:Anti W0)(F:Fl0 W0 W)(g:K.Nodup)(o:∀x,∀y∈W x,y∈K)(k:∀x,∀y∈W0 x,y∈K)(p:Int->Bool)(l:∀x,p x=true->∀y∈W x,p y=true):
  sumI (λx=>((W x).length:Int)-((W0 x).length:Int)) (K.filter λx=>!p x)=sumI (λx=>sumI (λy=>ind W0 y x) (K.filter p)) (K.filter λx=>!p x):=by
 have d:∀x y,ind W x y-ind W0 x y = - (ind W y x-ind W0 y x):=λx y=>by
  unfold ind;by_cases a:y∈W0 x
  ·have c:=A.no x y a;have f:=F.ex x y a;by_cases b:y∈W x
   ·have:=f.mp b;simp[a,c,b,this]
   ·have:x∈W y:=L9 λz=>b (f.mpr z);simp[a,c,b,this]
  ·by_cases c:x∈W0 y
   ·have f:=F.ex y x c;by_cases b:x∈W y
    ·have:=f.mp b;simp[a,c,b,this]
    ·have:y∈W x:=L9 λz=>b (f.mpr z);simp[a,c,b,this]
   ·have n:y∉W x:=λz=>(F.on x y z).elim a c;have j:x∉W y:=λz=>(F.on y x z).elim c a;simp[a,c,n,j]
 have a:sumI (λx=>((W x).length:Int)-((W0 x).length:Int)) (K.filter λx=>!p x)=sumI (λx=>sumI (λy=>ind W x y-ind W0 x y) (K.filter λx=>!p x)+sumI (λy=>ind W x y-ind W0 x y) (K.filter p)) (K.filter λx=>!p x):=qCR λx _=>by
  rw[<- qL4 p K,<- qUF (F.nd x) g (o x),<- qUF (A.nd x) g (k x)];have:sumI (λy=>ind W x y-ind W0 x y) K=sumI (λy=>ind W x y + - ind W0 x y) K:=qCR λy _=>by lia
  rw[this,qH6,qJ6]
  lia
 rw[a,qH6,qSO d,A21];refine qCR λx q=>qCR λy m=>?_;have h:p x=false:=by
  have:=(K0.mp q).2;cases e:p x with
  |true=>rw[e] at this;cases this
  |false=>rfl
 have i:=(K0.mp m).2;rw[d];have:ind W y x=0:=by
  unfold ind;rw[if_neg λz=>by rw[l y i x (of_decide_eq_true z)] at h;cases h]
 rw[this]
 lia
noncomputable def outP (W0:Wy)(R:List Int):List Int->List (Int×Int)
 |[]=>[]
 |x::r=>(R.filter λy=>decide (x∈W0 y)).map (λy=>(y,x))++outP W0 R r
theorem qQH {W0:Wy} {R:List Int} :∀(C:List Int),((outP W0 R C).length:Int)=sumI (λx=>sumI (λy=>ind W0 y x) R) C
 |[]=>rfl
 |x::r=>by
  show(((R.filter λy=>decide (x∈W0 y)).map (λy=>(y,x))++outP W0 R r).length:Int)=sumI (λy=>ind W0 y x) R+_;rw[B0,A0,<- qQH r];have:=qI3 (λy=>decide (x∈W0 y)) R;rw[show sumI (λy=>ind W0 y x) R=sumI (λy=>if decide (x∈W0 y)=true then 1 else 0) R from rfl,this]
  lia
theorem qTI {W0:Wy} {R:List Int} {y x:Int} :∀{C:List Int},x∈C->y∈R->x∈W0 y->(y,x)∈outP W0 R C
 |[],h,_,_=>nomatch h
 |z::r,h,hy,hw=>by
  rcases B9.mp h with e|e
  ·subst e;exact L6 _ (C3.mpr ⟨y,K0.mpr ⟨hy,decide_eq_true hw⟩,rfl⟩)
  ·exact F6 _ (qTI e hy hw)
theorem qML {stop:Int} :∀(r:List Int) (s:Cm×List Int),(∀z,vis s.1 z=true->vis (dfsF stop r s).1 z=true)/\(∀y∈r,vis (dfsF stop r s).1 y=true)/\(∀z∈s.2,z∈(dfsF stop r s).2)/\∀z,vis (dfsF stop r s).1 z=true->vis s.1 z=true\/z∈(dfsF stop r s).2
 |[],s=>⟨λ_ h=>h,(λ_ h=>nomatch h),λ_ h=>h,λ_ h=>.inl h⟩
 |f::r,s=>by
  show(∀z,vis s.1 z=true->vis (dfsF stop r (if vis s.1 f then s else(s.1++[(f,stop)],s.2++[f]))).1 z=true)/\(∀y∈f::r,vis (dfsF stop r (if vis s.1 f then s else(s.1++[(f,stop)],s.2++[f]))).1 y=true)/\(∀z∈s.2,z∈(dfsF stop r (if vis s.1 f then s else(s.1++[(f,stop)],s.2++[f]))).2)/\∀z,vis (dfsF stop r (if vis s.1 f then s else(s.1++[(f,stop)],s.2++[f]))).1 z=true->vis s.1 z=true\/z∈(dfsF stop r (if vis s.1 f then s else(s.1++[(f,stop)],s.2++[f]))).2
  cases e:vis s.1 f with
  |true=>
   rw[if_pos rfl];obtain⟨a,b,c,d⟩:=qML (stop:=stop) r s;exact⟨a,λy hy=>(B9.mp hy).elim (λz=>by rw[z];exact a f e) (b y),c,d⟩
  |false=>
   rw[if_neg (by decide)]
   obtain⟨a,b,c,d⟩:=qML (stop:=stop) r (s.1++[(f,stop)],s.2++[f]);refine⟨λz hz=>a z (qOH hz),λy hy=>(B9.mp hy).elim (λz=>by rw[z];exact a f qSG) (b y),λz hz=>c z (L6 _ hz),λz hz=>?_⟩
   rcases d z hz with h|h
   ·rcases vis_iff.mp h with k|⟨i,q,k⟩
    ·exact .inl (vis_iff.mpr (.inl k))
    ·rcases Nat.lt_or_ge i s.1.length with l|l
     ·exact .inl (vis_iff.mpr (.inr ⟨i,q,by rw[F4 l] at k;exact k⟩))
     ·rw[E1 l] at k;have:z=f:=by
       have:=B3 k;have:=A6.mp this;exact congrArg Prod.fst this
      rw[this];exact .inr (c f (F6 _ A8))
   ·exact .inr h
theorem Dfs.closed {W:Wy} {s t:Cm×List Int} (h:Dfs W s t):(∀x,vis s.1 x=true->x∉s.2->∀y∈W x,vis s.1 y=true)->vis t.1 (-2)=false->∀x,vis t.1 x=true->∀y∈W x,vis t.1 y=true:=by
 induction h with
 |@stop s e=>
  intro I v x m y g;have f:s.2=[]:=by
   unfold dfsC at e;rw[v] at e;cases e2:s.2 with
   |nil=>rfl
   |cons a b=>rw[e2] at e;cases e
  exact I x m (by rw[f];exactλz=>nomatch z) y g
 |@go cm f x t v d ih=>
  intro I;refine ih λz l j y g=>?_;obtain⟨a,b,c,e⟩:=qML (stop:=x) (W x) (cm,f);rcases e z l with h|h
  ·by_cases i:z=x
   ·exact b y (i▸g)
   ·exact a y (I z h (λk=>(C1.mp k).elim (λk=>j (c z k)) λk=>i (A6.mp k)) y g)
  ·exact absurd h j
theorem SW.last {W W':Wy} (h:SW W W'):WB W' []:=by
 induction h with
 |stop b=>exact b
 |go _ _ _ ih=>exact ih
theorem WB.closed {W:Wy} (h:WB W []):∃p:Int->Bool,p (-1)=true/\p (-2)=false/\∀x,p x=true->∀y∈W x,p y=true:=by
 obtain⟨a,f,d,⟨v,_⟩|⟨_,b⟩⟩:=h
 ·refine⟨vis a,vis_iff.mpr (.inl rfl),v,d.closed (λx c e=>?_) v⟩;rcases vis_iff.mp c with k|⟨i,q,k⟩
  ·exact absurd (by rw[k];exact A8) e
  ·cases k
 ·cases b
def Row2 (Ae:Aa0):List Int->Prop
 |a::b::r=>a∈nd Ae b/\Row2 Ae (b::r)
 |_=>True
structure IsS (Ae:Aa0)(path t:List Int):Prop where
 free:∀x∈t,qAX Ae path x=true
 row:Row2 Ae t
 first:∃a,t.head?=some a/\nd Ae a=[]
 last:∃z,t.getLast?=some z/\qCV Ae path z=true
def wkE (e:Int×Int):Int:=if e.2 = -2 then e.1/2 else e.2/2
section
variable{Ae:Aa0}{path:List Int}{p:Int->Bool}
def Crs (Ae:Aa0)(path:List Int)(p:Int->Bool)(t:List Int)(e:Int×Int):Prop:=e.2∈W0 Ae path e.1/\p e.1=true/\p e.2=false/\wkE e∈t
theorem qQW (g:p (-2)=false):∀(t:List Int) (a:Int),(∀x∈a::t,qAX Ae path x=true)->Row2 Ae (a::t)->(∃z,(a::t).getLast?=some z/\qCV Ae path z=true)->p (2*a)=true->∃e,Crs Ae path p (a::t) e
 |t,a,fr,rw_,la,h=>by
  have fa:=fr a A8;have a0:0<=a:=(free_in.mp fa).1.1;cases h1:p (2*a+1) with
  |false=>
   refine⟨(2*a,2*a+1),?_,h,h1,?_⟩
   ·show 2*a+1∈W0 Ae path (2*a);rw[w0_e a0,if_pos fa];exact A8
   ·unfold wkE;dsimp only;rw[if_neg (by lia),show(2*a+1)/2=a by lia]
    exact A8
  |true=>
   cases t with
   |nil=>
    obtain⟨z,e1,e2⟩:=la;cases e1;refine⟨(2*a+1,-2),(w0_o a0).mpr ⟨fa,.inl ⟨rfl,e2⟩⟩,h1,g,?_⟩;unfold wkE;dsimp only;rw[if_pos rfl,show(2*a+1)/2=a by lia]
    exact A8
   |cons b t=>
    have fb:=fr b (A7 _ A8);have b0:0<=b:=(free_in.mp fb).1.1;cases h2:p (2*b) with
    |false=>
     refine⟨(2*a+1,2*b),(w0_o a0).mpr ⟨fa,.inr ⟨b,rfl,fb,rw_.1⟩⟩,h1,h2,?_⟩;unfold wkE;dsimp only;rw[if_neg (by lia),show 2*b/2=b by lia]
     exact A7 _ A8
    |true=>
     obtain⟨e,c1,c2,c3,c4⟩:=qQW g t b (λx hx=>fr x (A7 _ hx)) rw_.2 (by rw[l0] at la;exact la) h2
     exact⟨e,c1,c2,c3,A7 _ c4⟩
theorem IsS.crs (s:p (-1)=true)(g:p (-2)=false){t:List Int}(h:IsS Ae path t):∃e,Crs Ae path p t e:=by
 obtain⟨a,c,f⟩:=h.first;cases t with
 |nil=>cases c
 |cons b t=>
  cases c;have d:=h.free a A8;have i:0<=a:=(free_in.mp d).1.1;cases h2:p (2*a) with
  |true=>exact qQW g t a h.free h.row h.last h2
  |false=>
   refine⟨(-1,2*a),w0_s.mpr ⟨a,rfl,d,f⟩,s,h2,?_⟩;unfold wkE;dsimp only;rw[if_neg (by lia),show 2*a/2=a by lia]
   exact A8
theorem qV7:∀(T:Aa0),(∀t∈T,∃e,Crs Ae path p t e)->T.Pairwise (λa b=>∀x∈a,x∉b)->∃es:List (Int×Int),es.length=T.length/\es.Nodup/\∀e∈es,∃t∈T,Crs Ae path p t e
 |[],_,_=>⟨[],rfl,by simp,λ_ h=>nomatch h⟩
 |t::T,h,d=>by
  obtain⟨d1,d2⟩:=M5.mp d;obtain⟨es,l,n,k⟩:=qV7 T (λu hu=>h u (A7 _ hu)) d2;obtain⟨e,c⟩:=h t A8;refine⟨e::es,by rw[C9,C9,l],J6.mpr ⟨λz=>?_,n⟩,λf hf=>?_⟩
  ·obtain⟨u,hu,c'⟩:=k e z;exact d1 u hu _ c.2.2.2 c'.2.2.2
  ·rcases B9.mp hf with z|z
   ·subst z;exact⟨t,A8,c⟩
   ·obtain⟨u,hu,c'⟩:=k f z;exact⟨u,A7 _ hu,c'⟩
end
theorem SidesOf.most {Ae:Aa0} {path:List Int} {ts:Aa0} (v:WFn Ae)(h:SidesOf Ae path ts){T:Aa0}(hs:∀t∈T,IsS Ae path t)(ap:T.Pairwise λa b=>∀x∈a,x∉b):T.length<=ts.length:=by
 obtain⟨W,ss,sw,F,P,q,_⟩:=h;obtain⟨p,s,g,w⟩:=sw.last.closed;obtain⟨es,l,n,k⟩:=qV7 (p:=p) T (λt ht=>(hs t ht).crs s g) ap;obtain⟨K,c⟩:∃K,K=qAJ (-2) (2*(Ae.length:Int)):=⟨_,rfl⟩;have o:K.Nodup:=by rw[c];exact qJR _ _
 have k1:∀x,∀y∈W x,y∈K:=λx y j=>by rw[c];exact qQO (F.fl.dom j)
 have m:∀x,∀y∈W0 Ae path x,y∈K:=λx y j=>by rw[c];exact qQO (qL2 j).2
 have d:=qV5 (qSF v) F.fl o k1 m p w;have r:(-2:Int)∈K.filter λx=>!p x:=K0.mpr ⟨by rw[c,mem_rangeI];lia,by rw[g];rfl⟩
 rw[qPV (o.filter _) r λx hx ne=>by
  have:x≠-1:=λz=>by
   have:=(K0.mp hx).2;rw[z,s] at this;cases this
  rw[F.len x this ne]
  lia,<- qQH] at d
 have w2:W0 Ae path (-2)=[]:=fw_g _;rw[w2] at d;have i:∀e∈es,e∈outP (W0 Ae path) (K.filter p) (K.filter λx=>!p x):=λe u=>by
  obtain⟨t,_,f,c2,c3,_⟩:=k e u;refine qTI (K0.mpr ⟨m _ _ f,by rw[c3];rfl⟩) (K0.mpr ⟨?_,c2⟩) f
  rw[c];exact qQO (qL2 f).1
 have le:=D9 n i;have l1:=B4 P;have l2:=q.length_eq;simp at d
 lia
def mskN (zs:List Int):Nat:=(zs.map λz=>2^z.toNat).sum
def cntN (n b:Nat):Nat:=((G9 n).map λk=>b/2^k%2).sum
def clrb (b k:Nat):Nat:=b-2^k*(b/2^k%2)
def nxt (Ae:Aa0)(k:Nat):Nat:=mskN ((Ae[k]?).getD [])
def can (Ae:Aa0)(Aa:Int)(b k:Nat):Prop:=(cntN Ae.length b:Int)<Aa/\k<Ae.length/\b &&& nxt Ae k=nxt Ae k
inductive Rm (Ae:Aa0)(Aa:Int):Nat->Nat->Prop
 |zero:Rm Ae Aa 0 0
 |clr {m b k:Nat}:Rm Ae Aa m b->k<Ae.length->Rm Ae Aa m (clrb b k)
 |do_ {m b k:Nat}:Rm Ae Aa m b->can Ae Aa b k->Rm Ae Aa (m+1) (b ||| 2^k)
def Mn (Ae:Aa0)(Aa:Int)(m b:Nat):Prop:=Rm Ae Aa m b/\∀m',m'<m->¬Rm Ae Aa m' b
structure FdC (Ae:Aa0)(Aa:Int)(many:Nat)(ks:List Nat)(f:Nat->Nat):Prop where
 nd:ks.Nodup
 snd:∀b∈ks,f b<=many/\Mn Ae Aa (f b) b
 zero:0∈ks
 full:∀m,m<many->∀b,Rm Ae Aa m b->b∈ks
section
variable{Ae:Aa0}{Aa:Int}{many:Nat}{ks cl ly:List Nat}{f:Nat->Nat}{at_ wk:Nat}
structure A1 (Ae:Aa0)(Aa:Int)(many:Nat)(ks:List Nat)(f:Nat->Nat)(cl:List Nat)(at_ wk:Nat):Prop where
 fd:FdC Ae Aa many ks f
 dos:∀m b k,m+1=many->Rm Ae Aa m b->can Ae Aa b k->b ||| 2^k∈ks
 clm:∀b,b∈cl↔b∈ks/\f b=many
 nd:cl.Nodup
 done:∀i b,cl[i]?=some b->i<at_->∀k,k<Ae.length->clrb b k∈ks
 dk:∀b,cl[at_]?=some b->∀k,k<wk->clrb b k∈ks
structure A2 (Ae:Aa0)(Aa:Int)(many:Nat)(ks:List Nat)(f:Nat->Nat)(cl ly:List Nat)(at_ wk:Nat):Prop where
 fd:FdC Ae Aa (many+1) ks f
 clm:∀b,b∈cl↔b∈ks/\f b=many
 lym:∀b,b∈ly↔b∈ks/\f b=many+1
 nd:ly.Nodup
 done:∀i b,cl[i]?=some b->i<at_->∀k,can Ae Aa b k->b ||| 2^k∈ks
 dk:∀b,cl[at_]?=some b->∀k,k<wk->can Ae Aa b k->b ||| 2^k∈ks
structure Come (Ae:Aa0)(Aa:Int)(ks:List Nat)(f:Nat->Nat):Prop where
 nd:ks.Nodup
 snd:∀b∈ks,Mn Ae Aa (f b) b
 all:∀m b,Rm Ae Aa m b->b∈ks
end
theorem qLQ (a b:Nat):r8 (a:Int) (b:Int)=((a &&& b:Nat):Int):=by
 unfold r8;rw[decide_eq_true (B12 a),decide_eq_true (B12 b)]
 rfl
theorem qO8 (a b:Nat):B06 (a:Int) (b:Int)=((a ||| b:Nat):Int):=by
 have d:∀c:Nat,X2 (c:Int)=A48 c:=λc=>by unfold X2;lia
 have f:∀c:Nat,decide (0<=A48 c)=false:=λc=>decide_eq_false (by lia)
 have e:∀c:Nat,X2 (A48 c)=(c:Int):=λc=>by unfold X2;lia
 unfold B06 r8;rw[d,d,f,f];show X2 (X2 (((X2 (A48 a)).toNat ||| (X2 (A48 b)).toNat:Nat)))=_;rw[e,e,d,e]
 rfl
theorem qTX {k:Nat} :∀{st:List Int},(∀x∈st,(k:Int)<=x)->∃a,mskN st=2^k*a
 |[],_=>⟨0,rfl⟩
 |z::st,h=>by
  obtain⟨a,ha⟩:=qTX (st:=st) λx hx=>h x (A7 _ hx);have hz:=h z (by simp)
  refine⟨2^(z.toNat-k)+a,?_⟩;show 2^z.toNat+mskN st=_;rw[ha,p6,<- Nat.pow_add,show k+(z.toNat-k)=z.toNat by lia]
theorem qGR:∀{st:List Int},st.Pairwise (·<·)->(∀x∈st,0<=x)->∀j:Nat,(mskN st).testBit j=decide ((j:Int)∈st)
 |[],_,_,j=>by show(0:Nat).testBit j=_;simp
 |z::st,up,nn,j=>by
  have up':=M5.mp up;have hz:=nn z (by simp)
  obtain⟨a,ha⟩:=qTX (k:=z.toNat+1) (st:=st) λx hx=>by have:=up'.1 x hx;lia
  have ih:=qGR up'.2 (λx hx=>nn x (A7 _ hx)) j;have e:mskN (z::st)=2^(z.toNat+1)*a+2^z.toNat:=by show 2^z.toNat+mskN st=_;rw[ha,Z9]
  rw[e,Nat.testBit_two_pow_mul_add a (Nat.pow_lt_pow_right (by decide) (by lia)) j]
  by_cases c:j<z.toNat+1
  ·rw[if_pos c,Nat.testBit_two_pow];refine decide_eq_decide.mpr ⟨λh=>?_,λh=>?_⟩
   ·rw[B9];left;lia
   ·rcases B9.mp h with h|h
    ·lia
    ·have:=up'.1 _ h;lia
  ·rw[if_neg c];rw[ha,Nat.testBit_two_pow_mul] at ih;have:decide (j>=z.toNat+1)=true:=decide_eq_true (by lia)
   rw[this,A00] at ih;rw[ih];refine decide_eq_decide.mpr ⟨λh=>A7 _ h,λh=>?_⟩;rcases B9.mp h with h|h
   ·lia
   ·exact h
def insL:List Int->Int->List Int
 |[],k=>[k]
 |x::r,k=>if k<x then k::x::r else x::insL r k
noncomputable def behL (st:List Int) (m:Mv):List Int:=if m.1=J7 "do" then insL st m.2 else st.filter λx=>decide (x≠m.2)
section
variable{Ae:Aa0}{Aa:Int}
inductive Pt (Ae:Aa0)(Aa:Int):Nat->List Int->Prop
 |zero:Pt Ae Aa 0 []
 |step {t:Nat} {st:List Int} {m:Mv}:Pt Ae Aa t st->m∈qa9 Ae st Aa->Pt Ae Aa (t+1) (behL st m)
def Mt (Ae:Aa0)(Aa:Int)(t:Nat)(st:List Int):Prop:=Pt Ae Aa t st/\∀u,u<t->¬Pt Ae Aa u st
structure BF (Ae:Aa0)(Aa:Int)(t:Nat)(ks due ly:Aa0)(f:List Int->Nat)(i k:Nat):Prop where
 nd:ks.Nodup
 snd:∀s∈ks,∃u,u<=t+1/\Mt Ae Aa u s/\2*f s=u+s.length
 full:∀u s,u<=t->Pt Ae Aa u s->s∈ks
 duem:∀s,s∈due↔Mt Ae Aa t s
 lym:∀s,s∈ly↔s∈ks/\Mt Ae Aa (t+1) s
 done:∀j s,due[j]?=some s->j<i->∀m∈qa9 Ae s Aa,behL s m∈ks
 dk:∀s,due[i]?=some s->∀m∈(qa9 Ae s Aa).take k,behL s m∈ks
section
variable{t:Nat}{ks due ly:Aa0}{f:List Int->Nat}{i k:Nat}
structure Rch (Ae:Aa0)(Aa:Int)(ks:Aa0)(f:List Int->Nat):Prop where
 nd:ks.Nodup
 snd:∀s∈ks,∃u,Mt Ae Aa u s/\2*f s=u+s.length
 all:∀u s,Pt Ae Aa u s->s∈ks
end
end
theorem qQK:∀{l:List Int} {m:Int},lowD none l=some m->m∈l/\∀x∈l,m<=x:=by
 intro l m h;cases l with
 |nil=>cases h
 |cons x r=>
  have h:=G0 h;subst h;obtain⟨c,d,b⟩:=qU1 r x;exact⟨b.elim (λe=>by rw[e];exact A8) (A7 _),λy a=>(B9.mp a).elim (λe=>by rw[e];exact c) (d y)⟩
theorem qU0 {l:List Int} (h:l≠[]):∃m,lowD none l=some m:=by
 cases l with
 |nil=>exact absurd rfl h
 |cons x r=>exact⟨_,rfl⟩
theorem qOT {Ae:Aa0} :∀{s:List Int},(∀(i:Nat) (a b:Int),s[i]?=some a->s[i+1]?=some b->a∈nd Ae b)->Row2 Ae s
 |[],_=>trivial
 |[_],_=>trivial
 |a::b::r,h=>⟨h 0 a b rfl rfl,qOT λi x y e1 e2=>h (i+1) x y (by rw[Z1];exact e1) (by rw[Z1];exact e2)⟩
theorem qIH:∀{T:Aa0},T.flatten.Nodup->T.Pairwise λa b=>∀x∈a,x∉b
 |[],_=>.nil
 |t::T,h=>by
  rw[O1,O3] at h;refine M5.mpr ⟨λu hu x hx hx2=>?_,qIH h.2.1⟩;exact h.2.2 x hx x (V7.mpr ⟨u,hu,hx2⟩) rfl
section
variable{Ae:Aa0}{path:List Int}{ts:Aa0}
theorem SidesOf.isS (f:WFn Ae)(h:SidesOf Ae path ts):(∀t∈ts,IsS Ae path t)/\ts.flatten.Nodup/\(∀t∈ts,t.Pairwise (·<·)):=by
 obtain⟨W,l,_,F,P,a,_⟩:=h;obtain⟨j,d⟩:=qL3 F f P (F.fl.nd _) λ_ h=>h;refine⟨λs b=>?_,(a.flatten.nodup_iff).mpr j,λs b=>?_⟩
 ·obtain⟨w,_,e,I,c⟩:=d s (a.mem_iff.mp b);obtain⟨t,r,i,g⟩:=I.hd;exact⟨λx k=>(I.fr x k).1,qOT I.co,⟨t,by rw[i];rfl,g⟩,⟨w,c,e⟩⟩
 ·obtain⟨w,_,e,I,c⟩:=d s (a.mem_iff.mp b);exact I.up
structure Tl (Ae:Aa0)(path used:List Int)(x:Int)(r:List Int):Prop where
 free:∀z∈x::r,qAX Ae path z=true/\z∉used
 row:Row2 Ae (x::r)
 last:∃z,(x::r).getLast?=some z/\qCV Ae path z=true
end
def uni:Aa0->Nat
 |[]=>0
 |s::r=>mskN s ||| uni r
theorem qLU:∀(T:Aa0) (s:List Int),uni (T++[s])=uni T ||| mskN s
 |[],s=>by show mskN s ||| 0=0 ||| mskN s;simp
 |t::T,s=>by show mskN t ||| uni (T++[s])=(mskN t ||| uni T) ||| mskN s;rw[qLU T s,Nat.or_assoc]
def Apt (T:Aa0):Prop:=T.Pairwise λa b=>∀x∈a,x∉b
def Ups (T:Aa0):Prop:=∀s∈T,s≠[]/\s.Pairwise (·<·)/\∀x∈s,0<=x
theorem qX7 {s t:List Int} (d:s.Pairwise (·<·))(ps:∀x∈s,0<=x)(g:t.Pairwise (·<·))(c:∀x∈t,0<=x):mskN s &&& mskN t=0↔∀x∈s,x∉t:=by
 constructor
 ·intro h x f a;have e:=congrArg (λb=>Nat.testBit b x.toNat) h;have i:=ps x f;simp only[A78,qGR d ps,qGR g c,A57] at e;rw[show((x.toNat:Nat):Int)=x by lia,decide_eq_true f,decide_eq_true a] at e
  cases e
 ·intro h;refine A87 λj=>?_;rw[A78,qGR d ps,qGR g c,A57];by_cases e:(j:Int)∈s
  ·rw[decide_eq_false (h _ e),t5]
  ·rw[decide_eq_false e,q9]
theorem qOJ {s:List Int} (hs:s.Pairwise (·<·))(ps:∀x∈s,0<=x):∀{T:Aa0},Ups T->(uni T &&& mskN s=0↔∀t∈T,∀x∈t,x∉s)
 |[],_=>⟨λ_ t ht=>(nomatch ht),λ_=>by show 0 &&& mskN s=0;simp⟩
 |t::T,u=>by
  have ut:=u t A8;have ih:=qOJ hs ps (T:=T) λx hx=>u x (A7 _ hx);have a:=qX7 ut.2.1 ut.2.2 hs ps;show(mskN t ||| uni T) &&& mskN s=0↔_;rw[Nat.and_or_distrib_right,Nat.or_eq_zero_iff,a,ih];exact⟨λh v hv=>(B9.mp hv).elim (λe=>by rw[e];exact h.1) (h.2 v),λh=>⟨h t A8,λv hv=>h v (A7 _ hv)⟩⟩
structure DpS (L:Aa0)(M:Nat->Option Nat):Prop where
 ok:∀b v,M b=some v->∃T,T.Sublist L/\Apt T/\uni T=b/\T.length=v
 all:∀T,T.Sublist L->Apt T->∃v,M (uni T)=some v/\T.length<=v
theorem DpS.start:DpS [] λb=>if b=0 then some 0 else none:=by
 refine⟨λb v e=>?_,λT h _=>?_⟩
 ·by_cases z:b=0
  ·rw[if_pos z] at e;cases e;exact⟨[],.slnil,.nil,z.symm,rfl⟩
  ·rw[if_neg z] at e;cases e
 ·rw[List.sublist_nil.mp h];exact⟨0,if_pos rfl,A9 _⟩
structure DpI (M:Nat->Option Nat)(β:Nat)(ks:List Nat)(N:Nat->Option Nat):Prop where
 new:∀u∈ks,∀v,M u=some v->u &&& β=0->∃v',N (u ||| β)=some v'/\v+1<=v'
 old:∀b v,M b=some v->∃v',N b=some v'/\v<=v'
 src:∀b v',N b=some v'->M b=some v'\/∃u v,M u=some v/\u &&& β=0/\b=u ||| β/\v'=v+1
def DpI.start {M:Nat->Option Nat} {β:Nat} :DpI M β [] M:=⟨λ_ h=>(nomatch h),λb v e=>⟨v,e,A9 _⟩,λ_ _ e=>.inl e⟩
theorem qbS {u β:Nat} :(u ||| β) &&& β=β:=by
 refine A87 λj=>?_;rw[A78,Nat.testBit_or];cases u.testBit j<;>cases β.testBit j<;>rfl
theorem DpI.same {M N:Nat->Option Nat} {β u v:Nat} {ks:List Nat} (h:DpI M β ks N)(b:β≠0)(e:M u=some v)(z:u &&& β=0):N u=some v:=by
 obtain⟨c,a,l⟩:=h.old u v e;rcases h.src u c a with k|⟨w,_,_,_,k,_⟩
 ·rw[e] at k;cases k;exact a
 ·rw[k,qbS] at z;exact absurd z b
theorem DpI.skip {M N:Nat->Option Nat} {β u:Nat} {ks:List Nat} (h:DpI M β ks N)(z:u &&& β≠0):DpI M β (ks++[u]) N:=
 ⟨λw a v e c=>(C1.mp a).elim (λk=>h.new w k v e c) λk=>absurd (by rw[<- A6.mp k];exact c) z,h.old,h.src⟩
theorem DpI.next {M N:Nat->Option Nat} {β u v:Nat} {ks:List Nat} (h:DpI M β ks N)(e:M u=some v)(z:u &&& β=0):DpI M β (ks++[u]) λb=>if b=u ||| β then some (max ((N b).getD 0) (v+1)) else N b:=by
 refine⟨λw j d a c=>?_,λb d a=>?_,λb d a=>?_⟩
 ·rcases C1.mp j with k|k
  ·obtain⟨f,g,i⟩:=h.new w k d a c;by_cases q:w ||| β=u ||| β
   ·refine⟨_,if_pos q,?_⟩;rw[g];show d+1<=max f (v+1)
    lia
   ·exact⟨f,by rw[if_neg q];exact g,i⟩
  ·have:=A6.mp k;subst this;rw[e] at a;cases a;exact⟨_,if_pos rfl,Nat.le_max_right _ _⟩
 ·obtain⟨f,g,i⟩:=h.old b d a;by_cases q:b=u ||| β
  ·refine⟨_,if_pos q,?_⟩;rw[g];show d<=max f (v+1)
   lia
  ·exact⟨f,by rw[if_neg q];exact g,i⟩
 ·by_cases q:b=u ||| β
  ·rw[if_pos q] at a;cases g:N b with
   |none=>
    rw[g] at a;have:d=v+1:=by
     have:max 0 (v+1)=d:=by injection a
     lia
    exact .inr ⟨u,v,e,z,q,this⟩
   |some f=>
    rw[g] at a;have m:max f (v+1)=d:=by injection a
    by_cases c:v+1<=f
    ·have:d=f:=by lia
     rw[this];exact h.src b f g
    ·exact .inr ⟨u,v,e,z,q,by lia⟩
  ·rw[if_neg q] at a;exact h.src b d a
theorem DpS.next {L:Aa0} {M N:Nat->Option Nat} {s:List Int} {ks:List Nat} (h:DpS L M)(uL:Ups L)(d:s≠[]/\s.Pairwise (·<·)/\∀x∈s,0<=x)(k:DpI M (mskN s) ks N)(all:∀b v,M b=some v->b∈ks):DpS (L++[s]) N:=by
 have up:∀{T:Aa0},T.Sublist L->Ups T:=λz x m=>uL x (z.subset m);refine⟨λb v e=>?_,λT hT aT=>?_⟩
 ·rcases k.src b v e with z|⟨u,v0,e0,c,eb,ev⟩
  ·obtain⟨T,g,n,f,l⟩:=h.ok b v z;exact⟨T,g.trans (List.sublist_append_left _ _),n,f,l⟩
  ·obtain⟨T,g,n,f,l⟩:=h.ok u v0 e0;refine⟨T++[s],g.append (List.Sublist.refl _),?_,by rw[qLU,f,eb],by rw[B0,l,ev];rfl⟩
   rw[<- f] at c;have:=(qOJ d.2.1 d.2.2 (up g)).mp c;refine O6.mpr ⟨n,k9 _ _,λa o b hb=>?_⟩;rw[A6.mp hb];exact this a o
 ·obtain⟨w,T2,e,q,y⟩:=List.sublist_append_iff.mp hT;subst e;obtain⟨a1,a2,a3⟩:=O6.mp aT;obtain⟨v,p,l1⟩:=h.all w q a1;cases T2 with
  |nil=>
   obtain⟨i,j,l2⟩:=k.old _ v p;rw[M6];exact⟨i,j,by lia⟩
  |cons t r=>
   have hr:r=[]:=by
    have:=y.length_le;simp at this;cases r with|nil=>rfl|cons _ _=>simp at this
   subst hr;have ht:t=s:=A6.mp (y.subset A8);subst ht;obtain⟨i,j,l2⟩:=k.new (uni w) (all _ v p) v p ((qOJ d.2.1 d.2.2 (up q)).mpr λa o x m=>a3 a o t A8 x m);exact⟨i,by rw[qLU];exact j,by rw[B0];show _+1<=_;lia⟩
theorem qJO:∀{L ts:Aa0},ts.Nodup->(∀t∈ts,t∈L)->∃T:Aa0,T.Sublist L/\T.Perm ts
 |[],ts,_,h=>by
  have:ts=[]:=by
   cases ts with
   |nil=>rfl
   |cons t r=>exact nomatch h t A8
  subst this;exact⟨[],.slnil,.refl _⟩
 |x::L,ts,n,h=>by
  by_cases e:x∈ts
  ·obtain⟨T,a,b⟩:=qJO (L:=L) (ts:=ts.erase x) (n.erase x) λt ht=>by
    obtain⟨z1,z2⟩:=(n.mem_erase_iff).mp ht;exact(B9.mp (h t z2)).elim (λw=>absurd w z1) id
   exact⟨x::T,a.cons₂ x,(b.cons x).trans (List.perm_cons_erase e).symm⟩
  ·obtain⟨T,a,b⟩:=qJO (L:=L) (ts:=ts) n λt ht=>(B9.mp (h t ht)).elim (λw=>absurd (w▸ht) e) id;exact⟨T,a.cons x,b⟩
theorem DpS.most {Ae:Aa0} {path:List Int} {ts L:Aa0} {M:Nat->Option Nat} (g:WFn Ae)(S:SidesOf Ae path ts)(h:DpS L M)(hL:∀t∈L,IsS Ae path t)(al:∀t,IsS Ae path t->t∈L):(∀b v,M b=some v->v<=ts.length)/\∃b,M b=some ts.length:=by
 obtain⟨f,u,i3⟩:=S.isS g;have i:∀b v,M b=some v->v<=ts.length:=λb v e=>by
  obtain⟨T,t1,t2,_,s⟩:=h.ok b v e;rw[<- s];exact S.most g (λt c=>hL t (t1.subset c)) t2
 refine⟨i,?_⟩;have n:=qIH u;have o:ts.Nodup:=by
  have:∀{l:Aa0},l.Pairwise (λa b=>∀x∈a,x∉b)->(∀t∈l,t≠[])->l.Nodup:=λ{l} p m=>by
   induction l with
   |nil=>exact .nil
   |cons a l ih=>
    obtain⟨p1,p2⟩:=M5.mp p;refine J6.mpr ⟨λz=>?_,ih p2 λt c=>m t (A7 _ c)⟩;cases e:a with
    |nil=>exact m a A8 e
    |cons y r=>exact p1 a z y (by rw[e];exact A8) (by rw[e];exact A8)
  exact this n λt c e=>by
   obtain⟨a,k,_⟩:=(f t c).first;rw[e] at k;cases k
 obtain⟨T,s1,j⟩:=qJO o λt c=>al t (f t c);have w:Apt T:=by
  have q:∀{a b:List Int},(∀x∈a,x∉b)->∀x∈b,x∉a:=λh x hx d=>h x d hx;exact(j.pairwise_iff (R:=λa b:List Int=>∀x∈a,x∉b) (λh=>q h)).mpr n
 obtain⟨v,e,l⟩:=h.all T s1 w;have:=i _ _ e;rw[j.length_eq] at l;exact⟨_,by rw[e,show v=ts.length by lia]⟩
structure PlF (Ae:Aa0)(path used pile met:List Int):Prop where
 tl:∀x∈pile,∃r,Tl Ae path used x r
 due:∀(i:Nat) (y:Int),pile[i]?=some y->y∈met->∀n∈nd Ae y,n∉used->n∉path->n∈met\/∃j,i<j/\pile[j]?=some n
 nd:met.Nodup
 fr:∀x∈met,0<=x/\x<(Ae.length:Int)
def qSS:Sp:=λvs H Q _=>E4 λ(a t:Addr) (Ae:Aa0) (path:List Int)=>vs=[.ref a,.ref t]/\qFU H a t Ae path/\Ae.length<60/\path.length<=60/\∀(l:Addr) (zs:List Int) (H':Hp),Same H H'->H' l=some (.lst (zs.map V.int))->zs.length<=60->(∀z,z∈zs↔qCV Ae path z=true)->Q (.ref l) H'
section
variable{Ae:Aa0}
theorem qIF:∀(l:List Int) (z a:Int),qD9 Ae (l++[z,a])=(qD9 Ae (l++[z])&&decide (z∈nd Ae a))
 |[],z,a=>by show(decide (z∈nd Ae a)&&true)=(true&&_);rw[A01,A00]
 |[x],z,a=>by show(decide (x∈nd Ae z)&&(decide (z∈nd Ae a)&&true))=((decide (x∈nd Ae z)&&true)&&_);rw[A01,A01]
 |x::y::l,z,a=>by
  show(decide (x∈nd Ae y)&&qD9 Ae (y::l++[z,a]))=((decide (x∈nd Ae y)&&qD9 Ae (y::l++[z]))&&_);rw[qIF (y::l) z a,Bool.and_assoc]
theorem qaI (g:WFn Ae):∀(k:Nat) (p:List Int),(hd p).toNat=k->0<=hd p->p≠[]->∀t∈aP Ae p,∃pre,t=pre++p/\qD9 Ae (pre++[hd p])=true/\nd Ae ((pre++[hd p]).headD 0)=[]:=by
 intro k
 induction k using U7 with
 |ind k ih=>
  intro p j f i t a;rw[qPN g f] at a
  split at a
  ·rename_i e
   exact⟨[],A6.mp a,rfl,e⟩
  ·obtain⟨l,h,a⟩:=V7.mp a;obtain⟨z,d,rfl⟩:=C3.mp h;have d:=O9.mp d;have b:=qD1 g f d;obtain⟨pre,e,c,n⟩:=ih z.toNat (by lia) (z::p) rfl b.1 (by simp) t a
   have c:qD9 Ae (pre++[z])=true:=c;have n:nd Ae ((pre++[z]).headD 0)=[]:=n;refine⟨pre++[z],by rw[e];simp,?_,?_⟩
   ·rw[J4];show qD9 Ae (pre++[z,hd p])=true;rw[qIF,c,decide_eq_true d]
    rfl
   ·cases pre with
    |nil=>exact n
    |cons x pre=>exact n
theorem qcV (wf:WFn Ae):∀(n:Nat) (pre p:List Int),pre.length=n->0<=hd p->p≠[]->qD9 Ae (pre++[hd p])=true->nd Ae ((pre++[hd p]).headD 0)=[]->pre++p∈aP Ae p
 |0,pre,p,e,h0,ne,_,en=>by
  cases Y8.mp e;have en:nd Ae (hd p)=[]:=en;rw[qPN wf h0,if_pos en];exact A6.mpr rfl
 |n+1,pre,p,e,h0,ne,c,en=>by
  rcases b7 pre with z|⟨pre',z,z'⟩
  ·rw[z] at e;cases e
  ·rw[b8] at z';subst z';rw[J4] at c en;have c:qD9 Ae (pre'++[z,hd p])=true:=c;rw[qIF,C6,decide_eq_true_eq] at c;have b:=qD1 wf h0 c.2;have m:=qcV wf n pre' (z::p) (by simpa using e) b.1 (by simp) c.1 (by cases pre' with|nil=>exact en|cons _ _=>exact en)
   rw[qPN wf h0,if_neg (λq=>by rw[q] at c;exact nomatch c.2),J4]
   exact V7.mpr ⟨_,C3.mpr ⟨z,O9.mpr c.2,rfl⟩,m⟩
theorem qXA (d:WFn Ae):∀(k:Nat) (p:List Int),(hd p).toNat=k->0<=hd p->p≠[]->(aP Ae p).Nodup:=by
 intro k
 induction k using U7 with
 |ind k ih=>
  intro p hk o ne;rw[qPN d o]
  split
  ·simp
  ·have i:∀l:List Int,l.Nodup->(∀z∈l,z∈nd Ae (hd p))->((l.map λz=>aP Ae (z::p)).flatten).Nodup:=by
    intro l
    induction l with
    |nil=>exactλ_ _=>.nil
    |cons z l ihl=>
     intro n h;obtain⟨w,v⟩:=J6.mp n;have b:=qD1 d o (h z A8);rw[D4,O1];refine O3.mpr ⟨ih z.toNat (by lia) (z::p) rfl b.1 (by simp),ihl v λy hy=>h y (A7 _ hy),λa ha c m e=>?_⟩
     subst e;obtain⟨q,hq,m⟩:=V7.mp m;obtain⟨s,f,rfl⟩:=C3.mp hq;have x:=qD1 d o (h s (A7 _ f));obtain⟨j,t,_⟩:=qaI d _ (z::p) rfl b.1 (by simp) a ha
     obtain⟨g,r,_⟩:=qaI d _ (s::p) rfl x.1 (by simp) a m
     have u:j.length=g.length:=by
      have:=congrArg Y7 (t.symm.trans r);simp at this
      lia
     have:=(List.append_inj (t.symm.trans r) u).2
     injection this with hzz _
     exact w (hzz▸f)
   exact i _ ((d6 _).nodup_iff.mpr ((qbZ d (hd p)).imp λh=>by lia)) λz hz=>O9.mp hz
theorem qM5 (g:WFn Ae){b:Int}{ts:Aa0}(S:SortP Ae b ts)(f:0<=b)(zs:List Int):zs∈ts↔zs≠[]/\qGA Ae zs=true/\zs.getLastD 0=b:=by
 rw[S.1.mem_iff]
 constructor
 ·intro h;obtain⟨d,rfl,c,n⟩:=qaI g _ [b] rfl f (by simp) zs h
  have c:qD9 Ae (d++[b])=true:=c;have n:nd Ae ((d++[b]).headD 0)=[]:=n;refine⟨by simp,?_,by rw[J2];simp⟩
  unfold qGA;rw[c,n]
  rfl
 ·rintro⟨k,e,i⟩;obtain⟨d,a,rfl⟩:∃d a,zs=d++[a]:=by
   rcases b7 zs with z|⟨l,x,z⟩
   ·exact absurd z k
   ·exact⟨l,x,by rw[z,b8]⟩
  have j:a=b:=by rw[J2] at i;simpa using i
  subst j;unfold qGA at e;rw[C6,V6] at e;exact qcV g _ d [a] rfl f (by simp) e.1 e.2
theorem SortP.nodup (c:WFn Ae){a:Int}{ts:Aa0}(S:SortP Ae a ts)(b:0<=a):ts.Nodup:=S.1.nodup_iff.mpr (qXA c _ [a] rfl b (by simp))
end
section
variable{Ae:Aa0}{path:List Int}
theorem row2_iff:∀{s:List Int},Row2 Ae s↔∀(i:Nat) (a b:Int),s[i]?=some a->s[i+1]?=some b->a∈nd Ae b
 |[]=>⟨λ_ i a b e=>by simp at e,λ_=>trivial⟩
 |[x]=>⟨λ_ i a b e f=>by simp at f,λ_=>trivial⟩
 |x::y::r=>by
  constructor
  ·intro h i a b e f;cases i with
   |zero=>cases e;cases f;exact h.1
   |succ i=>exact row2_iff.mp h.2 i a b (by rw[Z1] at e;exact e) (by rw[Z1] at f;exact f)
  ·exact qOT
theorem pathI_iff {s:List Int} :qGA Ae s=true↔Row2 Ae s/\nd Ae (s.headD 0)=[]:=by
 unfold qGA;rw[C6,chain_iff,row2_iff,V6]
theorem qQD (g:WFn Ae){z:Int}{ts:Aa0}(S:SortP Ae z ts)(i:0<=z)(n:z<(Ae.length:Int))(k:qCV Ae path z=true){t:List Int}(j:t∈ts):IsS Ae path t↔∀x∈t,x∉path:=by
 obtain⟨f,m,d⟩:=(qM5 g S i t).mp j;obtain⟨l,c⟩:=pathI_iff.mp m;obtain⟨_,R⟩:=(S.some g i n).2 t j
 constructor
 ·intro h x b;exact(free_in.mp (h.free x b)).2
 ·intro h;refine⟨λx b=>free_in.mpr ⟨by have:=R.in_ x b;lia,h x b⟩,l,?_,?_⟩
  ·cases t with
   |nil=>exact absurd rfl f
   |cons a r=>exact⟨a,rfl,c⟩
  ·rw[J2] at d;cases e:t.getLast? with
   |none=>rw[List.getLast?_eq_none_iff] at e;exact absurd e f
   |some y=>rw[e] at d;exact⟨y,rfl,by rw[show y=z from d];exact k⟩
theorem qWK (d:WFn Ae){z:Int}{ts:Aa0}(S:SortP Ae z ts)(g:0<=z){t:List Int}(h:IsS Ae path t)(f:t.getLast?=some z):t∈ts:=by
 obtain⟨a,b,c⟩:=h.first;refine(qM5 d S g t).mpr ⟨(λe=>by rw[e] at b;cases b),pathI_iff.mpr ⟨h.row,?_⟩,by rw[J2,f];rfl⟩
 cases t with
 |nil=>cases b
 |cons x r=>cases b;exact c
theorem qT3 (wf:WFn Ae):∀{t:List Int},(∀x∈t,0<=x)->Row2 Ae t->t.Pairwise (·<·)
 |[],_,_=>.nil
 |[x],_,_=>k9 _ _
 |x::y::r,h,c=>by
  have ih:=qT3 wf (t:=y::r) (λz hz=>h z (A7 _ hz)) c.2;have xy:=(qD1 wf (h y (A7 _ A8)) c.1).2;refine M5.mpr ⟨λz hz=>?_,ih⟩;rcases B9.mp hz with e|e
  ·rw[e];exact xy
  ·exact Int.lt_trans xy ((M5.mp ih).1 z e)
theorem IsS.ups (d:WFn Ae){t:List Int}(h:IsS Ae path t):t≠[]/\t.Pairwise (·<·)/\∀x∈t,0<=x:=by
 have p:∀x∈t,0<=x:=λx c=>(free_in.mp (h.free x c)).1.1;refine⟨λe=>?_,qT3 d p h.row,p⟩;obtain⟨a,b,_⟩:=h.first;rw[e] at b;cases b
end
structure DkM (Af:List (Key×V))(M:Nat->Option Nat)(ns:List Nat):Prop where
 keys:Af.map (·.1)=ns.map λn:Nat=>(E9 (n:Int):Key)
 nd:ns.Nodup
 val:∀b:Nat,valV Af (E9 (b:Int))=(M b).map λv:Nat=>V.int (v:Int)
theorem DkM.start:DkM [((E9 0:Key),V.int 0)] (λb=>if b=0 then some 0 else none) [0]:=by
 refine⟨rfl,by simp,λb=>?_⟩
 by_cases e:b=0
 ·subst e;rfl
 ·rw[if_neg e,qBY (λh=>e (by have:=W7 h;lia))];rfl
theorem DkM.mem {Af:List (Key×V)} {M:Nat->Option Nat} {ns:List Nat} (h:DkM Af M ns){b:Nat}:(M b).isSome=true↔b∈ns:=by
 have e:=h.val b;have k:(valV Af (E9 (b:Int))).isSome=true↔(E9 (b:Int):Key)∈Af.map (·.1):=by
  unfold valV;rw[P7,A37,C3];exact⟨λ⟨x,a,b⟩=>⟨x,a,of_decide_eq_true b⟩,λ⟨x,a,b⟩=>⟨x,a,decide_eq_true b⟩⟩
 rw[h.keys,C3,e,P7] at k;rw[k];exact⟨λ⟨n,a,c⟩=>by have:=W7 c;rw[show b=n by lia];exact a,λa=>⟨b,a,rfl⟩⟩
theorem DkM.put {Af:List (Key×V)} {M:Nat->Option Nat} {ns:List Nat} (h:DkM Af M ns)(b v:Nat):DkM (putK Af (E9 (b:Int)) (.int (v:Int))) (λc=>if c=b then some v else M c) (if b∈ns then ns else ns++[b]):=by
 have g:(Af.any λa=>decide (a.1=(E9 (b:Int):Key)))=decide (b∈ns):=by
  rw[R8,decide_eq_true_eq,<- h.mem,<- P7 (f:=λv:Nat=>V.int (v:Int)),<- h.val b];unfold valV;rw[P7,A37,R1]
 refine⟨?_,?_,λc=>?_⟩
 ·unfold putK;rw[g];by_cases e:b∈ns
  ·rw[decide_eq_true e,if_pos rfl,if_pos e,<- h.keys,Q1];refine L4 λa _=>?_;show(if a.1=E9 (b:Int) then(a.1,V.int (v:Int)) else a).1=a.1
   split<;>rfl
  ·rw[decide_eq_false e,if_neg (by decide),if_neg e,B2,B2,h.keys]
   rfl
 ·by_cases e:b∈ns
  ·rw[if_pos e];exact h.nd
  ·rw[if_neg e];exact O3.mpr ⟨h.nd,by simp,λx d y i z=>e (by rw[A6.mp i] at z;exact z▸d)⟩
 ·rw[qFV];by_cases e:c=b
  ·rw[e,if_pos rfl,if_pos rfl];rfl
  ·rw[if_neg e,if_neg (λz=>e (by have:=W7 z;lia)),h.val c]
theorem qPR {κ:Type} [DecidableEq κ]:∀{Af:List (κ×V)} {kv:κ×V},(Af.map (·.1)).Nodup->kv∈Af->valV Af kv.1=some kv.2
 |[],_,_,h=>nomatch h
 |x::r,kv,n,h=>by
  rw[D4,J6] at n;rcases B9.mp h with e|e
  ·rw[e];exact qBX rfl
  ·rw[qBY λz=>n.1 (by rw[z];exact C3.mpr ⟨kv,e,rfl⟩)]
   exact qPR n.2 e
theorem DkM.vals {Af:List (Key×V)} {M:Nat->Option Nat} {ns:List Nat} (h:DkM Af M ns):Af.map (·.2)=(ns.map λn:Nat=>(((M n).getD 0:Nat):Int)).map V.int:=by
 have j:(Af.map (·.1)).Nodup:=by
  rw[h.keys];refine List.Pairwise.map _ (λa b f z=>f ?_) h.nd;have:=W7 z
  lia
 have i:Af.map (·.2)=(Af.map (·.1)).map λk=>(valV Af k).getD V.non:=by
  rw[Q1];refine L4 λd c=>?_;show d.2=(valV Af d.1).getD V.non;rw[qPR j c]
  rfl
 rw[i,h.keys,Q1,Q1];refine L4 λn g=>?_;show(valV Af (E9 (n:Int))).getD V.non=V.int (((M n).getD 0:Nat):Int);rw[h.val n];obtain⟨v,e⟩:=T0.mp (h.mem.mpr g);rw[e]
 rfl
theorem qR4:∀(s:List Int),(s.map λx:Int=>(1:Int)*2^x.toNat).sum=((mskN s:Nat):Int)
 |[]=>rfl
 |x::r=>by
  show(1:Int)*2^x.toNat+(r.map λx:Int=>(1:Int)*2^x.toNat).sum=(((2^x.toNat+mskN r:Nat)):Int);rw[qR4 r,B50];simp
theorem qZG {ns:List Nat} (n:ns.Nodup)(h:∀x∈ns,x<512):ns.length<=512:=by
 have:=D9 n (l₂:=G9 512) λx a=>G3.mpr (h x a);rw[B25] at this;exact this
theorem qZH {s:List Int} (u:s.Pairwise (·<·))(h:∀x∈s,0<=x/\x<9):mskN s<512:=by
 have:mskN s<2^9:=Nat.lt_pow_two_of_testBit _ λj b=>by
  rw[qGR u (λx a=>(h x a).1)];refine decide_eq_false λz=>?_;have:=h _ z
  lia
 exact this
def qbT {a b:Nat} (h:a<512)(k:b<512):a ||| b<512:=Nat.or_lt_two_pow (n:=9) h k
end Fw
namespace L2
open PySem PySem.Spec PyProof.Rows
theorem qX0 {lo c:Int} {n:Nat} {g:TG} {b:TS} {D:Ends} {σ:St} {H:Hp} (Pv:Nat->St->Hp->Prop)(f:Pv 0 σ H)
  (h:∀i σ H,i<n->Pv i σ H->g (.int (lo+i*c)) σ H λσ2 H2=>b {D with nx:=Pv (i+1),ct:=Pv (i+1),bk:=D.nx} σ2 H2) (k:∀σ H,Pv n σ H->D.nx σ H):
  ForG (Its lo c n) g b D σ H:=by
 refine⟨λi m σ H=>m=n-i/\i<=n/\Pv i σ H,⟨n,by simp,G6 _,f⟩,?_⟩
 rintro i m σ H ⟨rfl,hi,p⟩;by_cases a:i<n
 ·refine .inr ⟨a,Pv (i+1),λσ' d j=>⟨n-(i+1),by lia,rfl,a,j⟩,λx d y=>?_⟩
  obtain⟨e,y⟩:=y;subst e y;exact h i σ _ a p
 ·have e:i=n:=by lia
  subst e;exact .inl ⟨A9 _,k σ H p⟩
end L2
namespace Fw
open PySem L2
section
variable{Ae:Aa0}{path:List Int}{ts:Aa0}
theorem SidesOf.count (k:WFn Ae)(h:SidesOf Ae path ts){T:Aa0}{es:List Int}(s:∀t∈T,IsS Ae path t)(q:T.Pairwise λa b=>∀x∈a,x∉b)(m:∀z,qCV Ae path z=true->z∈es)(v:es.length<=T.length):ts.length=T.length:=by
 have a:=h.most k s q;obtain⟨g,l,_⟩:=h.isS k;have b:ts.length<=es.length:=by
  have p:=qIH l;have o:(ts.map λt=>t.getLastD 0).Nodup:=by
   rw[List.Nodup,P9];refine List.Pairwise.imp_of_mem (λ{t u} j r d e=>?_) p;obtain⟨x,f,_⟩:=(g t j).last;obtain⟨y,c,_⟩:=(g u r).last;rw[J2,J2,f,c] at e;have i:x=y:=e;subst i;exact d x (y7 f) (y7 c)
  have:=D9 o (l₂:=es) λz n=>by
   obtain⟨t,j,rfl⟩:=C3.mp n;obtain⟨x,f,c⟩:=(g t j).last;rw[J2,f];exact m x c
  rw[A0] at this;exact this
 lia
end
noncomputable def qaE (Ae:Aa0):Bool:=(G9 Ae.length).all λi=>decide ((Ae.getD i []).Pairwise (·<·))&&(Ae.getD i []).all λx=>decide (0<=x/\x<(i:Int))
theorem qYI {Ae:Aa0} (h:qaE Ae=true):WFn Ae:=λi c e=>by
 unfold qaE at h;have b:=(A3.mp e).1;have:=F5.mp h i (G3.mpr b);rw[M9,e,x5,C6,decide_eq_true_eq,F5] at this;exact⟨this.1,λx a=>of_decide_eq_true (this.2 x a)⟩
def ftP (d j:Nat):Aa0:=C7 (2^d) []++(G9 j).map λi:Nat=>[2*(i:Int),2*(i:Int)+1]
def ftN (d:Nat):Aa0:=ftP d (2^d-1)
theorem qP7 (d j:Nat):(ftP d j).length=2^d+j:=by unfold ftP;rw[B0,L8,A0,B25]
theorem qWZ (d j:Nat):ftP d (j+1)=ftP d j++[[2*(j:Int),2*(j:Int)+1]]:=by
 unfold ftP;rw[c6,B2,J4]
 rfl
noncomputable def dwnL (Ae:Aa0):Nat->Int->List Int
 |0,_=>[]
 |n+1,z=>match nd Ae z with
  |[]=>[z]
  |y::_=>dwnL Ae n y++[z]
noncomputable def sbl (Ae:Aa0)(path:List Int):List Int:=(path.drop 1).flatMap λw=>(nd Ae w).filter λn=>decide (n∉path)
noncomputable def chkS (Ae:Aa0)(path t:List Int):Bool:=t.all (qAX Ae path)&&qD9 Ae t&&(match t with|[]=>false|a::_=>(nd Ae a).isEmpty)&&(match t.getLast? with|none=>false|some z=>qCV Ae path z)
def chkA:Aa0->Bool
 |[]=>true
 |t::r=>(r.all λu=>t.all λx=>decide (x∉u))&&chkA r
theorem qVA:∀{T:Aa0},chkA T=true->T.Pairwise λa b=>∀x∈a,x∉b
 |[],_=>.nil
 |t::r,h=>by
  unfold chkA at h;rw[C6,F5] at h;exact M5.mpr ⟨λu hu x hx=>of_decide_eq_true (F5.mp (h.1 u hu) x hx),qVA h.2⟩
theorem qaF {Ae:Aa0} {path t:List Int} (h:chkS Ae path t=true):IsS Ae path t:=by
 unfold chkS at h;rw[C6,C6,C6,F5] at h;obtain⟨⟨⟨d,f⟩,c⟩,b⟩:=h;refine⟨d,row2_iff.mpr (chain_iff.mp f),?_,?_⟩
 ·cases t with
  |nil=>cases c
  |cons a r=>exact⟨a,rfl,V6.mp c⟩
 ·cases e:t.getLast? with
  |none=>rw[e] at b;cases b
  |some z=>rw[e] at b;exact⟨z,rfl,b⟩
theorem qa8 {Ae:Aa0} {path:List Int} {z:Int} (h:qCV Ae path z=true):z∈sbl Ae path:=by
 obtain⟨a,w,b,c⟩:=end_iff.mp h;exact List.mem_flatMap.mpr ⟨w,b,K0.mpr ⟨c,decide_eq_true a⟩⟩
noncomputable def chkF (d:Nat)(p:List Int):Bool:=((sbl (ftN d) p).map (dwnL (ftN d) (d+1))).all (chkS (ftN d) p)&&chkA ((sbl (ftN d) p).map (dwnL (ftN d) (d+1)))&&decide ((sbl (ftN d) p).length=d)
theorem qQY:([1,2,3,4].all λd=>(aP (ftN d) [(2:Int)^(d+1)-2]).all (chkF d)&&qaE (ftN d))=true:=by decide +kernel
theorem qe2:([1,2,3,4].all λd=>decide ((aP (ftN d) [(2:Int)^(d+1)-2]).length=2^d)&&decide (cn (ftN d) ((2:Int)^(d+1)-2)<=300))=true:=by decide +kernel
theorem qa1 {d:Nat} (a:1<=d)(b:d<=4):(aP (ftN d) [(2:Int)^(d+1)-2]).length=2^d/\cn (ftN d) ((2:Int)^(d+1)-2)<=300:=by
 have:=F5.mp qe2 d (by simp;lia)
 rw[C6,decide_eq_true_eq,decide_eq_true_eq] at this;exact this
theorem qcL {d:Nat} (a:1<=d)(b:d<=4):WFn (ftN d):=by
 have:=F5.mp qQY d (by simp;lia)
 rw[C6] at this;exact qYI this.2
theorem qWY {d:Nat} (i:1<=d)(e:d<=4){p:List Int}{ts:Aa0}(a:p∈aP (ftN d) [(2:Int)^(d+1)-2])(h:SidesOf (ftN d) p ts):ts.length=d:=by
 have c:=F5.mp qQY d (by simp;lia)
 rw[C6] at c;have k:=F5.mp c.1 p a;unfold chkF at k;rw[C6,C6,F5,decide_eq_true_eq] at k;obtain⟨⟨j,f⟩,b⟩:=k;have:=h.count (qcL i e) (λt l=>qaF (j t l)) (qVA f) (es:=sbl (ftN d) p) (λz g=>qa8 g) (by rw[A0];exact A9 _)
 rw[this,A0,b]
theorem qLA {α β:Type} {R:α->β->Prop} (u:∀x s s',R x s->R x s'->s=s'):∀{xs:List α} {ss ss':List β},Paired R xs ss->Paired R xs ss'->ss=ss'
 |[],_,_,.nil,.nil=>rfl
 |_::_,_,_,.cons a b,.cons a' b'=>by rw[u _ _ _ a a',qLA u b b']
theorem SidesOf.one {Ae:Aa0} {path:List Int} {a b:Aa0} (h:SidesOf Ae path a)(h':SidesOf Ae path b):a=b:=by
 obtain⟨W,q,n,_,P,g,j⟩:=h;obtain⟨r,l,f,_,p,c,d⟩:=h';have e:=n.one f;subst e;have m:=qLA (λx s t (k:Sd W (x/2) s) k'=>k.one k') P p;subst m;exact(g.trans c.symm).eq_of_pairwise (λx y _ _ o i=>L2.G.lexLt_tri x y i o) j d
def qST:Sp:=λvs H Q _=>∃dp:Nat,vs=[.int (dp:Int)]/\1<=dp/\dp<=4/\∀a H',Same H H'->NetAt H' a (ftN dp)->Q (.ref a) H'
open PySem PySem.Spec L2
theorem qGP {α β:Type} {P Q:α->β->Prop} {d:List α} {c:List β} (h:Paired P d c):(∀a b,b∈c->P a b->Q a b)->Paired Q d c:=by
 induction h with
 |nil=>exactλ_=>.nil
 |cons a b ih=>exactλk=>.cons (k _ _ A8 a) (ih λx y m=>k x y (A7 _ m))
theorem qW4 (i:Nat):qAJ 0 ((i+1:Nat):Int)=qAJ 0 (i:Int)++[(i:Int)]:=by
 unfold qAJ;rw[show(((i+1:Nat):Int)-0).toNat=i+1 by lia,show((i:Int)-0).toNat=i by lia,c6,B2,A20,A21]
def Row3 (H:Hp)(r:Addr)(q:Addr×List Int×Aa0):Prop:=∃(tp:Addr) (rss:List Addr),H r=some (.tup [.ref tp,.ref q.1])/\H tp=some (.tup (q.2.1.map V.int))/\H q.1=some (.lst (rss.map V.ref))/\L2.G.TupsAt H rss q.2.2
theorem Row3.same {H H':Hp} {r:Addr} {q:Addr×List Int×Aa0} (h:Row3 H r q)(s:Same H H'):Row3 H' r q:=by
 obtain⟨g,f,a,b,c,d⟩:=h;exact⟨g,f,s _ _ a,s _ _ b,s _ _ c,Paired.mapP d λ_ _ e=>s _ _ e⟩
theorem Row3.put {H:Hp} {r N:Addr} {q:Addr×List Int×Aa0} {xs:List V} {o:HO} (h:Row3 H r q)(g:H N=some (.lst xs))(n:q.1≠N):Row3 (Ag H N o) r q:=by
 obtain⟨j,f,a,b,c,d⟩:=h;have i:∀{q:Addr} {ys:List V},H q=some (.tup ys)->Ag H N o q=some (.tup ys):=λk=>by rw[qA8 (qCK k g (by intro z;cases z))];exact k
 exact⟨j,f,i a,i b,by rw[qA8 n];exact c,Paired.mapP d λ_ _ e=>i e⟩
def PapOk' (Ae:Aa0)(work:Int)(qs:List (Addr×List Int×Aa0)):Prop:=SortP Ae work (qs.map λq=>q.2.1)/\∀q∈qs,SidesOf Ae q.2.1 q.2.2
def qJ9 (C:Addr):Sp:=λvs H Q E=>E3 λ(a:Addr) (Ae:Aa0) (work:Int)=>vs=[.ref a,.int work]/\NetAt H a Ae/\WFn Ae/\Ae.length<=60/\0<=work/\work<(Ae.length:Int)/\
 (cn Ae work<=300->∀l rs qs H',Same H H'->H l=none->H' l=some (.lst (rs.map V.ref))->Paired (Row3 H') rs qs->(qs.map (·.1)).Nodup->(∀q∈qs,H q.1=none/\q.1≠l)->PapOk' Ae work qs->Q (.ref l) H')/\(300<cn Ae work->∀H',Same H H'->E (.ref C) none H')
def Bnd (Ae:Aa0)(work b:Int):Prop:=(nd Ae work=[]/\b=1)\/(nd Ae work≠[]/\(∃t ss,t∈aP Ae [work]/\SidesOf Ae t ss/\b=2+(ss.length:Int))/\∀t ss,t∈aP Ae [work]->SidesOf Ae t ss->b<=2+(ss.length:Int))
theorem Bnd.one {Ae:Aa0} {a b j:Int} (h:Bnd Ae a b)(h':Bnd Ae a j):b=j:=by
 rcases h with⟨n,e⟩|⟨n,⟨t,p,q,k,e⟩,o⟩
 ·rcases h' with⟨_,m⟩|⟨g,_⟩
  ·lia
  ·exact absurd n g
 ·rcases h' with⟨g,_⟩|⟨_,⟨l,c,f,i,m⟩,d⟩
  ·exact absurd g n
  ·have:=o l c f i;have:=d t p q k
   lia
theorem PapOk'.bnd {Ae:Aa0} {a m:Int} {c:List (Addr×List Int×Aa0)} (b:PapOk' Ae a c)(h:nd Ae a≠[])(k:m∈c.map λq=>(q.2.2.length:Int))(g:∀x∈c.map (λq=>(q.2.2.length:Int)),m<=x):Bnd Ae a (2+m):=by
 obtain⟨q,f,e⟩:=C3.mp k;refine .inr ⟨h,⟨q.2.1,q.2.2,b.1.1.mem_iff.mp (C3.mpr ⟨q,f,rfl⟩),b.2 q f,by rw[<- e]⟩,λt o n j=>?_⟩
 obtain⟨p,d,i⟩:=C3.mp (b.1.1.mem_iff.mpr n);have l:=SidesOf.one j (by have:=b.2 p d;rw[i] at this;exact this)
 have:=g _ (C3.mpr ⟨p,d,rfl⟩);rw[l]
 lia
def qJA (C:Addr):Sp:=λvs H Q E=>E3 λ(a:Addr) (Ae:Aa0) (work:Int)=>vs=[.ref a,.int work]/\NetAt H a Ae/\WFn Ae/\Ae.length<=60/\0<=work/\work<(Ae.length:Int)/\(300<cn Ae work->nd Ae work≠[])/\
 (cn Ae work<=300->∀b H',Same H H'->Bnd Ae work b->Q (.int b) H')/\(300<cn Ae work->∀H',Same H H'->E (.ref C) none H')
def qSQ:Sp:=λvs H Q _=>E6 λ(a r:Addr) (Ae:Aa0) (work many:Int) (q:Addr×List Int×Aa0)=>vs=[.ref a,.int work,.int many,.ref r]/\NetAt H a Ae/\WFn Ae/\Ae.length<=59/\Row3 H r q/\q.2.1≠[]/\qGA Ae q.2.1=true/\q.2.1.getLastD 0=work/\Rise (Ae.length:Int) q.2.1/\SidesOf Ae q.2.1 q.2.2/\∀H',Same H H'->Q (.bl (decide (many<=(q.2.2.length:Int)))) H'
def qSV (C:Addr):Sp:=λvs H Q E=>E5 λ(a:Addr) (Ae:Aa0) (work Aa:Int) (x:V)=>vs=[.ref a,.int work,.int Aa,x]/\NetAt H a Ae/\WFn Ae/\Ae.length<=59/\0<=work/\work<(Ae.length:Int)/\
 (cn Ae work<=300->E3 λ(l:Addr) (rs:List Addr) (qs:List (Addr×List Int×Aa0))=>x=.ref l/\H l=some (.lst (rs.map V.ref))/\Paired (Row3 H) rs qs/\PapOk' Ae work qs/\∀b H',Same H H'->(b=true↔((nd Ae work=[]->Aa=1)/\∀q∈qs,Aa-2<=(q.2.2.length:Int)))->Q (.bl b) H')/\(300<cn Ae work->∀H',Same H H'->E (.ref C) none H')
def qSR:Sp:=λvs H Q _=>E4 λ(a t:Addr) (Ae:Aa0) (path:List Int)=>vs=[.ref a,.ref t]/\qFU H a t Ae path/\Ae.length<10/\path.length<=60/\∀m H',Same H H'->(∀ts,SidesOf Ae path ts->m=(ts.length:Int))->Q (.int m) H'
def DueM (Ae:Aa0)(work b:Int):Prop:=(nd Ae work=[]/\b=1)\/(nd Ae work≠[]/\∃ts vs m,SortP Ae work ts/\Paired (λ(t:List Int) (v:Int)=>∀ss,SidesOf Ae t ss->v=(ss.length:Int)) ts vs/\m∈vs/\(∀x∈vs,m<=x)/\b=2+m)
theorem qQE {Ae:Aa0} :∀{qs:List (Addr×List Int×Aa0)} {vs:List Int},Paired (λ(t:List Int) (v:Int)=>∀ss,SidesOf Ae t ss->v=(ss.length:Int)) (qs.map λq=>q.2.1) vs->(∀q∈qs,SidesOf Ae q.2.1 q.2.2)->vs=qs.map λq=>(q.2.2.length:Int)
 |[],[],.nil,_=>rfl
 |q::qs,v::vs,.cons a b,h=>by rw[D4,<- qQE b λp hp=>h p (A7 _ hp),<- a _ (h q A8)]
theorem DueM.bnd {Ae:Aa0} {a b:Int} (h:DueM Ae a b){d:List (Addr×List Int×Aa0)}(c:PapOk' Ae a d):Bnd Ae a b:=by
 rcases h with⟨n,e⟩|⟨n,o,l,m,f,j,g,k,rfl⟩
 ·exact .inl ⟨n,e⟩
 ·have e:=f.one c.1;subst e;have i:=qQE j c.2;subst i;exact c.bnd n g k
def qSU:Sp:=λvs H Q _=>E3 λ(a:Addr) (Ae:Aa0) (work:Int)=>vs=[.ref a,.int work]/\NetAt H a Ae/\WFn Ae/\Ae.length<=59/\0<=work/\work<(Ae.length:Int)/\cn Ae work<=300/\∀b H',Same H H'->DueM Ae work b->Q (.int b) H'
def qSP:Sp:=λvs H Q _=>E3 λ(a:Addr) (Ae:Aa0) (work:Int)=>vs=[.ref a,.int work]/\NetAt H a Ae/\WFn Ae/\Ae.length<=59/\0<=work/\work<(Ae.length:Int)/\300<cn Ae work/\nd Ae work≠[]/\∀H',Same H H'->Q (.bl true) H'
def qN0:Sp:=λvs H Q _=>E3 λ(a:Addr) (Ae:Aa0) (work:Int)=>vs=[.ref a,.int work]/\NetAt H a Ae/\WFn Ae/\Ae.length<=59/\0<=work/\work<(Ae.length:Int)/\cn Ae work<=300/\∀H',Same H H'->Q (.bl true) H'
theorem qRD {H:Hp} {l m:Addr} {rs ks:List Addr} {d h:List (Addr×List Int×Aa0)} (gl:H l=some (.lst (rs.map V.ref)))(gm:H m=some (.lst (ks.map V.ref)))(P:Paired (Row3 H) rs d)(Q:Paired (Row3 H) ks h)(e:d.map (·.2)=h.map (·.2))(l3:d.length<=1000)(lp:∀q∈d,q.2.1.length<=1000/\q.2.2.length<=1000/\∀s∈q.2.2,s.length<=1000):Alike H 4 (.ref l) (.ref m):=by
 have l1:=B4 P;have l2:=B4 Q;have l4:d.length=h.length:=by have:=congrArg Y7 e;rw[A0,A0] at this;exact this
 refine .inr ⟨false,l,m,_,_,rfl,rfl,gl,gm,by rw[A0,A0];lia,by rw[A0];lia,λi x y ex ey=>?_⟩
 obtain⟨r,er,rfl⟩:=qB8 ex;obtain⟨r',n,rfl⟩:=qB8 ey;obtain⟨p,ep,tp,o,g1,g2,g3,TT⟩:=qAH P er;obtain⟨p',j,a0,c,z,b,w,f⟩:=qAH Q n;have e2:p'.2=p.2:=by
  have h1:(h.map (·.2))[i]?=some p'.2:=by rw[C0,j];rfl
  rw[<- e,C0,ep] at h1;exact(G0 h1).symm
 rw[e2] at b f;obtain⟨b1,b2,b3⟩:=lp p (B3 ep);refine .inr ⟨true,r,r',_,_,rfl,rfl,g1,z,rfl,by show 2<=100000;decide,λk u v a g=>?_⟩
 match k,a,g with
 |0,a,g=>
  cases a;cases g;exact(qVP g2 b (by lia)).up
 |1,a,g=>
  cases a;cases g;exact(qX8 ⟨o,g3,TT⟩ ⟨c,w,f⟩ (by lia) λt ht=>by have:=b3 t ht;lia)
 |k+2,a,_=>simp at a
theorem qZA {Ae:Aa0} {c:Int} {b a:List (Addr×List Int×Aa0)} (h:PapOk' Ae c b)(h':PapOk' Ae c a):b.map (·.2)=a.map (·.2):=by
 have e:=SortP.one h.1 h'.1;have:∀{b a:List (Addr×List Int×Aa0)},b.map (λq=>q.2.1)=a.map (λq=>q.2.1)->(∀q∈b,SidesOf Ae q.2.1 q.2.2)->(∀q∈a,SidesOf Ae q.2.1 q.2.2)->b.map (·.2)=a.map (·.2):=λ{b}=>by
  induction b with
  |nil=>intro a e _ _;cases a with|nil=>rfl|cons _ _=>cases e
  |cons q b ih=>
   intro a e i f;cases a with
   |nil=>cases e
   |cons p a=>
    rw[D4,D4] at e
    injection e with e1 e2
    rw[D4,D4,ih e2 (λx d=>i x (A7 _ d)) λx d=>f x (A7 _ d)];have g:=i q A8;have k:=f p A8;rw[e1] at g;have j:=SidesOf.one g k;congr 1;exact Prod.ext e1 j
 exact this e h.2 h'.2
theorem qdX:([1,2,3].all λd=>(aP (ftN d) [(2:Int)^(d+1)-2]).all λp=>decide (p.length=d+1))=true:=by decide +kernel
theorem qdY:([1,2,3].all λd=>!(nd (ftN d) ((2:Int)^(d+1)-2)).isEmpty)=true:=by decide +kernel
theorem qa0 {d:Nat} (c:1<=d)(e:d<=3):(∀p∈aP (ftN d) [(2:Int)^(d+1)-2],p.length=d+1)/\nd (ftN d) ((2:Int)^(d+1)-2)≠[]:=by
 have a:d∈[1,2,3]:=by
  rcases(by lia:d=1\/d=2\/d=3) with rfl|rfl|rfl<;>simp
 refine⟨λp b=>of_decide_eq_true (F5.mp (F5.mp qdX d a) p b),λz=>?_⟩;have:=F5.mp qdY d a;rw[z] at this;cases this
theorem qcU {Ae:Aa0} {a:Int} (c:WFn Ae)(b:0<=a)(h:300<cn Ae a):nd Ae a≠[]:=λz=>by
 rw[qRY c b,if_pos z] at h
 lia
def SdT (Ae:Aa0)(path s:List Int):Prop:=s≠[]/\s.length<=Ae.length/\(∀z∈s,0<=z/\z<(Ae.length:Int))/\qGA Ae s=true/\qCV Ae path (s.getLastD 0)=true/\∀x∈s,x∉path
theorem SidesOf.sdT {Ae:Aa0} {path:List Int} {ts:Aa0} (d:WFn Ae)(h:SidesOf Ae path ts):(∀s∈ts,SdT Ae path s)/\ts.flatten.Nodup/\ts.length<=Ae.length:=by
 obtain⟨e,b,l⟩:=h.are d;refine⟨λs c=>?_,(h.isS d).2.1,l⟩;obtain⟨g,j,f⟩:=b s c;have i:((ts.map tupI).all (qOP Ae path)&&decide (((ts.map tupI).flatMap qK5).Nodup))=true:=e;rw[C6] at i;have a:=F5.mp i.1 (tupI s) (C3.mpr ⟨s,c,rfl⟩);have k:qOP Ae path (tupI s)=_:=qN5 g f;rw[k,C6,C6] at a;exact⟨g,j,f,a.1.1,a.1.2,λx m=>of_decide_eq_true (F5.mp a.2 x m)⟩
def qXJ:Sp:=λvs H Q _=>∃i:Int,vs=[.int i]/\Q (.bl true) H
def qPY:Sp:=λvs H Q _=>E2 λ(i e:Int)=>vs=[.int i,.int e]/\0<=i/\i<e/\Q (.bl true) H
def qJP:Sp:=λvs H Q _=>E4 λ(a t:Addr) (Ae:Aa0) (zs:List Int)=>vs=[.ref a,.ref t]/\NetAt H a Ae/\WFn Ae/\Ae.length<=60/\H t=some (.tup (zs.map V.int))/\zs≠[]/\zs.length<=60/\(∀z∈zs,0<=z/\z<(Ae.length:Int))/\qGA Ae zs=true/\∀H',Same H H'->Q (.bl true) H'
def qJ8:Sp:=λvs H Q _=>E7 λ(a t l:Addr) (Ae:Aa0) (path:List Int) (rss:List Addr) (ss:Aa0)=>vs=[.ref a,.ref t,.ref l]/\qFU H a t Ae path/\Ae.length<60/\path.length<=60/\H l=some (.lst (rss.map V.ref))/\L2.G.TupsAt H rss ss/\(∀s∈ss,SdT Ae path s)/\ss.flatten.Nodup/\ss.length<=Ae.length/\∀H',Same H H'->Q (.bl true) H'
def qN1:Sp:=λvs H Q _=>E6 λ(a t u:Addr) (Ae:Aa0) (path s:List Int)=>vs=[.ref a,.ref t,.ref u]/\qFU H a t Ae path/\Ae.length<60/\path.length<=60/\H u=some (.tup (s.map V.int))/\SdT Ae path s/\∀H',Same H H'->Q (.bl true) H'
section
variable{P:B90}{w:World}{K:Ab1}{mg:Ab0}{base:Heap}{f:Addr}{fd:C02}{qGY qF8 qGX qAE qF7 qF5 qGV qIC qHR qO4 qG7 qCA qG6 qBD qF6 qFM qFA qBE qC9 qUU qGZ qFO qMI qUT qPD qF9 qID qMH qFN:Addr}{qHO qKX qO3 qKW qIQ qO1 qP9 qLM qPC qHQ qD7 qKA qC7 qKV qME qKZ qC8 qD6 qa4 qHP qMG qUS qa3 qX2 qKY qPA qUR qMF:C02}{tk_MOST_PATHS tk_SOURCE tk_GOAL:Tok}
def sc_Lbegin:FnScope ["_law_script","_law_cells"] ["_law_script"] (qAC qJD):=qCF
theorem ok_Lbegin (F:Fun K "_law_begin" "_law_begin" qJD f fd) (qC0:mg "list" = none):FnOk P w K mg base CX0 1 f fd ["_law_script"] (qSX K):=by
 refine F.okA sc_Lbegin λa0 A z s H vs Q E hr h=>?_;obtain⟨a,n,rfl,hS,o,q⟩:=h;have hu:=qGT hr;have u:=hr.units0;refine⟨_,(qA4 (qAK (i:=1) sc_Lbegin.nd rfl (G2 rfl) (qAO qIS rfl qC0 qDB (qA0 (qDI qLX (pv 0) qEZ (qEY qA6)) qA2))) (qA4 (qB6 (qAM (qTP u) (pv 1) (qAY qA2) (qAQ _)) (qA5 (qAK (i:=1) sc_Lbegin.nd rfl (G2 rfl) (qAY (qA0 qA6 qA2)))) qAI) (qA5 (qAG (qM4 (qG1 qJV (pv 1) (qG1 qJV qA6 qM3)) rfl rfl (by simp) (by decide)))))),_,rfl,_,rfl,a,_,rfl,hS,λp hp=>?_⟩
 rw[qDK];have hl:(cutI n none (some 63)).length<=63:=L5 (qX6 _ _ _) o;refine⟨p,_,rfl,.inl (Ab2 qA1),λc v=>?_⟩;have s1:Same H (Ag (Ag H p (.lst ((cutI n none (some 63)).map V.int))) c (.lst ((cutI n none (some 63)).map V.int))):=(qA3 hp _).trans (qA3 v _);refine⟨_,rfl,(by show 0<=B89;decide),λe m=>?_⟩
 have k:c≠e:=qA9 qA1 m;refine⟨c,e,_,rfl,rfl,Ab2 (by rw[qA8 k];exact qA1),Ab2 qA1,_,rfl,?_⟩
 have j:=s1.trans (qA3 m (.lst []));cases hm:cutI n none (some 63) with
 |nil=>
  rw[hm] at j m;refine iteT ⟨(by show 1<=B89;decide),λy l=>?_⟩
  have t:=j.trans (qA3 l (.lst [.int 7]));intro d g;refine⟨_,rfl,?_⟩;have s4:=t.trans (qA3 g (.dK []));refine⟨qA1,[(P6 (J7 "cells"),.ref y),(P6 (J7 "turn"),.int 0)],rfl,(by show 2<=15;decide),?_⟩
  have b:y≠d:=qA9 qA1 g;refine q d y [7] _ ⟨?_,?_,by decide,by decide,by decide⟩ ?_ ?_ ?_
  ·rw[qA1,qXT]
  ·rw[qA8 b,qA8 b];exact qA1
  ·rw[qI2];exact t.trans (qA3 g _)
  ·exact t.free g
  ·exact j.free l
 |cons x r=>
  rw[hm] at j m hl;refine iteF ?_;intro d g;refine⟨_,rfl,qA1,[(P6 (J7 "cells"),.ref c),(P6 (J7 "turn"),.int 0)],rfl,(by show 2<=15;decide),?_⟩
  have gc:(Ag (Ag (Ag H p (.lst ((x::r).map V.int))) c (.lst ((x::r).map V.int))) e (.lst [])) c=some (.lst ((x::r).map V.int)):=by rw[qA8 k];exact qA1
  have b:c≠d:=qA9 gc g;refine q d c (x::r) _ ⟨?_,?_,by simp,hl,by decide⟩ ?_ ?_ ?_
  ·rw[qA1,qXT]
  ·rw[qA8 b,qA8 b];exact gc
  ·rw[qI2];exact j.trans (qA3 g _)
  ·exact j.free g
  ·rw[hm] at v;exact(qA3 hp _).free v
def sc_Ltake:FnScope ["_law_state","_law_many_here","_law_turn","_law_place","_law_cell","_law_digit","_law_mixed"] ["_law_state","_law_many_here"] (qAC qLZ):=qCF
theorem ok_Ltake (F:Fun K "_law_take" "_law_take" qLZ f fd) (qB5:mg "len" = none) (a0:mg "divmod" = none):FnOk P w K mg base CX0 1 f fd ["_law_state","_law_many_here"] qL5:=by
 refine F.okA sc_Ltake λa6 A a1 s H vs Q E hr h=>?_;obtain⟨d,c,t,g,m,rfl,S,ht,a3,a7,q⟩:=h;have v:=qGT hr;refine⟨_,(qA4 (qAK (i:=2) sc_Ltake.nd rfl (G2 rfl) (qAN qCG (qCU v (pv 0) qJV (λ_ _=>rfl)) qA6)) (qA4 (qEX v (pv 0) qJV (pv 2) rfl) (qA4 (qAK (i:=3) sc_Ltake.nd rfl (G2 rfl) (qAN qJY (pv 2) (qA7 qAD rfl qB5 qBA (qA0 (qCU v (pv 0) qJV (λ_ _=>rfl)) qA2)))) (qA4 (qAK (i:=4) sc_Ltake.nd rfl (G2 rfl) (qB7 qCL (qCU v (pv 0) qJV (λ_ _=>rfl)) (pv 3) (λ_ _=>rfl))) (qA4 (qB6 (qAM qWE (pv 4) (qAN qbU qA6 qA6) (qAQ _)) (qA4 (qbH (qA7 qPK rfl a0 qVJ (qA0 (pv 4) (qA0 (pv 1) qA2))) (qL9 rfl (qB2 (qbK (qCU v (pv 0) qJV (λ_ _=>rfl)) (pv 3) qW1) (qB2 (qAS (i:=5) sc_Ltake.nd rfl (G2 rfl)) qEE)))) (qA5 (qAG (pv 5)))) qAI) (qA4 (qAK (i:=6) sc_Ltake.nd rfl (G2 rfl) (qAN qJY (qAN qE8 (qAN qCG (qAN qCG (qAN qJY (pv 4) qA6) (qAN qE8 (qAN qE8 (pv 2) (pv 2)) qA6)) qA6) qA6) qA6)) (qA4 (qAK (i:=6) sc_Ltake.nd rfl (G2 rfl) (qAN qJY (qAN qE8 (pv 6) (pv 6)) qA6)) (qA5 (qAG (qAN qJY (qAN qI8 (qAN qJY (qAN qE8 (qAN qCG (pv 6) (qAN qE8 (pv 2) qA6)) qA6) qA6) qA6) (pv 1))))))))))),?_⟩;have a2:=S.pos;have a5:=S.ne;have a4:t<=1000000000:=ht;refine⟨_,rfl,d,_,rfl,qaB S,_,_,rfl,rfl,_,rfl,_,rfl,d,_,rfl,qaA S,?_⟩;have l:=S.turn (u:=t+1) (by lia)
 have k1:Keep d c H (Ag H d (.dK [(P6 (J7 "cells"),.ref c),(P6 (J7 "turn"),.int (t+1))])):=λb o e n _=>by rw[qA8 n];exact e
 generalize Ag H d (.dK [(P6 (J7 "cells"),.ref c),(P6 (J7 "turn"),.int (t+1))])=H1 at l k1;have k:(((g.map V.int).length:Nat):Int)=(g.length:Int):=by rw[A0]
 refine⟨_,rfl,_,rfl,d,_,rfl,qMK l,c,_,rfl,.inl (Ab2 l.list),_,_,rfl,rfl,(by rw[k];lia),?_⟩
 have p0:0<=(t+1)%(((g.map V.int).length:Nat):Int):=Y0 _ (by rw[k];lia)
 have p1:(t+1)%(((g.map V.int).length:Nat):Int)<(g.length:Int):=by
  have:=W4 (t+1) (b:=(((g.map V.int).length:Nat):Int)) (by rw[k];lia)
  rw[k] at this ⊢;exact this
 dsimp only;generalize (t+1)%(((g.map V.int).length:Nat):Int)=pl at p0 p1;obtain⟨j,rfl⟩:∃j:Nat,pl=(j:Int):=⟨pl.toNat,by lia⟩
 have hj:j<g.length:=by lia
 have r:atI (g.map V.int) (j:Int)=some (.int g[j]):=qVM (by rw[C0,A5 hj];rfl)
 refine⟨_,rfl,d,_,rfl,qMK l,_,rfl,c,_,_,_,rfl,rfl,Ab2 l.list,r,?_⟩;generalize hx:g[j]=x at r ⊢;refine⟨_,rfl,_,_,rfl,rfl,⟨by decide,by decide,by decide⟩,_,_,rfl,rfl,_,rfl,?_⟩
 refine ite2 (λ_=>?_) (λ_=>?_)
 ·-- a great cell
  refine⟨_,rfl,_,rfl,x,m,rfl,⟨by lia,by lia⟩,λp hp=>?_⟩
  have S2:=l.new hp (.tup [.int (x/m),.int (x%m)]);have a8:p≠c:=(qA9 l.list hp).symm;refine⟨p,_,rfl,Ac0 qA1,rfl,_,_,rfl,_,rfl,d,_,rfl,qMK S2,_,rfl,c,_,_,j,rfl,rfl,S2.list,qZT (by rw[A0];exact hj),_,_,rfl,rfl,_,rfl,?_⟩
  have e1:(g.map V.int).set j (.int (x/m))=(g.set j (x/m)).map V.int:=by rw[List.map_set]
  rw[e1];refine q (x%m) (g.set j (x/m)) _ (Y0 _ (by lia)) (W4 _ (by lia)) (S2.put (by rw[B41])) ?_
  have k2:=k1.trans (qF0 (d:=d) (c:=c) hp (.tup [.int (x/m),.int (x%m)]));exactλb o e n1 n2=>by rw[qA8 n2];exact k2 b o e n1 n2
 ·have b1:0<=x%2147483629:=Y0 _ (by decide)
  have b2:x%2147483629<2147483629:=W4 _ (by decide)
  refine⟨_,rfl,_,_,rfl,rfl,(by show(0:Int)<2147483629;decide),_,rfl,_,rfl,_,_,rfl,rfl,.inl ⟨by lia,by lia⟩,_,_,rfl,rfl,.inr ⟨by decide,by decide⟩,_,_,rfl,rfl,_,_,rfl,rfl,_,_,rfl,rfl,.inr ⟨by decide,by decide⟩,_,_,rfl,rfl,(by show(0:Int)<2147483647;decide),?_⟩
  have c1:=Y0 ((x%2147483629+(t+1)*(t+1)*7919+11)*48271) (b:=2147483647) (by decide)
  have c2:=W4 ((x%2147483629+(t+1)*(t+1)*7919+11)*48271) (b:=2147483647) (by decide)
  dsimp only;generalize ((x%2147483629+(t+1)*(t+1)*7919+11)*48271)%2147483647=y at c1 c2;refine⟨_,rfl,_,rfl,_,_,rfl,rfl,.inl ⟨by lia,by lia⟩,_,_,rfl,rfl,(by show(0:Int)<2147483587;decide),?_⟩
  dsimp only;generalize y*y%2147483587=z;exact⟨_,rfl,_,rfl,_,_,rfl,rfl,.inr ⟨by decide,by decide⟩,_,_,rfl,rfl,_,_,rfl,rfl,.inr ⟨by decide,by decide⟩,_,_,rfl,rfl,(by show(0:Int)<2147483629;decide),_,_,rfl,rfl,⟨by decide,by decide⟩,_,rfl,_,_,rfl,rfl,(by lia),q _ g _ (Y0 _ (by lia)) (W4 _ (by lia)) l k1⟩
def sc_Lsome_needs:FnScope ["_law_state","_law_k","_law_found","_law_turn","_law_far"] ["_law_state","_law_k"] (qAC qDF):=qCF
theorem ok_Lsome_needs (F:Fun K "_law_some_needs" "_law_some_needs" qDF f fd) (qBT:Clb P w K mg base 1 qGY qHO "_law_take" ["_law_state","_law_many_here"] qL5)
  (qBZ:mg "range" = none) (qH3:mg "min" = none) (qAU:mg "tuple" = none) (qBW:mg "sorted" = none) (ag:mg "set" = none):FnOk P w K mg base CX0 2 f fd ["_law_state","_law_k"] qON:=by
 refine F.okA sc_Lsome_needs λao A aj s H vs Q E hr h=>?_;obtain⟨d,c,t,ns,k,rfl,S,ht,aq,ar,q⟩:=h;have al:t<=1000000000-20:=ht;have am:Room 1 _:=hr;refine⟨_,(qA4 (qAK (i:=2) sc_Lsome_needs.nd rfl (G2 rfl) (qAY qA2)) (qA4 (qBU F0 rfl (qD3 rfl qBZ (qA0 (qB4 qBT hr rfl (qA0 (pv 0) (qA0 qA6 qA2))) qA2)) (qAS (i:=3) sc_Lsome_needs.nd rfl (G2 rfl)) (qA4 (qAK (i:=4) sc_Lsome_needs.nd rfl (G2 rfl) (qB7 qCL (qAY (qA0 (qA7 (qHU rfl) rfl qH3 qKJ (qA0 (pv 1) (qA0 qA6 qA2))) (qA0 (pv 1) qA2))) (qAN qI8 (qB4 qBT hr rfl (qA0 (pv 0) (qA0 qA6 qA2))) qA6) (λ_ _=>rfl))) (qA5 (qB6 (qAM qTO (pv 1) qA6 (qAQ _)) (qA5 (qBG (qEH C8 F2 F3 qB0 (pv 2) (qA0 (qAN qCY (qAN qCY (pv 1) qA6) (qB4 qBT hr rfl (qA0 (pv 0) (qA0 (pv 4) qA2)))) qA2)))) qAI)))) (qA5 (qAG (qAO qAZ rfl qAU qB9 (qA0 (qA7 (qFS rfl) rfl qBW qE0 (qA0 (qAO (qHT rfl) rfl ag qR1 (qA0 (pv 2) qA2)) qA2)) qA2)))))),cut λN0 ad=>⟨(by show 0<=B89;decide),λm l=>?_⟩⟩
 have S1:=S.new l (.lst []);have nd:m≠d:=(qA9 S.dict l).symm;have nc:m≠c:=(qA9 S.list l).symm;refine ad _ _ (cut λN1 ae=>⟨_,rfl,d,c,t,ns,5,rfl,S1,(by show t<=1000000000;lia),by decide,by decide,λj aa H1 j0 j5 S2 K2=>?_⟩)
 refine ⟨j,rfl,by lia,by lia,qHN (lo:=0) (n:=j.toNat) (fun i σ Hc=>E5 fun (g:Int) (ms fs:List Int) (v1 v2:Option V)=>σ=[some (.ref d),some (.int k),some (.ref m),v1,v2]/\StAt Hc d c g ms/\t<=g/\g<=t+1+2 * i/\Keep d c H Hc/\
  Hc m=some (.lst (fs.map V.int))/\fs.length<=i/\∀x∈fs,0<=x/\x<k)
  ⟨t+1,aa,[],none,none,rfl,S2,by lia,by lia,(qF0 l _).trans K2,K2 _ _ qA1 nd nc,A9 _,λ_ z=>nomatch z⟩ ?_ ?_⟩
 ·refineλi σ Hc hi a7=>opq λap a4=>?_;obtain⟨g,ms,fs,v1,v2,rfl,S3,a1,a2,K3,h3,l3,m3⟩:=a7;refine a4 ?_;have an:(i:Int)<5:=by lia
  -- far
  refine nmD λD1 d1 dr=>cut λM0 ah=>⟨_,rfl,k,4,rfl,_,rfl,(by show 2<=B89;decide),λp u=>?_⟩
  have S4:=S3.new u (.lst [.int (if(4:Int)<k then 4 else k),.int k])
  have ab:p≠d:=(qA9 S3.dict u).symm;have ac:p≠c:=(qA9 S3.list u).symm;refine⟨_,rfl,d,c,g,ms,4,rfl,S4,(by show g<=1000000000;lia),by decide,by decide,λk2 a3 H2 g0 g4 S5 K5=>?_⟩
  obtain⟨far,a0,ef⟩:=qdH (a:=if(4:Int)<k then 4 else k) (b:=k) g0 g4
  have ak:far<=k:=by rcases ef with e|e<;>(subst e;first|lia|(split<;>lia))
  have y:0<k->1<=far:=λhk=>by rcases ef with e|e<;>(subst e;first|lia|(split<;>lia))
  refine⟨_,_,rfl,rfl,⟨by decide,by decide⟩,p,_,_,_,rfl,rfl,Ab2 (K5 _ _ qA1 ab ac),a0,?_⟩
  have K6:=K3.trans ((qF0 (d:=d) (c:=c) u (.lst [.int (if(4:Int)<k then 4 else k),.int k])).trans K5)
  have h6:H2 m=some (.lst (fs.map V.int)):=K5 _ _ (by rw[qA8 (qA9 h3 u)];exact h3) nd nc
  refine ah _ _ ⟨_,rfl,_,_,rfl,rfl,_,rfl,ite2 (λck=>?_) (λck=>?_)⟩
  ·have hk:0<k:=of_decide_eq_true ck;refine⟨_,rfl,.inl ⟨rfl,_,Ab2 h6⟩,_,rfl,_,_,rfl,rfl,_,rfl,_,rfl,d,c,g+1,a3,far,rfl,S5,(by show g+1<=1000000000;lia),y hk,by lia,λk3 a8 H3 c0 c1 S6 K7=>?_⟩
   have h7:=K7 _ _ h6 nd nc;refine⟨_,_,rfl,rfl,m,_,_,rfl,rfl,h7,qBM (by rw[A0];lia),?_⟩
   have S8:StAt (Ag H3 m (.lst (fs.map V.int++[.int (k-1-k3)]))) d c (g+1+1) a8:=⟨by rw[qA8 (K9 nd)];exact S6.dict,by rw[qA8 (K9 nc)];exact S6.list,S6.ne,S6.len,S6.pos⟩
   have hH:H m=none:=l;refine d1 _ _ ⟨g+1+1,a8,fs++[k-1-k3],_,_,rfl,S8,by lia,by lia,λb o e n1 n2=>?_,?_,?_,λx hx=>?_⟩
   ·rw[qA8 (qA9 e hH)];exact(K6.trans K7) b o e n1 n2
   ·rw[qA1,B2];rfl
   ·rw[B0,C2];lia
   ·rcases C1.mp hx with hx|hx
    ·exact m3 x hx
    ·rw[A6.mp hx];lia
  ·exact d1 _ _ ⟨g+1,a3,fs,_,_,rfl,S5,by lia,by lia,K6,h6,by lia,m3⟩
 ·refineλσ Hc a6=>opq λas a5=>?_;obtain⟨g,ms,fs,v1,v2,rfl,S3,a1,a2,K3,h3,l3,m3⟩:=a6;refine a5 (ae _ _ ⟨_,rfl,m,fs,rfl,Ab2 h3,by lia,λa ha=>?_⟩)
  have af:=qA3 ha (SetM w a (dedI fs));refine⟨a,dedI fs,rfl,qA1,λb zs hb u hs=>?_⟩;have ai:=af.trans (qA3 hb (.lst (zs.map V.int)));refine⟨b,_,rfl,.inl ⟨Ab2 qA1,λr a9=>?_⟩⟩;have v:=ai.trans (qA3 a9 (.tup (zs.map V.int)));exact q r zs g ms _ (S3.same v) (by lia) (by lia) (K3.trans (.of_same v)) qA1 (qQ5 u hs m3)
def sc_Ltree_net:FnScope ["_law_state","_law_many_here","_law_open_ones","_law_found","_law_k","_law_so_many"] ["_law_state","_law_many_here"] (qAC qEV):=qCF
theorem ok_Ltree_net (F:Fun K "_law_tree_net" "_law_tree_net" qEV f fd) (qBT:Clb P w K mg base 1 qGY qHO "_law_take" ["_law_state","_law_many_here"] qL5)
  (qBZ:mg "range" = none) (qH3:mg "min" = none) (qAU:mg "tuple" = none) (qB5:mg "len" = none):FnOk P w K mg base CX0 2 f fd ["_law_state","_law_many_here"] qXI:=by
 refine F.okA sc_Ltree_net λb2 A av s H vs Q E hr h=>?_;obtain⟨d,c,t,ns,m,rfl,S,ht,ay,aw,q⟩:=h;have ax:t<=1000000000-1000:=ht;have b0:Room 1 _:=hr;refine⟨_,(qA4 (qAK (i:=2) sc_Ltree_net.nd rfl (G2 rfl) (qAY qA2)) (qA4 (qAK (i:=3) sc_Ltree_net.nd rfl (G2 rfl) (qAY qA2)) (qA4 (qBU F0 rfl (qD3 rfl qBZ (qA0 (qAN qCY (pv 1) qA6) qA2)) (qAS (i:=4) sc_Ltree_net.nd rfl (G2 rfl)) (qA4 (qAK (i:=5) sc_Ltree_net.nd rfl (G2 rfl) (qA7 (qHU rfl) rfl qH3 qKJ (qA0 (qA7 qAD rfl qB5 qBA (qA0 (pv 2) qA2)) (qA0 (qB7 qCL (qAY (qA0 qA6 (qA0 qA6 (qA0 qA6 (qA0 qA6 (qA0 qA6 (qA0 qA6 qA2))))))) (qB4 qBT hr rfl (qA0 (pv 0) (qA0 qA6 qA2))) (λ_ _=>rfl)) qA2)))) (qA4 (qBG (qEH C8 F2 F3 qB0 (pv 3) (qA0 (qAO qAZ rfl qAU qB9 (qA0 (qDI qLX (pv 2) (qEY (qAN qCY (qA7 qAD rfl qB5 qBA (qA0 (pv 2) qA2)) (pv 5))) qEZ) qA2)) qA2))) (qA5 (qAK (i:=2) sc_Ltree_net.nd rfl (G2 rfl) (qAN qTQ (qDI qLX (pv 2) qEZ (qEY (qAN qCY (qA7 qAD rfl qB5 qBA (qA0 (pv 2) qA2)) (pv 5)))) (qAY (qA0 (pv 4) qA2)))))))) (qA5 (qAG (qAO qAZ rfl qAU qB9 (qA0 (qAN qTQ (pv 3) (qAY (qA0 (qAO qAZ rfl qAU qB9 (qA0 (pv 2) qA2)) qA2))) qA2))))))),cut λN0 an=>⟨(by show 0<=B89;decide),λo0 a3=>an _ _ (cut λN1 ap=>?_)⟩⟩
 have S1:=S.new a3 (.lst []);refine⟨(by show 0<=B89;decide),λj a0=>?_⟩
 have S2:=S1.new a0 (.lst []);have nd:j ≠ d:=(qA9 S1.dict a0).symm;have nc:j ≠ c:=(qA9 S1.list a0).symm;have a8:o0 ≠ j:=qA9 qA1 a0;have hF:H j=none:=(qA3 a3 _).free a0;refine ap _ _ (cut fun N2 ak=>?_);refine ⟨_,rfl,_,_,rfl,rfl,m - 1,rfl,by lia,by lia,qHN (lo:=0) (n:=(m - 1).toNat) (fun i σ Hc=>E8 fun (t':Int) (ms os:List Int) (o:Addr) (rs:List Addr) (Ae:Aa0) (v1 v2:Option V)=>σ=[some (.ref d),some (.int m),some (.ref o),some (.ref j),v1,v2]/\StAt Hc d c t' ms/\t<=t'/\t'<=t+i/\Keep d c H Hc/\
  Hc o=some (.lst (os.map V.int))/\(o≠j/\o≠c)/\Hc j=some (.lst (rs.map V.ref))/\NetL Hc rs Ae/\Ae.length=i/\WFn Ae/\Rise (i:Int) os)
  ⟨t,ns,[],o0,[],[],none,none,rfl,S2,by lia,by lia,(qF0 a3 _).trans (qF0 a0 _),by rw[qA8 a8];exact qA1,⟨a8,(qA9 S.list a3).symm⟩,qA1,.nil,rfl,WFn.nil,Rise.nil⟩ ?_ ?_⟩
 ·refineλi σ Hc hi aa=>opq λb1 ad=>?_;obtain⟨t',ms,os,o,rs,Ae,v1,v2,rfl,S3,a1,a2,K3,h3,⟨n3,ac⟩,f3,N3,l3,w3,r3⟩:=aa;refine ad ?_;have az:os.length<=i:=r3.len;refine nmD λD1 d1 dr=>cut λM0 ar=>⟨_,rfl,o,_,rfl,.inl (Ab2 h3),(by show 6<=B89;decide),λp hp=>?_⟩
  have S4:=S3.new hp (.lst [.int 0,.int 0,.int 1,.int 2,.int 2,.int 3]);have ah:p≠d:=(qA9 S3.dict hp).symm;have am:p≠c:=(qA9 S3.list hp).symm;refine⟨_,rfl,d,c,t',ms,6,rfl,S4,(by show t'<=1000000000;lia),by decide,by decide,λk2 a7 H2 g0 g6 S5 K5=>?_⟩
  obtain⟨v,hv,v0,v3⟩:=qdG g0 g6;refine⟨p,_,_,_,rfl,rfl,Ab2 (K5 _ _ qA1 ah am),hv,?_⟩;have sm:Same Hc (Ag Hc p (.lst [.int 0,.int 0,.int 1,.int 2,.int 2,.int 3])):=qA3 hp _;have K6:=(Keep.of_same (d:=d) (c:=c) sm).trans K5;have af:o≠d:=qCK h3 S3.dict (by intro z;cases z)
  have h6:H2 o=some (.lst (os.map V.int)):=K6 _ _ h3 af ac;have f6:H2 j=some (.lst (rs.map V.ref)):=K6 _ _ f3 nd nc;have N6:NetL H2 rs Ae:=N3.keep (λr zs e=>S3.tup e) K6;refine⟨_,_,rfl,?_⟩;dsimp only;have ai:0<=(if v<(((os.map V.int).length:Nat):Int) then v else(((os.map V.int).length:Nat):Int)):=by split<;>lia
  have as:(if v<(((os.map V.int).length:Nat):Int) then v else(((os.map V.int).length:Nat):Int))<=(os.length:Int):=by rw[A0];split<;>lia
  generalize (if v<(((os.map V.int).length:Nat):Int) then v else(((os.map V.int).length:Nat):Int))=so at ai as
  obtain⟨g,ek⟩:∃g:Nat,(os.length:Int)-so=(g:Int):=⟨((os.length:Int)-so).toNat,by lia⟩
  have ab:(((os.map V.int).length:Nat):Int)-so=(g:Int):=by rw[A0];exact ek
  have al:g<=os.length:=by lia
  -- found.append(tuple(open_ones[len(open_ones)-so_many:]))
  refine ar _ _ (cut λM1 au=>⟨_,rfl,.inl ⟨rfl,_,Ab2 f6⟩,_,rfl,_,rfl,o,_,rfl,.inl (Ab2 h6),_,rfl,_,_,rfl,rfl,_,rfl,o,_,rfl,Ab2 h6,λp1 ag=>⟨p1,_,rfl,.inl ⟨Ab2 qA1,λr a4=>?_⟩⟩⟩);rw[ab,qDK,qEL _ _ al] at a4 ⊢;have l:=(qA3 ag (.lst ((os.drop g).map V.int))).trans (qA3 a4 (.tup ((os.drop g).map V.int)));have f7:=l _ _ f6;have h7:=l _ _ h6;have N7:NetL _ (rs++[r]) (Ae++[os.drop g]):=qB3 (N6.same λr zs e=>l _ _ e) (show(Ag (Ag H2 p1 (.lst ((os.drop g).map V.int))) r (.tup ((os.drop g).map V.int))) r=some (.tup ((os.drop g).map V.int)) from qA1);have S7:=S5.same l;have K7:=K6.trans (.of_same l);generalize (Ag (Ag H2 p1 (.lst ((os.drop g).map V.int))) r (.tup ((os.drop g).map V.int)))=H7 at f7 h7 N7 S7 K7 ⊢;refine⟨j,_,_,rfl,rfl,f7,qBM (by rw[A0,NetAt.len N3];lia),?_⟩
  have e8:rs.map V.ref++[V.ref r]=(rs++[r]).map V.ref:=by rw[B2];rfl
  rw[e8];have S8:StAt (Ag H7 j (.lst ((rs++[r]).map V.ref))) d c (t'+1) a7:=⟨by rw[qA8 (K9 nd)];exact S7.dict,by rw[qA8 (K9 nc)];exact S7.list,S7.ne,S7.len,S7.pos⟩
  have h8:(Ag H7 j (.lst ((rs++[r]).map V.ref))) o=some (.lst (os.map V.int)):=by rw[qA8 n3];exact h7
  have N8:NetL (Ag H7 j (.lst ((rs++[r]).map V.ref))) (rs++[r]) (Ae++[os.drop g]):=N7.same λr' zs e=>by rw[qA8 (qCK e f7 (by intro z;cases z))];exact e
  have K8:Keep d c H (Ag H7 j (.lst ((rs++[r]).map V.ref))):=λb u e n1 n2=>by rw[qA8 (qA9 e hF)];exact(K3.trans K7) b u e n1 n2
  have f8:(Ag H7 j (.lst ((rs++[r]).map V.ref))) j=some (.lst ((rs++[r]).map V.ref)):=qA1;generalize Ag H7 j (.lst ((rs++[r]).map V.ref))=H8 at S8 h8 N8 K8 f8 ⊢
  -- open_ones=open_ones[:len(open_ones)-so_many]+[k]
  refine au _ _ ⟨_,rfl,_,rfl,o,_,rfl,.inl (Ab2 h8),_,rfl,_,_,rfl,rfl,_,rfl,o,_,rfl,Ab2 h8,λp2 y=>?_⟩;rw[ab,qDK,qV6];refine⟨_,rfl,(by show 1<=B89;decide),λp3 a5=>?_⟩
  have ao:p2≠p3:=qA9 qA1 a5;refine⟨p2,p3,_,_,rfl,rfl,by rw[qA8 ao];exact qA1,qA1,Z8 (qBM (by rw[A0,D3,C2];lia)),λp4 a6=>?_⟩
  have x:=((qA3 y (.lst ((os.take g).map V.int))).trans (qA3 a5 (.lst [.int (0+(i:Int))]))).trans (qA3 a6 (.lst ((os.take g).map V.int++[.int (0+(i:Int))])));have e9:(os.take g).map V.int++[V.int (0+(i:Int))]=(os.take g++[(i:Int)]).map V.int:=by rw[B2,A21];rfl
  have aq:p4≠j:=(qA9 ((qA3 a5 _) _ _ ((qA3 y _) _ _ f8)) a6).symm;have aj:p4≠c:=(qA9 ((qA3 a5 _) _ _ ((qA3 y _) _ _ S8.list)) a6).symm;refine d1 _ _ ⟨t'+1,a7,os.take g++[(i:Int)],p4,rs++[r],Ae++[os.drop g],_,_,rfl,S8.same x,by lia,by lia,K8.trans (.of_same x),by rw[<- e9];exact qA1,⟨aq,aj⟩,x _ _ f8,N8.same λr' zs e=>x _ _ e,by rw[B0,C2,l3],w3.snoc ?_,?_⟩
  ·rw[l3];exact r3.sub (d5 _ _)
  ·have:=(r3.sub (c8 g os)).snoc (by lia)
   rw[show((i+1:Nat):Int)=(i:Int)+1 by lia]
   exact this
 ·refineλσ Hc a9=>opq λb3 ae=>?_;obtain⟨t',ms,os,o,rs,Ae,v1,v2,rfl,S3,a1,a2,K3,h3,⟨n3,ac⟩,f3,N3,l3,w3,r3⟩:=a9;refine ae (ak _ _ ⟨_,rfl,_,rfl,o,_,rfl,.inl ⟨Ab2 h3,λr a4=>⟨(by show 1<=B89;decide),λp hp=>?_⟩⟩⟩)
  have l:=(qA3 a4 (.tup (os.map V.int))).trans (qA3 hp (.lst [.ref r]));refine⟨j,p,_,_,rfl,rfl,l _ _ f3,qA1,Z8 (qBM (by rw[A0,NetAt.len N3,C2];lia)),λp2 y=>⟨p2,_,rfl,.inl ⟨Ab2 qA1,λa ha=>?_⟩⟩⟩
  have x:=(l.trans (qA3 y (.lst (rs.map V.ref++[.ref r])))).trans (qA3 ha (.tup (rs.map V.ref++[.ref r])));have gr:=(qA3 ha (.tup (rs.map V.ref++[.ref r]))) _ _ ((qA3 y (.lst (rs.map V.ref++[.ref r]))) _ _ ((qA3 hp (.lst [.ref r])) r _ (qA1 (H:=Hc) (o:=.tup (os.map V.int)))));have e8:rs.map V.ref++[V.ref r]=(rs++[r]).map V.ref:=by rw[B2];rfl
  refine q a (Ae++[os]) t' ms _ (S3.same x) (by lia) (by lia) (K3.trans (.of_same x)) ⟨rs++[r],by rw[<- e8];exact qA1,qB3 (N3.same λr' zs e=>x _ _ e) gr⟩ (w3.snoc (by rw[l3];exact r3)) ?_
  rw[B0,C2,l3]
  lia
def sc_Lnet:FnScope ["_law_state","_law_many_here","_law_way","_law_wide","_law_some","_law_half"] ["_law_state","_law_many_here"] (qAC qQ1):=qCF
theorem ok_Lnet (F:Fun K "_law_net" "_law_net" qQ1 f fd) (qBT:Clb P w K mg base 1 qGY qHO "_law_take" ["_law_state","_law_many_here"] qL5)
  (be:Clb P w K mg base 2 qF8 qKX "_law_some_needs" ["_law_state","_law_k"] qON)
  (bv:Clb P w K mg base 2 qGX qO3 "_law_tree_net" ["_law_state","_law_many_here"] qXI)
  (qBZ:mg "range" = none) (cc:mg "max" = none) (qGF:mg "int" = none) (c6:mg "enumerate" = none) (qAU:mg "tuple" = none) (qBW:mg "sorted" = none) (ce:mg "set" = none):FnOk P w K mg base CX0 3 f fd ["_law_state","_law_many_here"] qb5:=by
 refine F.okA sc_Lnet λcz A cj s H vs Q E hr h=>?_;obtain⟨d,c,t,ns,m,rfl,S,ht,bx,bu,q⟩:=h;have cs:t<=1000000000-10000:=ht;have cu:Room 2 _:=hr;have d0:Room 2 _:=hr;refine⟨_,(qA4 (qAK (i:=2) sc_Lnet.nd rfl (G2 rfl) (qB4 qBT hr rfl (qA0 (pv 0) (qA0 qA6 qA2)))) (qA4 (qAK (i:=3) sc_Lnet.nd rfl (A90 rfl) (qAN qCG qA6 (qB4 qBT hr rfl (qA0 (pv 0) (qA0 qA6 qA2))))) (qA4 (qB6 (qAM qGB (pv 2) qA6 (qAQ _)) (qA5 (qAG (qAO qAZ rfl qAU qB9 (qA0 (qDA rfl (lcs (own:=["_law_k"]) (fv:=[3]) (by kernel_rfl)) (qD3 rfl qBZ (qA0 (pv 1) qA2)) (λz1=>qCH 0) (λz1=>qAW) (λz1=>(qAO (qL1 rfl) rfl qAU qB9 (qA0 (qAO qVE rfl qBZ qR2 (qA0 (qA7 (qKI rfl) rfl cc qR3 (qA0 qA6 (qA0 (qAN qCY (pv 0) (pv 1)) qA2))) (qA0 (pv 0) qA2))) qA2)))) qA2)))) qAI) (qA4 (qB6 (qAM qGB (pv 2) qA6 (qAQ _)) (qA4 (qZ3 (i:=4) sc_Lnet.nd rfl rfl rfl (lcs (own:=["_law_k"]) (fv:=[3]) (by kernel_rfl)) (qD3 rfl qBZ (qA0 (pv 1) qA2)) (λz2=>qCH 0) (λz2=>qAW) (λz2=>(qAN qTQ (qAN qTK (qAY (qA0 (qAN qCY (pv 0) (pv 1)) qA2)) (qAO qHV rfl qGF qKK (qA0 (qCI qWE (pv 0) (pv 1) (qAQ _)) qA2))) (qAN qTK (qAY (qA0 (qAN qCY (pv 0) qA6) qA2)) (qAO qHV rfl qGF qKK (qA0 (qCI qTO (qAN qJY (pv 0) (pv 1)) qA6 (qAQ _)) qA2))))) (by kernel_rfl)) (qA5 (qAG (qAO qAZ rfl qAU qB9 (qA0 (qDA rfl (lcs (own:=["_law_needs"]) (fv:=[]) (by kernel_rfl)) (qBV (pv 4)) (λz3=>qCH 0) (λz3=>qAW) (λz3=>(qAO (qKG (K:=K) rfl) rfl qAU qB9 (qA0 (qA7 (qMO (w:=w) rfl rfl) rfl qBW qE0 (qA0 (qAO (qS2 (K:=K) (w:=w) rfl rfl rfl) rfl ce qR1 (qA0 (pv 0) qA2)) qA2)) qA2)))) qA2))))) qAI) (qA4 (qB6 (qAM qGB (pv 2) qA6 (qAQ _)) (qA5 (qAG (qB4 bv hr rfl (qA0 (pv 0) (qA0 (pv 1) qA2))))) qAI) (qA4 (qB6 (qAM qGB (pv 2) qA6 (qAQ _)) (qA4 (qAK (i:=5) sc_Lnet.nd rfl (A90 rfl) (qAN qI8 (pv 1) qA6)) (qA4 (qZ3 (i:=4) sc_Lnet.nd rfl rfl rfl (lcs (own:=["_law_k"]) (fv:=[0,5]) (by kernel_rfl)) (qD3 rfl qBZ (qA0 (pv 1) qA2)) (λz4=>qCH 0) (λz4=>qAW) (λz4=>(qB4 be hr rfl (qA0 (pv 1) (qA0 (qJE (qAM qRJ (pv 0) (pv 2) (qAQ _)) (pv 0) (qAN qCY (pv 0) (pv 2))) qA2)))) (by kernel_rfl)) (qA5 (qAG (qAO qAZ rfl qAU qB9 (qA0 (qDA rfl (lcs (own:=["_law_k","_law_needs"]) (fv:=[5]) (by kernel_rfl)) (qZ8 rfl c6 qIT (qA0 (pv 4) qA2)) (λz5=>qJU (K:=K) (n:=2) rfl rfl (qB2 (qCH 0) (qB2 (qCH 1) qEE)) rfl rfl) (λz5=>qAW) (λz5=>(qJE (qAM qRJ (pv 0) (pv 2) (qAQ _)) (pv 1) (qAO (qKG (K:=K) rfl) rfl qAU qB9 (qA0 (qDA (X:=lcCx _ _ _ _ z5) rfl (lcs (own:=["_law_n"]) (fv:=[2]) (by kernel_rfl)) (qZ6 (K:=K) rfl (pv 1)) (λz6=>qCH 0) (λz6=>qAW) (λz6=>(qAN qCG (pv 0) (pv 1)))) qA2))))) qA2)))))) qAI) (qA5 (qAG (qAO qAZ rfl qAU qB9 (qA0 (qDA rfl (lcs (own:=["_law_k"]) (fv:=[0]) (by kernel_rfl)) (qD3 rfl qBZ (qA0 (pv 1) qA2)) (λz7=>qCH 0) (λz7=>qAW) (λz7=>(qB4 be hr rfl (qA0 (pv 1) (qA0 (pv 0) qA2))))) qA2)))))))))),cut λN1 cd=>⟨_,rfl,d,c,t,ns,8,rfl,S,(by show t<=1000000000;lia),by decide,by decide,λcw bw H1 w0 w8 S1 K1=>?_⟩⟩
 refine cd _ _ (cut λN2 c4=>⟨_,rfl,d,c,t+1,bw,4,rfl,S1,(by show t+1<=1000000000;lia),by decide,by decide,λwd ag H2 d4 cv S2 K2=>⟨_,_,rfl,rfl,?_⟩⟩)
 dsimp only;have af:=K1.trans K2;generalize hwide:(1:Int)+wd=g;have d5:1<=g:=by lia
 have cr:g<=4:=by lia
 refine c4 _ _ (cut λN3 cg=>⟨_,rfl,rfl,_,rfl,ite2 (λ_=>?_) (λ_=>?_)⟩)
 ·refine⟨_,rfl,m,rfl,by lia,by lia,λp hp=>?_⟩
  refine qJF (p:=p) (lo:=0) (n:=m.toNat) (λi σ Hc=>E3 λ(v:Option V) (rs:List Addr) (Ae:Aa0)=>σ=[v,some (.int g)]/\Same H2 Hc/\Hc p=some (.lst (rs.map V.ref))/\NetL Hc rs Ae/\Ae.length=i/\WFn Ae) ?_ ?_ ?_
  ·exact⟨none,[],[],rfl,qA3 hp _,qA1,.nil,rfl,WFn.nil⟩
  ·refineλi σ Hc hi br=>opq λd1 bb=>?_;obtain⟨v,rs,Ae,rfl,sm,l,N,hl,wf⟩:=br;refine bb ⟨_,rfl,_,rfl,_,_,rfl,rfl,0,_,rfl,_,rfl,_,_,rfl,λp1 b8=>?_⟩;refine⟨p1,_,_,rfl,qA1,by split<;>lia,by split<;>lia,by lia,by lia,λr a9=>?_⟩
   have c3:0<=(if(0+(i:Int))-g>0 then(0+(i:Int))-g else 0):=by split<;>lia
   have bt:=qOU (hi:=0+(i:Int)) c3;dsimp only;rw[qJS];generalize qAJ (if(0+(i:Int))-g>0 then(0+(i:Int))-g else 0) (0+(i:Int))=o at bt ⊢
   generalize HO.rng (if(0+(i:Int))-g>0 then(0+(i:Int))-g else 0) (0+(i:Int))=ho at b8 a9 ⊢
   have u:=(qA3 b8 ho).trans (qA3 a9 (.tup (o.map V.int)));have g1:=u _ _ l;refine⟨_,g1,qBM (by rw[A0,NetAt.len N];lia),?_⟩
   rw[qBO];refine⟨_,rs++[r],Ae++[o],rfl,qAB (sm.trans u) hp,qA1,qBL (qB3 (N.same λr' ys e=>u _ _ e) qA1) g1,by rw[B0,C2,hl],wf.snoc ?_⟩
   rw[hl];exact bt.mono (by lia)
  ·refineλσ Hc bl=>opq λd3 bk=>?_;obtain⟨v,rs,Ae,rfl,sm,l,N,hl,wf⟩:=bl;refine bk ⟨p,_,rfl,.inl ⟨Ab2 l,λa ha=>?_⟩⟩;have u:=qA3 ha (.tup (rs.map V.ref));exact q a Ae (t+1+1) ag _ (S2.same (sm.trans u)) (by lia) (by lia) (af.trans (.of_same (sm.trans u))) ⟨rs,qA1,N.same λr ys e=>u _ _ e⟩ wf (by rw[hl];lia)
 refine cg _ _ (cut λN4 c9=>⟨_,rfl,rfl,_,rfl,ite2 (λ_=>?_) (λ_=>?_)⟩)
 ·refine⟨_,rfl,m,rfl,by lia,by lia,λp hp=>?_⟩
  refine qJF (p:=p) (lo:=0) (n:=m.toNat) (fun i σ Hc=>E3 fun (v:Option V) (rs:List Addr) (ls:Aa0)=>σ=[v,some (.int g)]/\Same H2 Hc/\Hc p=some (.lst (rs.map V.ref))/\Paired (fun r o=>r ≠ p/\Hc r=some (.lst (o.map V.int))) rs ls/\ls.length=i/\
   ∀(j:Nat) o,ls[j]?=some o->o.length<=2/\∀x∈o,0<=x/\x<(j:Int)) ?_ ?_ ?_
  ·exact⟨none,[],[],rfl,qA3 hp _,qA1,.nil,rfl,λj o e=>by simp at e⟩
  ·refineλi σ Hc hi bj=>opq λcy bo=>?_;obtain⟨v,rs,ls,rfl,sm,l,N,hl,wf⟩:=bj;refine bo ⟨_,rfl,_,rfl,_,_,rfl,rfl,(by show 1<=B89;decide),λa1 c8=>⟨_,rfl,_,rfl,_,_,rfl,rfl,.inr ⟨_,rfl,?_⟩⟩⟩
   refine⟨a1,_,_,rfl,rfl,qA1,by split<;>decide,by split<;>decide,?_,λa2 ch=>?_⟩
   ·have:∀b:Bool,[V.int (0+(i:Int)-g)].length*(if b=true then(1:Int) else 0).toNat<=B89:=by intro b;cases b<;>simp[B94]
    exact this _
   dsimp only;rw[qbE];refine⟨_,rfl,_,_,rfl,rfl,(by show 1<=B89;decide),λa3 bi=>⟨_,rfl,_,rfl,_,_,rfl,rfl,(by show 0<g;lia),_,_,rfl,rfl,.inr ⟨_,rfl,?_⟩⟩⟩
   refine⟨a3,_,_,rfl,rfl,qA1,by split<;>decide,by split<;>decide,?_,λa4 b9=>?_⟩
   ·have:∀b:Bool,[V.int (0+(i:Int)-1)].length*(if b=true then(1:Int) else 0).toNat<=B89:=by intro b;cases b<;>simp[B94]
    exact this _
   dsimp only;rw[qbE];have b1:∀x∈(if decide (g<=0+(i:Int))=true then[0+(i:Int)-g] else[]),0<=x/\x<(i:Int):=by
    intro x hx
    split at hx
    ·rename_i hd
     have:=of_decide_eq_true hd;rw[A6.mp hx];lia
    ·cases hx
   have b2:∀x∈(if decide (0<(0+(i:Int))%g)=true then[0+(i:Int)-1] else[]),0<=x/\x<(i:Int):=by
    intro x hx
    split at hx
    ·rename_i hd
     have b4:=of_decide_eq_true hd;have:(i:Int)≠0:=by
      intro e;rw[e] at b4;simp at b4
     rw[A6.mp hx];lia
    ·cases hx
   have c1:(if decide (g<=0+(i:Int))=true then[0+(i:Int)-g] else[]).length<=1:=by split<;>simp
   have c2:(if decide (0<(0+(i:Int))%g)=true then[0+(i:Int)-1] else[]).length<=1:=by split<;>simp
   generalize (if decide (g<=0+(i:Int))=true then[0+(i:Int)-g] else[])=z1 at b1 c1 bi b9 ⊢
   generalize (if decide (0<(0+(i:Int))%g)=true then[0+(i:Int)-1] else[])=z2 at b2 c2 ⊢
   have s2:=(qA3 bi (.lst [.int (0+(i:Int)-1)])).trans (qA3 b9 (.lst (z2.map V.int)));refine⟨a2,a4,_,_,rfl,rfl,s2 _ _ qA1,qA1,Z8 (qBM (by rw[A0,A0];lia)),λa5 bs=>?_⟩
   have u:=(qA3 c8 (.lst [.int (0+(i:Int)-g)])).trans (qA3 ch (.lst (z1.map V.int)));have s3:=(u.trans s2).trans (qA3 bs (.lst (z1.map V.int++z2.map V.int)));have e5:z1.map V.int++z2.map V.int=(z1++z2).map V.int:=by rw[B2]
   rw[e5] at s3 ⊢;have g1:=s3 _ _ l;have n5:a5≠p:=(qA9 ((u.trans s2) _ _ l) bs).symm;refine⟨_,g1,qBM (by rw[A0,B4 N];lia),?_⟩
   rw[qBO];refine⟨_,rs++[a5],ls++[z1++z2],rfl,qAB (sm.trans s3) hp,qA1,A03 (qI7 N λr o e=>⟨e.1,by rw[qA8 e.1];exact s3 _ _ e.2⟩) ⟨n5,by rw[qA8 n5];exact qA1⟩,by rw[B0,C2,hl],λj o e=>?_⟩
   rcases qQ0 e with e|⟨rfl,rfl⟩
   ·exact wf j o e
   ·rw[hl];refine⟨by rw[B0];lia,λx hx=>?_⟩
    rcases C1.mp hx with hx|hx
    ·exact b1 x hx
    ·exact b2 x hx
  ·refineλσ Hc bc=>opq λd7 bp=>?_;obtain⟨v,rs,ls,rfl,sm,l,N,hl,wf⟩:=bc;refine bp ⟨_,rfl,p,rfl,⟨_,Ab2 l⟩,λp' ab=>qDT (p:=p') (a:=p) (xs:=rs.map V.ref) (λi σ Hd=>E3 λ(v:Option V) (rs':List Addr) (Ae:Aa0)=>σ=[v]/\Same Hc Hd/\Hd p'=some (.lst (rs'.map V.ref))/\NetL Hd rs' Ae/\Ae.length=i/\WFn Ae) ?_ ?_ ?_ ?_⟩
   ·exact⟨none,[],[],rfl,qA3 ab _,qA1,.nil,rfl,WFn.nil⟩
   ·rintro i σ Hd hi ⟨v,rs',Ae,rfl,sm2,_⟩;exact Ab2 (sm2 _ _ l)
   ·refineλi x σ Hd hx b6=>opq λct bq=>?_;obtain⟨v,rs',Ae,rfl,sm2,aa,N2,a0,a8⟩:=b6;obtain⟨r,a9,rfl⟩:=qB8 hx;obtain⟨o,hz,_,ay⟩:=qAH N a9;obtain⟨l2,m2⟩:=wf i o hz;refine bq ⟨_,rfl,r,o,rfl,Ab2 (sm2 _ _ ay),by lia,λa ha=>?_⟩
    refine⟨a,dedI o,rfl,qA1,λb ys hb c0 hs=>⟨b,_,rfl,.inl ⟨Ab2 qA1,λr2 ax=>?_⟩⟩⟩;have u:=((qA3 ha (SetM w a (dedI o))).trans (qA3 hb (.lst (ys.map V.int)))).trans (qA3 ax (.tup (ys.map V.int)));have g1:=u _ _ aa;have cb:rs.length=m.toNat:=by rw[B4 N,hl]
    have hi:i<rs.length:=(A3.mp a9).1;refine⟨_,g1,qBM (by rw[A0,NetAt.len N2];lia),?_⟩
    rw[qBO];refine⟨_,rs'++[r2],Ae++[ys],rfl,qAB (sm2.trans u) ab,qA1,qBL (qB3 (N2.same λr' bh e=>u _ _ e) qA1) g1,by rw[B0,C2,a0],a8.snoc ?_⟩
    rw[a0];exact qQ5 c0 hs m2
   ·refineλσ Hd b7=>opq λd6 bd=>?_;obtain⟨v,rs',Ae,rfl,sm2,aa,N2,a0,a8⟩:=b7;refine bd ⟨p',_,rfl,.inl ⟨Ab2 aa,λa ha=>?_⟩⟩;have u:=qA3 ha (.tup (rs'.map V.ref));refine q a Ae (t+1+1) ag _ (S2.same ((sm.trans sm2).trans u)) (by lia) (by lia) (af.trans (.of_same ((sm.trans sm2).trans u))) ⟨rs',qA1,N2.same λr ys e=>u _ _ e⟩ a8 ?_
    rw[a0,A0,B4 N,hl]
    lia
 refine c9 _ _ (cut λN5 ca=>⟨_,rfl,rfl,_,rfl,ite2 (λ_=>?_) (λ_=>?_)⟩)
 ·refine⟨_,rfl,_,rfl,d,c,t+1+1,ag,m,rfl,S2,?_,bx,bu,λa Ae t' ms H' a1 a2 a3 a4 a5 a6 a7=>?_⟩
  ·show t+1+1<=1000000000-1000;lia
  ·exact q a Ae t' ms H' a1 (by lia) (by lia) (af.trans a4) a5 a6 a7
 refine ca _ _ (cut λN6 c7=>⟨_,rfl,rfl,_,rfl,ite2 (λ_=>?_) (λ_=>?_)⟩)
 ·refine⟨_,rfl,_,_,rfl,rfl,⟨by decide,by decide⟩,?_⟩
  dsimp only;have b5:0<=m/2:=by lia
  have ci:m/2<=m:=by lia
  generalize m/2=k at b5 ci;refine⟨_,rfl,m,rfl,by lia,by lia,λp hp=>?_⟩
  refine qJF (p:=p) (lo:=0) (n:=m.toNat) (fun i σ Hc=>E5 fun (v:Option V) (t':Int) (ms:List Int) (rs:List Addr) (Ae:Aa0)=>σ=[v,some (.ref d),some (.int k)]/\StAt Hc d c t' ms/\t+2<=t'/\t'<=t+2+9 * i/\Keep d c H2 Hc/\Hc p=some (.lst (rs.map V.ref))/\NetL Hc rs Ae/\Ae.length=i/\
   ∀(j:Nat) o,Ae[j]?=some o->Rise (if(j:Int)<k then(j:Int) else(j:Int)-k) o) ?_ ?_ ?_
  ·exact⟨none,t+1+1,ag,[],[],rfl,S2.new hp _,by lia,by lia,qF0 hp _,qA1,.nil,rfl,λj o e=>by simp at e⟩
  ·refine fun i σ Hc hi bm=>opq fun cx bg=>?_;obtain ⟨v,t',ms,rs,Ae,rfl,S3,b1,b2,k3,l,N,hl,wf⟩:=bm;refine bg ?_;have ac:p ≠ d:=(qA9 S2.dict hp).symm;have ae:p ≠ c:=(qA9 S2.list hp).symm;have nx:∀ (kk:Int),kk=(if (i:Int)<k then (i:Int) else (i:Int) - k)->qON [.ref d,.int kk] Hc (fun y H4=>∃ ys,H4 p=some (.lst ys)/\ys.length<B89/\E5 fun (v:Option V) (t':Int) (ms:List Int) (rs:List Addr) (Ae:Aa0)=>[some (V.int (0+(i:Int))),some (.ref d),some (.int k)]=[v,some (.ref d),some (.int k)]/\StAt (Ag H4 p (.lst (ys++[y]))) d c t' ms/\t+2<=t'/\t'<=t+2+9 * (i+1:Nat)/\Keep d c H2 (Ag H4 p (.lst (ys++[y])))/\(Ag H4 p (.lst (ys++[y]))) p=some (.lst (rs.map V.ref))/\NetL (Ag H4 p (.lst (ys++[y]))) rs Ae/\Ae.length=i+1/\
     ∀(j:Nat) o,Ae[j]?=some o->Rise (if(j:Int)<k then(j:Int) else(j:Int)-k) o) E0:=by
    intro kk ek;refine⟨d,c,t',ms,kk,rfl,S3,(by show t'<=1000000000-20;lia),by rw[ek];split<;>lia,by rw[ek];split<;>lia,λr o am al H3 e1 e2 e3 e4 e5 e6=>?_⟩
    have g1:=e4 _ _ l ac ae;refine⟨_,g1,qBM (by rw[A0,NetAt.len N];lia),?_⟩
    rw[qBO];refine⟨_,am,al,rs++[r],Ae++[o],rfl,⟨by rw[qA8 (K9 ac)];exact e1.dict,by rw[qA8 (K9 ae)];exact e1.list,e1.ne,e1.len,e1.pos⟩,by lia,by lia,qQL (k3.trans e4) hp,qA1,qBL (qB3 (N.keep (λr ys e=>S3.tup e) e4) e5) g1,by rw[B0,C2,hl],λj ys e=>?_⟩
    rcases qQ0 e with e|⟨rfl,rfl⟩
    ·exact wf j ys e
    ·rw[hl,<- ek];exact e6
   refine⟨_,rfl,_,rfl,_,rfl,_,_,rfl,rfl,_,rfl,ite2 (λck=>?_) (λck=>?_)⟩
   ·have ad:0+(i:Int)<k:=of_decide_eq_true ck;exact⟨_,rfl,nx _ (by rw[if_pos (by lia)];lia)⟩
   ·have ad:¬0+(i:Int)<k:=of_decide_eq_false (U0.mpr ck);exact⟨_,rfl,_,rfl,_,_,rfl,rfl,nx _ (by rw[if_neg (by lia)];lia)⟩
  ·refineλσ Hc bn=>opq λd2 bf=>?_;obtain⟨v,t',ms,rs,Ae,rfl,S3,b1,b2,k3,l,N,hl,wf⟩:=bn;refine bf ?_;have cb:rs.length=m.toNat:=by rw[B4 N,hl]
   refine⟨_,rfl,p,rfl,⟨_,Ab2 l⟩,λp' ab=>qZP (p:=p') (a:=p) (xs:=rs.map V.ref) (λi σ Hd=>E4 λ(v1 v2:Option V) (rs':List Addr) (net':Aa0)=>σ=[v1,v2,some (.int k)]/\Same Hc Hd/\Hd p'=some (.lst (rs'.map V.ref))/\NetL Hd rs' net'/\net'.length=i/\WFn net') ?_ ?_ ?_ ?_⟩
   ·exact⟨none,none,[],[],rfl,qA3 ab _,qA1,.nil,rfl,WFn.nil⟩
   ·rintro i σ Hd hi ⟨v1,v2,rs',net',rfl,sm2,_⟩;exact Ab2 (sm2 _ _ l)
   ·refineλi x σ Hd T hx as hT=>opq λcl ar=>?_;obtain⟨v1,v2,rs',net',rfl,sm2,aa,N2,a0,a8⟩:=as;obtain⟨r,a9,rfl⟩:=qB8 hx;obtain⟨o,hz,ay⟩:=qAH N a9;refine ar ?_;have hi:i<rs.length:=(A3.mp a9).1;have rz:=wf i o hz;have sT:=qA3 hT (.tup [.int (i:Int),.ref r]);have ah:=sT _ _ (sm2 _ _ ay);have ai:=sT _ _ aa;have NT:=N2.same λr' bh e=>sT _ _ e;have az:=sm2.trans sT;have gT:SqT K (Ag Hd T (.tup [.int (i:Int),.ref r])) T [.int (i:Int),.ref r]:=Ac0 qA1;generalize Ag Hd T (.tup [.int (i:Int),.ref r])=bz at ah ai NT az gT ⊢;refine⟨T,_,rfl,gT,rfl,_,_,rfl,_,_,rfl,rfl,_,rfl,_,rfl,_,_,rfl,rfl,_,rfl,ite2 (λck=>?_) (λck=>?_)⟩
    ·have ad:(i:Int)<k:=of_decide_eq_true ck;rw[if_pos ad] at rz;refine⟨_,rfl,_,ai,qBM (by rw[A0,NetAt.len N2];lia),?_⟩
     rw[qBO];refine⟨_,_,rs'++[r],net'++[o],rfl,qAB az ab,qA1,qBL (qB3 NT ah) ai,by rw[B0,C2,a0],a8.snoc ?_⟩
     rw[a0];exact rz
    ·have ad:¬(i:Int)<k:=of_decide_eq_false (U0.mpr ck);rw[if_neg ad] at rz;have lz:o.length<=i:=by
      have e:((i:Int)-k)=(((i:Int)-k).toNat:Nat):=by lia
      rw[e] at rz;have:=rz.len
      lia
     refine⟨_,rfl,r,rfl,⟨_,Ac0 ah⟩,λp2 ba=>qGE (p:=p2) (a:=r) (xs:=o.map V.int) (λj σ He=>∃(v:Option V),σ=[v,some (.int k)]/\Same bz He/\He p2=some (.lst (((o.take j).map (·+k)).map V.int))) ?_ ?_ ?_ ?_⟩
     ·exact⟨none,rfl,qA3 ba _,qA1⟩
     ·rintro j σ He hj ⟨v,rfl,sm3,_⟩;exact Ac0 (sm3 _ _ ah)
     ·refineλj x σ He c5 b3=>opq λcp an=>?_;obtain⟨v,rfl,sm3,aj⟩:=b3;obtain⟨z,cf,rfl⟩:=qAV c5;refine an ⟨_,rfl,_,rfl,_,_,rfl,rfl,_,aj,qBM (by rw[A0,A0,D3];lia),_,rfl,qAB sm3 ba,?_⟩
      rw[qA1,C5,cf,D8,B2,B2]
      rfl
     ·refineλσ He au=>opq λcn aq=>?_;obtain⟨v,rfl,sm3,aj⟩:=au;refine aq ?_;rw[A0,F7 (A9 _)] at aj;refine⟨p2,_,rfl,.inl ⟨Ab2 aj,λr2 ax=>?_⟩⟩;have u:=qA3 ax (.tup ((o.map (·+k)).map V.int));have s2:=sm3.trans u;have g1:=s2 _ _ ai;refine⟨_,g1,qBM (by rw[A0,NetAt.len N2];lia),?_⟩
      rw[qBO];refine⟨_,_,rs'++[r2],net'++[o.map (·+k)],rfl,qAB (az.trans s2) ab,qA1,qBL (qB3 (NT.same λr' bh e=>s2 _ _ e) qA1) g1,by rw[B0,C2,a0],a8.snoc ?_⟩
      rw[a0];have:=rz.shift b5;rw[show(i:Int)-k+k=(i:Int) by lia] at this
      exact this
   ·refineλσ Hd av=>opq λcm ao=>?_;obtain⟨v1,v2,rs',net',rfl,sm2,aa,N2,a0,a8⟩:=av;refine ao ⟨p',_,rfl,.inl ⟨Ab2 aa,λa ha=>?_⟩⟩;have u:=qA3 ha (.tup (rs'.map V.ref));refine q a net' t' ms _ (S3.same (sm2.trans u)) (by lia) (by lia) (af.trans (k3.trans (.of_same (sm2.trans u)))) ⟨rs',qA1,N2.same λr ys e=>u _ _ e⟩ a8 ?_
    rw[a0,A0,B4 N,hl]
    lia
 refine c7 _ _ ⟨_,rfl,m,rfl,by lia,by lia,λp hp=>?_⟩
 refine qJF (p:=p) (lo:=0) (n:=m.toNat) (λi σ Hc=>E5 λ(v:Option V) (t':Int) (ms:List Int) (rs:List Addr) (Ae:Aa0)=>σ=[v,some (.ref d)]/\StAt Hc d c t' ms/\t+2<=t'/\t'<=t+2+9*i/\Keep d c H2 Hc/\Hc p=some (.lst (rs.map V.ref))/\NetL Hc rs Ae/\Ae.length=i/\WFn Ae) ?_ ?_ ?_
 ·exact⟨none,t+1+1,ag,[],[],rfl,S2.new hp _,by lia,by lia,qF0 hp _,qA1,.nil,rfl,WFn.nil⟩
 ·refineλi σ Hc hi ak=>opq λcq ap=>?_;obtain⟨v,t',ms,rs,Ae,rfl,S3,b1,b2,k3,l,N,hl,wf⟩:=ak;refine ap ?_;have ac:p≠d:=(qA9 S2.dict hp).symm;have ae:p≠c:=(qA9 S2.list hp).symm;refine⟨_,rfl,_,rfl,d,c,t',ms,0+(i:Int),rfl,S3,(by show t'<=1000000000-20;lia),by lia,by lia,λr o am al H3 e1 e2 e3 e4 e5 e6=>?_⟩
  have g1:=e4 _ _ l ac ae;refine⟨_,g1,qBM (by rw[A0,NetAt.len N];lia),?_⟩
  rw[qBO];refine⟨_,am,al,rs++[r],Ae++[o],rfl,⟨by rw[qA8 (K9 ac)];exact e1.dict,by rw[qA8 (K9 ae)];exact e1.list,e1.ne,e1.len,e1.pos⟩,by lia,by lia,qQL (k3.trans e4) hp,qA1,qBL (qB3 (N.keep (λr ys e=>S3.tup e) e4) e5) g1,by rw[B0,C2,hl],wf.snoc ?_⟩
  rw[hl];exact e6.mono (by lia)
 ·refineλσ Hc aw=>opq λco b0=>?_;obtain⟨v,t',ms,rs,Ae,rfl,S3,b1,b2,k3,l,N,hl,wf⟩:=aw;refine b0 ⟨p,_,rfl,.inl ⟨Ab2 l,λa ha=>?_⟩⟩;have u:=qA3 ha (.tup (rs.map V.ref));exact q a Ae t' ms _ (S3.same u) (by lia) (by lia) (af.trans (k3.trans (.of_same u))) ⟨rs,qA1,N.same λr ys e=>u _ _ e⟩ wf (by rw[hl];lia)
def qW3:FnScope ["_law_found","_law_due_here"] ["_law_found","_law_due_here"] (qAC qJQ):=qCF
def spS:Nat->Sp
 |0=>λ_ _ _ _=>False
 |n+1=>qb4 n
theorem ok_Lsame_step {n:Nat} {a0:Addr} {a5:C02} (F:Fun K "_law_same" "_law_same" qJQ f fd) (ad:FnOk P w K mg base CX0 n a0 a5 ["_law_found","_law_due_here"] (spS n)) (qH0:Binds K a5 ["_law_found","_law_due_here"] []) (qMA:J1 K (.ref a0)=true) (qGS:mg "_law_same" = some (.ref a0))
  (qAA:mg "isinstance" = none) (qC0:mg "list" = none) (qAU:mg "tuple" = none) (qSD:mg "str" = none) (qGF:mg "int" = none) (qIJ:mg "bool" = none) (qB5:mg "len" = none) (qH4:mg "all" = none) (qIX:mg "zip" = none):FnOk P w K mg base CX0 (n+1) f fd ["_law_found","_law_due_here"] (spS (n+1)):=by
 refine F.okA qW3 λah A af s H vs Q E hr h=>?_;obtain⟨x,y,rfl,a1,q⟩:=h;have ae:Room n _:=hr;refine⟨_,(qA4 (qB6 (qIM (qXS (pv 1))) (qA5 (qAG (qbN (qXS (pv 0))))) qAI) (qA4 (qB6 (PW.pt (qHB (qC1 (qA7 qAP rfl qAA qAF (qA0 (pv 1) (qA0 (qBH (v:=.ty "list") rfl qC0 qDB rfl) qA2)))) (qEG (qC1 (qA7 qAP rfl qAA qAF (qA0 (pv 1) (qA0 (qBH (v:=.ty "tuple") rfl qAU qB9 rfl) qA2))))))) (qA4 (qB6 (qAM qKS (qA7 qAP rfl qAA qAF (qA0 (pv 0) (qA0 (qBH (v:=.ty "list") rfl qC0 qDB rfl) qA2))) (qA7 qAP rfl qAA qAF (qA0 (pv 1) (qA0 (qBH (v:=.ty "list") rfl qC0 qDB rfl) qA2))) (qAQ _)) (qA5 (qAG qCJ)) qAI) (qA4 (qB6 (PW.pt (qHB (qAM qKS (qA7 qAP rfl qAA qAF (qA0 (pv 0) (qA0 (qBH (v:=.ty "tuple") rfl qAU qB9 rfl) qA2))) (qA7 qAP rfl qAA qAF (qA0 (pv 1) (qA0 (qBH (v:=.ty "tuple") rfl qAU qB9 rfl) qA2))) (qAQ _)) (qEG (qAM qKS (qA7 qAD rfl qB5 qBA (qA0 (pv 0) qA2)) (qA7 qAD rfl qB5 qBA (qA0 (pv 1) qA2)) (qAQ _))))) (qA5 (qAG qCJ)) qAI) (qA5 (qAG (qA7 (qFB rfl) rfl qH4 qKL (qA0 (qDA rfl (lcs (own:=["_law_one","_law_other"]) (fv:=[]) (by kernel_rfl)) (qNG rfl qIX qO7 (qA0 (pv 0) (qA0 (pv 1) qA2))) (λz1=>qJU (K:=K) (n:=2) rfl rfl (qB2 (qCH 0) (qB2 (qCH 1) qEE)) rfl rfl) (λz1=>qAW) (λz1=>(qDR ad ae rfl qGS qMA qH0 .nil qbR (qA0 (pv 0) (qA0 (pv 1) qA2))))) qA2)))))) qAI) (qA4 (qB6 (qC1 (qA7 qAP rfl qAA qAF (qA0 (pv 1) (qA0 (qBH (v:=.ty "str") rfl qSD qY9 rfl) qA2)))) (qA5 (qAG (qGD (qA7 qAP rfl qAA qAF (qA0 (pv 0) (qA0 (qBH (v:=.ty "str") rfl qSD qY9 rfl) qA2))) (qIN (qCI qGB (pv 0) (pv 1) (qAQ _)))))) qAI) (qA5 (qAG (qGD (qA7 qAP rfl qAA qAF (qA0 (pv 0) (qA0 (qBH (v:=.ty "int") rfl qGF qKK rfl) qA2))) (qGD (qTD (qA7 qAP rfl qAA qAF (qA0 (pv 0) (qA0 (qBH (v:=.ty "bool") rfl qIJ qPL rfl) qA2)))) (qIN (qCI qGB (pv 0) (pv 1) (qAQ _)))))))))),?_⟩
 have a6:x=y/\Leaf x\/∃(m:Nat) (b:Bool) (a c:Addr) (xs ys:List V),n=m+1/\x=.ref a/\y=.ref c/\H a=some (seqO b xs)/\H c=some (seqO b ys)/\xs.length=ys.length/\xs.length<=100000/\∀(i:Nat) (x' y':V),xs[i]?=some x'->ys[i]?=some y'->Alike H m x' y':=by
  cases n with
  |zero=>exact .inl a1
  |succ m=>
   rcases a1 with h|⟨b,a,c,xs,ys,h⟩
   ·exact .inl h
   ·exact .inr ⟨m,b,a,c,xs,ys,rfl,h⟩
 rcases a6 with⟨rfl,hl⟩|⟨m,b,a,c,xs,ys,rfl,rfl,rfl,o,g,j,al,ac⟩
 ·refine⟨_,rfl,_,rfl,?_⟩;rcases hl with rfl|⟨i,rfl⟩|⟨y,rfl⟩
  ·exact⟨_,rfl,q H (Same.refl H)⟩
  ·refine⟨_,rfl,_,"list",_,false,rfl,TyOf.int i,qc8,_,rfl,_,rfl,_,"tuple",_,false,rfl,TyOf.int i,qc6,_,rfl,_,rfl,_,"str",_,false,rfl,TyOf.int i,qc7,_,rfl,_,rfl,_,"int",_,true,rfl,TyOf.int i,qc9,_,rfl,_,rfl,_,"bool",_,false,rfl,TyOf.int i,qcA,_,rfl,_,rfl,_,rfl,_,rfl,rfl,?_⟩;have e:decide (V.int i=V.int i)=true:=decide_eq_true rfl;have q':Q (.bl (decide (V.int i=V.int i))) H:=by rw[e];exact q H (Same.refl H)
   exact q'
  ·refine⟨_,rfl,_,"list",_,false,rfl,TyOf.str y,qc5,_,rfl,_,rfl,_,"tuple",_,false,rfl,TyOf.str y,qc4,_,rfl,_,rfl,_,"str",_,true,rfl,TyOf.str y,qXW,_,rfl,_,rfl,_,"str",_,true,rfl,TyOf.str y,qXW,_,rfl,_,rfl,_,rfl,rfl,?_⟩;have e:decide (V.str y=V.str y)=true:=decide_eq_true rfl;have q':Q (.bl (decide (V.str y=V.str y))) H:=by rw[e];exact q H (Same.refl H)
   exact q'
 ·have r:∀(i:Nat) (x' y':V) (Hi:Hp) (Q':VK) (E':XK),Same H Hi->xs[i]?=some x'->ys[i]?=some y'->(∀H',Same Hi H'->Q' (.bl true) H')->spS (m+1) [x',y'] Hi Q' E':=λi x' y' Hi Q' E' s e1 e2 k=>⟨x',y',rfl,(ac i x' y' e1 e2).same s,k⟩;have aj:∀(H1:Hp),Same H H1->Q (.bl true) H1:=q;have el:(!decide (V.int ((xs.length:Nat):Int)=V.int ((ys.length:Nat):Int)))=false:=by rw[j];simp
  cases b
  ·refine⟨_,rfl,_,rfl,_,rfl,_,"list",_,true,rfl,qJM g,qLF false,_,rfl,_,rfl,_,"list",_,true,rfl,qJM o,qLF false,_,rfl,_,"list",_,true,rfl,qJM g,qLF false,rfl,_,rfl,_,rfl,_,"tuple",_,false,rfl,qJM o,qHH false,_,rfl,_,"tuple",_,false,rfl,qJM g,qHH false,rfl,_,rfl,_,rfl,a,_,rfl,.inl (Ab2 o),_,rfl,c,_,rfl,.inl (Ab2 g),rfl,?_⟩;rw[el];refine⟨_,rfl,_,rfl,_,rfl,false,a,c,rfl,⟨_,SqB.of o⟩,⟨_,SqB.of g⟩,λp hp=>qXU (b:=false) (p:=p) (xs:=xs) (ys:=ys) j (λi σ Hi=>E2 λ(t z:Option V)=>σ=[t,z]/\Same H Hi/\Hi p=some (.lst ((C7 i true).map V.bl))) ⟨none,none,rfl,qA3 hp _,qA1⟩ (λi σ Hi _ ⟨_,_,_,sm,_⟩=>⟨SqB.of (sm _ _ o),SqB.of (sm _ _ g)⟩) ?_ ?_⟩
   ·refineλi x' y' σ Hi T ex ey a4 hT=>opq λam a2=>?_;obtain⟨t,z,rfl,sm,d⟩:=a4;refine a2 ?_;have li:i<xs.length:=(A3.mp ex).1;refine⟨T,_,rfl,Ac0 qA1,rfl,_,_,rfl,_,_,rfl,rfl,?_⟩;have s1:=sm.trans (qA3 hT (.tup [x',y']));refine⟨_,rfl,_,rfl,?_⟩;dsimp only[tNil,A49,A02];refine r i x' y' _ _ _ s1 ex ey λH' l=>⟨_,(l _ _ ((qA3 hT _) _ _ d)),?_,_,_,rfl,(λb u e=>by rw[qA8 (qA9 e hp)];exact(s1.trans l) b u e),?_⟩
    ·rw[A0,L8,B94];lia
    ·rw[qA1,qVK]
   ·refineλσ Hi ab=>opq λak a8=>?_;obtain⟨t,z,rfl,sm,d⟩:=ab;refine a8 ⟨p,_,rfl,Ab2 d,?_⟩;rw[qVO];exact q Hi sm
  ·refine⟨_,rfl,_,rfl,_,rfl,_,"list",_,false,rfl,qJM g,qLF true,_,rfl,_,rfl,_,"tuple",_,true,rfl,qJM g,qHH true,_,rfl,_,rfl,_,"list",_,false,rfl,qJM o,qLF true,_,rfl,_,"list",_,false,rfl,qJM g,qLF true,rfl,_,rfl,_,rfl,_,"tuple",_,true,rfl,qJM o,qHH true,_,rfl,_,"tuple",_,true,rfl,qJM g,qHH true,rfl,_,rfl,_,rfl,a,_,rfl,.inr (Ac0 o),_,rfl,c,_,rfl,.inr (Ac0 g),rfl,?_⟩;rw[el];refine⟨_,rfl,_,rfl,_,rfl,true,a,c,rfl,⟨_,SqB.of o⟩,⟨_,SqB.of g⟩,λp hp=>qXU (b:=true) (p:=p) (xs:=xs) (ys:=ys) j (λi σ Hi=>E2 λ(t z:Option V)=>σ=[t,z]/\Same H Hi/\Hi p=some (.lst ((C7 i true).map V.bl))) ⟨none,none,rfl,qA3 hp _,qA1⟩ (λi σ Hi _ ⟨_,_,_,sm,_⟩=>⟨SqB.of (sm _ _ o),SqB.of (sm _ _ g)⟩) ?_ ?_⟩
   ·refineλi x' y' σ Hi T ex ey a7 hT=>opq λai a9=>?_;obtain⟨t,z,rfl,sm,d⟩:=a7;refine a9 ?_;have li:i<xs.length:=(A3.mp ex).1;refine⟨T,_,rfl,Ac0 qA1,rfl,_,_,rfl,_,_,rfl,rfl,?_⟩;have s1:=sm.trans (qA3 hT (.tup [x',y']));refine⟨_,rfl,_,rfl,?_⟩;dsimp only[tNil,A49,A02];refine r i x' y' _ _ _ s1 ex ey λH' l=>⟨_,(l _ _ ((qA3 hT _) _ _ d)),?_,_,_,rfl,(λb u e=>by rw[qA8 (qA9 e hp)];exact(s1.trans l) b u e),?_⟩
    ·rw[A0,L8,B94];lia
    ·rw[qA1,qVK]
   ·refineλσ Hi a3=>opq λag aa=>?_;obtain⟨t,z,rfl,sm,d⟩:=a3;refine aa ⟨p,_,rfl,Ab2 d,?_⟩;rw[qVO];exact q Hi sm
theorem ok_Lsame (F:Fun K "_law_same" "_law_same" qJQ f fd) (qH0:Binds K fd ["_law_found","_law_due_here"] []) (qMA:J1 K (.ref f)=true) (qGS:mg "_law_same" = some (.ref f))
  (qAA:mg "isinstance" = none) (qC0:mg "list" = none) (qAU:mg "tuple" = none) (qSD:mg "str" = none) (qGF:mg "int" = none) (qIJ:mg "bool" = none) (qB5:mg "len" = none) (qH4:mg "all" = none) (qIX:mg "zip" = none) (n:Nat):FnOk P w K mg base CX0 n f fd ["_law_found","_law_due_here"] (spS n):=by
 induction n with
 |zero=>exact⟨λ_ _ _ _ h=>h.elim,λ_ _ _ _ _ _ _ _ _ _ _ _ _ h=>h.elim⟩
 |succ n ih=>exact ok_Lsame_step F ih qH0 qMA qGS qAA qC0 qAU qSD qGF qIJ qB5 qH4 qIX
def sc_Lmany:FnScope ["_law_state","_law_most","_law_way"] ["_law_state","_law_most"] (qAC qM0):=qCF
theorem ok_Lmany (F:Fun K "_law_many" "_law_many" qM0 f fd) (qBT:Clb P w K mg base 1 qGY qHO "_law_take" ["_law_state","_law_many_here"] qL5):FnOk P w K mg base CX0 2 f fd ["_law_state","_law_most"] qXK:=by
 refine F.okA sc_Lmany λa5 A x s H vs Q E j h=>?_;obtain⟨d,c,t,ns,m,rfl,S,ht,m9,a2,q⟩:=h;have a4:t<=1000000000-100:=ht;have a3:Room 1 _:=j;refine⟨_,(qA4 (qAK (i:=2) sc_Lmany.nd rfl (G2 rfl) (qB4 qBT j rfl (qA0 (pv 0) (qA0 qA6 qA2)))) (qA4 (qB6 (qAM qGB (pv 2) qA6 (qAQ _)) (qA5 (qAG (qAN qCY (pv 1) (qB4 qBT j rfl (qA0 (pv 0) (qA0 (qAN qI8 (pv 1) qA6) qA2)))))) qAI) (qA5 (qAG (qB7 qCL (qAY (qA0 (qAN qCG qA6 (qB4 qBT j rfl (qA0 (pv 0) (qA0 qA6 qA2)))) (qA0 qA6 (qA0 qA6 (qA0 qA6 (qA0 qA6 (qA0 qA6 (qA0 (qAN qCG qA6 (qB4 qBT j rfl (qA0 (pv 0) (qA0 qA6 qA2)))) qA2)))))))) (qAN qCY (pv 2) qA6) (λ_ _=>rfl)))))),_,rfl,d,c,t,ns,8,rfl,S,(by show t<=1000000000;lia),by decide,by decide,λk l H1 k0 k8 z K1=>?_⟩
 refine⟨_,rfl,rfl,_,rfl,ite2 (λck=>?_) (λck=>?_)⟩
 ·refine⟨_,rfl,_,rfl,_,rfl,_,_,rfl,rfl,⟨by decide,by decide⟩,d,c,t+1,l,m/2,rfl,z,(by show t+1<=1000000000;lia),by lia,by lia,λr g H2 a0 a1 o n=>⟨_,_,rfl,rfl,?_⟩⟩
  exact q _ _ g H2 (by lia) (by lia) o (by lia) (by lia) (K1.trans n)
 ·have nk:¬k=0:=λe=>(of_decide_eq_false (U0.mpr ck)) (by rw[e])
  refine⟨_,rfl,d,c,t+1,l,2,rfl,z,(by show t+1<=1000000000;lia),by decide,by decide,λr g H2 a0 a1 o n=>⟨_,_,rfl,rfl,?_⟩⟩
  refine⟨_,rfl,d,c,t+1+1,g,2,rfl,o,(by show t+1+1<=1000000000;lia),by decide,by decide,λy u H3 b0 b1 S3 K3=>⟨_,_,rfl,rfl,?_⟩⟩
  refine⟨(by show 7<=B89;decide),λp hp=>?_⟩
  have sp:=qA3 hp (.lst [.int (1+r),.int 3,.int 4,.int 5,.int 6,.int 7,.int (8+y)]);obtain⟨v,hv,v1,v9⟩:=qdF (a:=1+r) (b:=8+y) (k:=k-1) (by lia) (by lia) (by lia) (by lia)
  exact⟨_,rfl,_,_,rfl,rfl,p,_,_,_,rfl,rfl,Ab2 qA1,hv,q v _ u _ v1 (by lia) (S3.same sp) (by lia) (by lia) (((K1.trans n).trans K3).trans (.of_same sp))⟩
def sc_count_paths:FnScope ["net","work","counts","needs","count"] ["net","work"] (qAC qDE):=qCF
theorem ok_count_paths (F:Fun K "count_paths" "count_paths" qDE f fd) (m_MOST_PATHS:mg "MOST_PATHS" = some (.int 300 tk_MOST_PATHS)) (ad:mg "sum" = none) (qH3:mg "min" = none):FnOk P w K mg base CX0 1 f fd ["net","work"] qSW:=by
 refine F.okA sc_count_paths λal A ae s H vs Q E hr h=>?_;obtain⟨a,b,n,rfl,hN,wf,ah,w0,w1,q⟩:=h;refine⟨_,(qA4 (qAK (i:=2) sc_count_paths.nd rfl (A90 rfl) (qAY qA2)) (qA4 (qBU F0 rfl (qCT (qDI qYS (pv 0) qEZ (qEY (qAN qCG (pv 1) qA6)))) (qAS (i:=3) sc_count_paths.nd rfl (G2 rfl)) (qA4 (qAK (i:=4) sc_count_paths.nd rfl (G2 rfl) (qJE (qE7 (pv 3) (λ_=>rfl)) (qA7 (qMN rfl) rfl ad qVI (qA0 (qDA rfl (lcs (own:=["need"]) (fv:=[2]) (by kernel_rfl)) (qCT (pv 3)) (λz1=>qCH 0) (λz1=>qAW) (λz1=>(qB7 (qQM (K:=K) rfl) (pv 1) (pv 0) (λ_ _=>rfl)))) qA2)) qA6)) (qA5 (qBG (qEH C8 F2 F3 qB0 (pv 2) (qA0 (qA7 (qHU rfl) rfl qH3 qKJ (qA0 (pv 4) (qA0 (qAN qCG (qCO (v:=.int (300)) rfl m_MOST_PATHS ⟨_,rfl⟩) qA6) qA2))) qA2)))))) (qA5 (qAG (qB7 qCL (pv 2) (pv 1) (λ_ _=>rfl)))))),?_⟩
 obtain⟨rs,hA,NL⟩:=id hN;have ai:=B4 NL;refine cut λN0 ab=>⟨(by show 0<=B89;decide),λe u=>?_⟩
 have s1:=qA3 u (.lst []);have g1:(Ag H e (.lst [])) e=some (.lst (((qDZ b 0).map cap).map V.int)):=qA1;generalize Ag H e (.lst [])=H1 at s1 g1 ⊢;refine ab _ _ (cut λN1 af=>⟨_,rfl,_,rfl,_,_,rfl,rfl,_,rfl,a,_,rfl,Ac0 (s1 _ _ hA),λp H2 ext sq=>?_⟩);obtain⟨d,rfl⟩:∃d:Nat,n=(d:Int):=⟨n.toNat,by lia⟩
 rw[show(d:Int)+1=((d+1:Nat):Int) by lia,qDK,qV6] at sq
 have s2:Same H H2:=s1.trans ext;have g2:=ext _ _ g1;have lt:(rs.take (d+1)).length=d+1:=by rw[D3];lia
 refine⟨p,rfl,⟨_,sq⟩,qF3 (a:=p) (xs:=(rs.take (d+1)).map V.ref) (λi σ m=>E2 λ(v3 v4:Option V)=>σ=[some (.ref a),some (.int (d:Int)),some (.ref e),v3,v4]/\Same H m/\SqT K m p ((rs.take (d+1)).map V.ref)/\m e=some (.lst (((qDZ b i).map cap).map V.int))) ⟨none,none,rfl,s2,sq,g2⟩ (λi σ m _ ⟨_,_,_,_,sq,_⟩=>sq) ?_ ?_⟩
 ·refineλi x σ m hx a3=>opq λam a1=>?_;obtain⟨v3,v4,rfl,t,ac,g⟩:=a3;obtain⟨r,er,rfl⟩:=qB8 hx;refine a1 ?_;have hi:=(A3.mp er).1;rw[T3 (by lia)] at er
  obtain⟨ys,aa,k⟩:=qAH NL er;have rz:=wf i ys aa;have en:nd b (i:Int)=ys:=qBI (by rw[O0];exact aa)
  have ag:=rz.len;have e1:=qcT wf (z:=(i:Int)) (by lia)
  rw[en] at e1;have a9:∀Hd,Same m Hd->SqT K (Ag Hd e (.lst (((qDZ b (i+1)).map cap).map V.int))) p ((rs.take (d+1)).map V.ref):=λHd c=>by
   have z:=qVZ ac c;rcases z with(h|⟨o,h⟩)|h
   ·exact .inl (.inl (by rw[qA8 (qCK h (c _ _ g) (by intro z;cases z))];exact h))
   ·exact .inl (.inr ⟨o,by rw[qA8 (qCK h (c _ _ g) (by intro z;cases z))];exact h⟩)
   ·exact .inr h
  have ec:∀x:Int,cap x=cap (cn b (i:Int))->(((qDZ b i).map cap).map V.int++[V.int (if 301<x then 301 else x)])=((qDZ b (i+1)).map cap).map V.int:=λx ex=>by
   rw[qG8 (i+1),c6,B2,B2,B2,<- qG8 i];show _=_++[V.int (cap (cn b (i:Int)))];rw[<- ex]
   rfl
  refine cut λN2 a4=>⟨_,rfl,_,.inr (.inl ⟨_,Ac0 (t _ _ k),rfl⟩),?_⟩;cases ys with
  |nil=>
   refine iteF (a4 _ _ ⟨_,rfl,.inl ⟨rfl,_,Ab2 g⟩,_,rfl,_,_,rfl,rfl,1,301,rfl,e,_,_,rfl,rfl,g,qAL (by rw[A0,A0,qD8];lia),?_⟩)
   rw[ec 1 (by rw[e1];rfl)]
   exact⟨_,_,rfl,qAB t u,a9 m (.refl _),qA1⟩
  |cons y0 ys=>
   rw[if_pos (show(!((y0::ys).map V.int).isEmpty)=true from rfl)];rw[if_neg (by simp)] at e1
   generalize y0::ys=zs at k rz en ag e1 ⊢;refine⟨_,rfl,r,rfl,⟨_,Ac0 (t _ _ k)⟩,λpp hp=>qGE (p:=pp) (a:=r) (xs:=zs.map V.int) (λj σ Hd=>∃(v:Option V),σ=[v,some (.ref e)]/\Same m Hd/\Hd pp=some (.lst (((zs.take j).map λy=>cap (cn b y)).map V.int))) ?_ ?_ ?_ ?_⟩
   ·exact⟨none,rfl,qA3 hp _,qA1⟩
   ·rintro j σ Hd hj ⟨v,rfl,c,_⟩;exact Ac0 (c _ _ (t _ _ k))
   ·refineλj x σ Hd hx a5=>opq λak a6=>?_;obtain⟨v,rfl,c,l⟩:=a5;obtain⟨y,ey,rfl⟩:=qAV hx;refine a6 ?_;have hj:=(A3.mp ey).1;have yb:=rz.in_ y (B3 ey);have hg:atI (((qDZ b i).map cap).map V.int) y=some (.int (cap (cn b y))):=qBK yb.1 (by rw[C0,C0,qFR yb.1 yb.2];rfl)
    refine⟨_,rfl,_,rfl,e,_,_,_,rfl,rfl,Ab2 (c _ _ g),hg,_,l,qAL (by rw[A0,A0,D3];lia),_,rfl,qAB c hp,?_⟩
    rw[qA1,C5,ey,D8,B2,B2]
    rfl
   refineλσ Hd a2=>opq λaj a7=>?_;obtain⟨v,rfl,c,l⟩:=a2;refine a7 ?_;rw[A0,qJ5 rfl] at l;refine⟨pp,_,rfl,Ab2 l,a4 _ _ ⟨_,rfl,.inl ⟨rfl,_,Ab2 (c _ _ g)⟩,_,rfl,_,_,rfl,rfl,_,301,rfl,e,_,_,rfl,rfl,c _ _ g,qAL (by rw[A0,A0,qD8];lia),?_⟩⟩
   rw[ec _ e1.symm];exact⟨_,_,rfl,qAB (t.trans c) u,a9 Hd c,qA1⟩
 ·refineλσ m a8=>opq λan a0=>?_;obtain⟨v3,v4,rfl,t,_,g⟩:=a8;refine a0 (af _ _ ?_);rw[A0,lt] at g;have hg:atI (((qDZ b (d+1)).map cap).map V.int) (d:Int)=some (.int (cap (cn b (d:Int)))):=qBK w0 (by rw[C0,C0,qFR w0 (by lia)];rfl)
  exact⟨_,rfl,_,rfl,e,_,_,_,rfl,rfl,Ab2 g,hg,q _ t⟩
def sc_Lpath_count:FnScope ["_law_net_here","_law_work","_law_many_here","_law_needs"] ["_law_net_here","_law_work"] (qAC qDG):=qCF
theorem ok_Lpath_count (F:Fun K "_law_path_count" "_law_path_count" qDG f fd) (a7:mg "sum" = none) (a9:mg "max" = none):FnOk P w K mg base CX0 1 f fd ["_law_net_here","_law_work"] qPX:=by
 refine F.okA sc_Lpath_count λaf A ab s H vs Q E hr h=>?_;obtain⟨a,d,b,rfl,hN,wf,ac,w0,w1,q⟩:=h;refine⟨_,(qA4 (qAK (i:=2) sc_Lpath_count.nd rfl (A90 rfl) (qAY qA2)) (qA4 (qBU F0 rfl (qCT (pv 0)) (qAS (i:=3) sc_Lpath_count.nd rfl (G2 rfl)) (qA5 (qBG (qEH C8 F2 F3 qB0 (pv 2) (qA0 (qA7 (qKI rfl) rfl a9 qR3 (qA0 qA6 (qA0 (qA7 (qMN rfl) rfl a7 qVI (qA0 (qDA rfl (lcs (own:=["_law_need"]) (fv:=[2]) (by kernel_rfl)) (qCT (pv 3)) (λz2=>qCH 0) (λz2=>qAW) (λz2=>(qB7 (qQM (K:=K) rfl) (pv 1) (pv 0) (λ_ _=>rfl)))) qA2)) qA2))) qA2))))) (qA5 (qAG (qB7 qCL (pv 2) (pv 1) (λ_ _=>rfl)))))),?_⟩
 obtain⟨rs,hA,NL⟩:=id hN;have a8:=B4 NL;refine cut λN0 a6=>⟨(by show 0<=B89;decide),λc a2=>?_⟩
 have s1:=qA3 a2 (.lst []);have g1:(Ag H c (.lst [])) c=some (.lst ((qDZ d 0).map V.int)):=qA1;generalize Ag H c (.lst [])=H1 at s1 g1 ⊢;refine a6 _ _ (cut λN1 aa=>⟨_,rfl,a,rfl,⟨_,Ac0 (s1 _ _ hA)⟩,qF3 (a:=a) (xs:=rs.map V.ref) (λi σ n=>∃v3:Option V,σ=[some (.ref a),some (.int b),some (.ref c),v3]/\Same H n/\n c=some (.lst ((qDZ d i).map V.int))) ⟨none,rfl,s1,g1⟩ (λi σ n _ hP=>by obtain⟨_,_,g,_⟩:=hP;exact Ac0 (g _ _ hA)) ?_ ?_⟩)
 ·refineλi x σ n hx a0=>opq λah a3=>?_;obtain⟨v3,rfl,g,m⟩:=a0;obtain⟨r,er,rfl⟩:=qB8 hx;refine a3 ?_;have hi:=(A3.mp er).1;obtain⟨ys,a4,a5⟩:=qAH NL er;have rz:=wf i ys a4;have en:nd d (i:Int)=ys:=qBI (by rw[O0];exact a4)
  have ai:=rz.len;refine⟨_,rfl,.inl ⟨rfl,_,Ab2 m⟩,_,rfl,r,rfl,⟨_,Ac0 (g _ _ a5)⟩,λp hp=>qGE (p:=p) (a:=r) (xs:=ys.map V.int) (λj σ Hd=>∃(v:Option V),σ=[v,some (.ref c)]/\Same n Hd/\Hd p=some (.lst (((ys.take j).map (cn d)).map V.int))) ?_ ?_ ?_ ?_⟩
  ·exact⟨none,rfl,qA3 hp _,qA1⟩
  ·rintro j σ Hd hj ⟨v,rfl,sd,_⟩;exact Ac0 (sd _ _ (g _ _ a5))
  ·refineλj x σ Hd hx o=>opq λae a1=>?_;obtain⟨v,rfl,sd,e⟩:=o;obtain⟨y,ey,rfl⟩:=qAV hx;refine a1 ?_;have hj:=(A3.mp ey).1;have yb:=rz.in_ y (B3 ey);have hg:atI ((qDZ d i).map V.int) y=some (.int (cn d y)):=qBK yb.1 (by rw[C0,qFR yb.1 yb.2];rfl)
   refine⟨_,rfl,_,rfl,c,_,_,_,rfl,rfl,Ab2 (sd _ _ m),hg,_,e,qAL (by rw[A0,A0,D3];lia),_,rfl,qAB sd hp,?_⟩
   rw[qA1,C5,ey,D8,B2,B2]
   rfl
  refineλσ Hd t=>opq λag u=>?_;obtain⟨v,rfl,sd,e⟩:=t;refine u ?_;rw[A0,qJ5 rfl] at e;refine⟨p,_,rfl,Ab2 e,1,_,rfl,c,_,_,rfl,rfl,sd _ _ m,qAL (by rw[A0,qD8];lia),_,rfl,qAB (g.trans sd) a2,?_⟩
  rw[qA1];have e1:=qcS wf (z:=(i:Int)) (by lia)
  rw[en] at e1;rw[<- e1,qG8,qG8,c6,B2,B2]
  rfl
 ·refineλσ n l=>opq λad k=>?_;obtain⟨v3,rfl,g,m⟩:=l;refine k (aa _ _ ?_);rw[A0,a8] at m;have hg:atI ((qDZ d d.length).map V.int) b=some (.int (cn d b)):=qBK w0 (by rw[C0,qFR w0 w1];rfl)
  exact⟨_,rfl,_,rfl,c,_,_,_,rfl,rfl,Ab2 m,hg,q _ g⟩
theorem qZY {p:List Int} (h:p≠[]):atI (p.map V.int) 0=some (.int (hd p)):=by
 cases p with
 |nil=>exact absurd rfl h
 |cons x p=>exact qBK (J9 _) rfl
theorem qJG {r:Addr} {a:List Addr} :(((r::a).reverse.map V.ref)[((r::a).reverse.map V.ref).length-1]?=some (V.ref r))/\((r::a).reverse.map V.ref).dropLast=a.reverse.map V.ref:=by
 rw[d0,B2]
 constructor
 ·rw[B0,A0,A0];simp
 ·simp
def sc_all_paths:FnScope ["net","work","paths","begun","path","needs","need"] ["net","work"] (qAC qEU):=qCF
theorem ok_all_paths (F:Fun K "all_paths" "all_paths" qEU f fd) (qDL:Clb P w K mg base 1 qF7 qKW "count_paths" ["net","work"] qSW) (m_MOST_PATHS:mg "MOST_PATHS" = some (.int 300 tk_MOST_PATHS)) (qH5:XCls K qAE none) (qEK:mg "TooMany" = some (.ref qAE)) (qBW:mg "sorted" = none):FnOk P w K mg base (CX1 P w) 2 f fd ["net","work"] (qOM qAE):=by
 refine F.okX sc_all_paths (λvs H Q E h=>?_) (λbe A bc s H vs Q E hr h=>?_)
 ·obtain⟨a,g,c,rfl,_⟩:=h
  rfl
 obtain⟨a,g,c,rfl,hN,wf,ak,w0,w1,q,qE⟩:=h;have ao:=hr.units;refine⟨_,(qA4 (qB6 (qAM qTO (qB4 qDL hr rfl (qA0 (pv 0) (qA0 (pv 1) qA2))) (qCO (v:=.int (300)) rfl m_MOST_PATHS ⟨_,rfl⟩) (qAQ _)) (qA5 (qT6 rfl rfl qH5 rfl qEK (qA0 (qZ9 (qXQ (by decide) (qXR (qCO (v:=.int (300)) rfl m_MOST_PATHS ⟨_,rfl⟩) (qXQ (by decide) (qXR (pv 1) qbJ)))) (by decide)) qA2))) qAI) (qA4 (qAK (i:=2) sc_all_paths.nd rfl (G2 rfl) (qAY qA2)) (qA4 (qAK (i:=3) sc_all_paths.nd rfl (G2 rfl) (qAY (qA0 (qDQ (qA0 (pv 1) qA2)) qA2))) (qA4 (qEW own1 (qE7 (pv 3) (λ_=>rfl)) (qA4 (qAK (i:=4) sc_all_paths.nd rfl (G2 rfl) (qNH C8 v8 w5 qTW (pv 3))) (qA4 (qAK (i:=5) sc_all_paths.nd rfl (G2 rfl) (qB7 qBB (pv 0) (qB7 qBB (pv 4) qA6 (λ_ _=>rfl)) (λ_ _=>rfl))) (qA4 (qB6 (qC2 (qE7 (pv 5) (λ_=>rfl))) (qA5 (qBG (qEH C8 F2 F3 qB0 (pv 2) (qA0 (pv 4) qA2)))) qAI) (qA5 (qBU own1 rfl (qCT (pv 5)) (qAS (i:=6) sc_all_paths.nd rfl (G2 rfl)) (qA5 (qBG (qEH C8 F2 F3 qB0 (pv 3) (qA0 (qAN qOY (qDQ (qA0 (pv 6) qA2)) (pv 4)) qA2)))))))))) (qA5 (qAG (qA7 (L2.G.call_sortedTL rfl ao) rfl qBW qE0 (qA0 (pv 2) qA2)))))))),?_⟩
 obtain⟨rs,hA,NL⟩:=id hN;have bh:=B4 NL;refine cut λN0 b0=>⟨_,rfl,_,rfl,a,g,c,rfl,hN,wf,ak,w0,w1,λH1 s1=>⟨_,_,rfl,rfl,_,rfl,ite2 (λck=>?_) (λck=>?_)⟩⟩
 ·have av:300<cn g c:=by
   have:=of_decide_eq_true ck;unfold cap at this
   split at this<;>lia
  refine⟨300,rfl,⟨by decide,by decide⟩,_,rfl,_,rfl,⟨by lia,by lia⟩,λbk=>?_⟩
  exact⟨by show 1<=100;decide,qE av H1 s1⟩
 have a5:cn g c<=300:=by
  have z:¬cap (cn g c)>300:=λz=>ck (decide_eq_true z);unfold cap at z
  split at z<;>lia
 refine b0 _ _ (cut λN1 b4=>⟨(by show 0<=B89;decide),λk ad=>?_⟩)
 have s2:=s1.trans (qA3 ad (.lst []));have ap:H k=none:=s1.free ad;have g2:(Ag H1 k (.lst [])) k=some (.lst (([]:List Addr).map V.ref)):=qA1;generalize Ag H1 k (.lst [])=H2 at s2 g2 ⊢;refine b4 _ _ (cut λN2 aw=>⟨_,rfl,(by show 1<=B89;decide),λr0 ax=>?_⟩)
 have t3:=qA3 ax (.tup [.int c]);have g3:(Ag H2 r0 (.tup [.int c])) r0=some (.tup ([c].map V.int)):=qA1;generalize Ag H2 r0 (.tup [.int c])=H3 at t3 g3 ⊢;refine⟨(by show 1<=B89;decide),λd a7=>?_⟩
 have t4:=qA3 a7 (.lst [.ref r0]);have s4:=s2.trans (t3.trans t4);have ag:H d=none:=(s2.trans t3).free a7;have g4:(Ag H3 d (.lst [.ref r0])) d=some (.lst ([r0].reverse.map V.ref)):=qA1;have am:=(t3.trans t4) _ _ g2;have N4:NetL (Ag H3 d (.lst [.ref r0])) [r0] [[c]]:=.cons (t4 _ _ g3) .nil;have a3:k≠d:=qA9 (t3 _ _ g2) a7;generalize Ag H3 d (.lst [.ref r0])=H4 at s4 g4 am N4 ⊢;refine aw _ _ (cut λN3 b7=>?_);refine⟨λm σ Hc=>∃(fs st:Aa0) (frs srs:List Addr) (v4 v5 v6:Option V),σ=[some (.ref a),some (.int c),some (.ref k),some (.ref d),v4,v5,v6]/\m=msP g st/\Same H Hc/\Hc k=some (.lst (frs.map V.ref))/\NetL Hc frs fs/\Hc d=some (.lst (srs.reverse.map V.ref))/\NetL Hc srs st/\PWay g c fs st,
  ⟨_,[],[[c]],[],[r0],none,none,none,rfl,rfl,s4,am,.nil,g4,N4,PWay.start w0 w1⟩,?_⟩
 refineλm σ Hc an=>opq λbf ae=>?_;obtain⟨fs,st,frs,srs,v4,v5,v6,rfl,rfl,sc,gp,NF,gb,NS,PW⟩:=an;refine ae ⟨_,rfl,_,.inl ⟨_,Ab2 gb,rfl⟩,?_⟩;cases NS with
 |nil=>
  refine iteF (b7 _ _ ?_);have lf:=PW.lens wf w0 a5;have fok:=PW.fok;have ef:=PW.done;refine⟨_,rfl,k,frs,fs,rfl,Ab2 gp,NF,(λt ht=>(fok t ht).ne),λl ab au hl pr T pm so=>?_⟩;have sl:=qA3 hl (.lst (ab.map V.ref));refine q a5 l au _ (sc.trans sl) (sc.free hl) ⟨ab,qA1,NetL.same T λr ys e=>sl _ _ e⟩ ⟨by rw[<- ef];exact pm,so⟩ ?_ λt ht=>?_
  ·rw[pm.length_eq]
   lia
  ·have P:=fok t (pm.mem_iff.mp ht);have:=P.len;have:=P.h0
   lia
 |@cons r p srs st gr NS=>
  have nr:(!((r::srs).reverse.map V.ref).isEmpty)=true:=by simp
  rw[if_pos nr];have P:=PW.ok p A8;have lens:=PW.lens1 wf w0 a5;obtain⟨aq,ar⟩:=PW.step wf;have bg:=B4 NF;have bj:=B4 NS;refine⟨λσ' H'=>∃(fs' st':Aa0) (frs srs:List Addr) (v4 v5 v6:Option V),σ'=[some (.ref a),some (.int c),some (.ref k),some (.ref d),v4,v5,v6]/\msP g st'<msP g (p::st)/\Same H H'/\H' k=some (.lst (frs.map V.ref))/\NetL H' frs fs'/\H' d=some (.lst (srs.reverse.map V.ref))/\NetL H' srs st'/\PWay g c fs' st',
   λσ' H' ⟨fs',st',frs,srs,v4,v5,v6,e,ms,z⟩=>⟨_,ms,fs',st',frs,srs,v4,v5,v6,e,rfl,z⟩,?_⟩
  refine cut λM0 b9=>⟨_,rfl,.inl ⟨rfl,_,Ab2 gb⟩,d,_,_,rfl,rfl,gb,qJG.1,?_⟩;rw[qJG.2];have k5:∀(b:Addr) (xs:List V),Hc b=some (.tup xs)->(Ag Hc d (.lst (srs.reverse.map V.ref))) b=some (.tup xs):=λb xs e=>by rw[qA8 (qCK e gb (by intro z;cases z))];exact e
  have s5:Same H (Ag Hc d (.lst (srs.reverse.map V.ref))):=qAB sc ag;have ac:(Ag Hc d (.lst (srs.reverse.map V.ref))) d=some (.lst (srs.reverse.map V.ref)):=qA1;have n:(Ag Hc d (.lst (srs.reverse.map V.ref))) k=some (.lst (frs.map V.ref)):=by rw[qA8 a3];exact gp
  have a9:=NF.same k5;have a4:=NetL.same NS k5;have a0:=k5 _ _ gr;generalize Ag Hc d (.lst (srs.reverse.map V.ref))=H5 at s5 ac n a9 a4 a0 ⊢;have hw:(hd p).toNat<g.length:=by have:=P.h0;have:=P.h1;lia
  obtain⟨ab,rn,h1,l1,h2,h3⟩:=hN.get (A5 hw);have en:=qBI (A5 hw);generalize g[(hd p).toNat]=ys at h3 en;refine b9 _ _ (cut λM1 ba=>⟨_,rfl,_,rfl,r,_,_,_,rfl,rfl,Ac0 a0,qZY P.ne,a,_,_,_,rfl,rfl,Ac0 (s5 _ _ h1),qBK P.h0 h2,ba _ _ (cut λM2 ay=>⟨_,rfl,_,.inr (.inl ⟨_,Ac0 (s5 _ _ h3),rfl⟩),?_⟩)⟩);have o:∀(frs':List Addr) (H6:Hp),Same H H6->H6 k=some (.lst (frs'.map V.ref))->NetL H6 frs' (nxF g fs p)->H6 d=some (.lst (srs.reverse.map V.ref))->NetL H6 srs st->H6 r=some (.tup (p.map V.int))->M2 [some (.ref a),some (.int c),some (.ref k),some (.ref d),some (.ref r),some (.ref rn),v6] H6:=by
   intro frs' H6 s6 b5 as b6 b2 b1;refine ay _ _ ?_;refine⟨_,rfl,rn,rfl,⟨_,Ac0 (s6 _ _ h3)⟩,qF3 (a:=rn) (xs:=ys.map V.int) (λj σ Hd=>E2 λ(v6:Option V) (qs:List Addr)=>σ=[some (.ref a),some (.int c),some (.ref k),some (.ref d),some (.ref r),some (.ref rn),v6]/\Same H Hd/\Hd k=some (.lst (frs'.map V.ref))/\NetL Hd frs' (nxF g fs p)/\Hd d=some (.lst ((srs.reverse++qs).map V.ref))/\NetL Hd srs st/\NetL Hd qs ((ys.take j).map λz=>z::p)/\Hd r=some (.tup (p.map V.int)))
    ⟨v6,[],rfl,s6,b5,as,by rw[M6];exact b6,b2,.nil,b1⟩ (λj σ Hd _ hP=>by obtain⟨_,_,_,sd,_⟩:=hP;exact Ac0 (sd _ _ h3)) ?_ ?_⟩
   ·refineλj x σ Hd hx aj=>opq λbi ai=>?_;obtain⟨b8,qs,rfl,sd,a8,aa,a2,a6,NQ,a1⟩:=aj;obtain⟨y,ey,rfl⟩:=qAV hx;refine ai ?_;have hj:=(A3.mp ey).1;have b3:=B4 NQ;rw[A0,D3] at b3;rw[en] at lens;refine⟨_,rfl,.inl ⟨rfl,_,Ab2 a2⟩,_,rfl,(by show 1<=B89;decide),λt1 az=>?_⟩
    have u1:=qA3 az (.tup [.int y]);have pl:=P.len;have p0:=P.h0;refine⟨_,rfl,t1,r,_,_,rfl,rfl,Ac0 qA1,Ac0 (u1 _ _ a1),by simp,by simp only[C9,O4,A0,B94];lia,λz=>?_,λ_ t2 bb=>?_⟩
    ·exact absurd (A06.mp z) P.ne
    have u2:=qA3 bb (.tup ([.int y]++p.map V.int));have uu:=u1.trans u2;have u:=uu _ _ a2;have af:(Ag (Ag Hd t1 (.tup [.int y])) t2 (.tup ([.int y]++p.map V.int))) t2=some (.tup ((y::p).map V.int)):=qA1;generalize Ag (Ag Hd t1 (.tup [.int y])) t2 (.tup ([.int y]++p.map V.int))=He at uu u af ⊢;refine⟨d,_,_,rfl,rfl,u,qAL (by rw[A0,B0,i7];lia),?_⟩
    rw[qBO];refine⟨_,qs++[t2],rfl,qAB (sd.trans uu) ag,by rw[qA8 a3];exact uu _ _ a8,qBL (aa.same λr ys e=>uu _ _ e) u,by rw[qA1,J4],qBL (a6.same λr ys e=>uu _ _ e) u,?_,by rw[qA8 (qCK (uu _ _ a1) u (by intro z;cases z))];exact uu _ _ a1⟩
    have eT:(ys.take (j+1)).map (λz=>z::p)=(ys.take j).map (λz=>z::p)++[y::p]:=by rw[C5,ey,D8,B2];rfl
    rw[eT];exact qBL (qB3 (NQ.same λr ys e=>uu _ _ e) af) u
   ·refineλσ Hd ah=>opq λbd al=>?_;obtain⟨b8,qs,rfl,sd,a8,aa,a2,a6,NQ,a1⟩:=ah;refine al ?_;rw[A0,qJ5 rfl] at NQ;refine⟨nxF g fs p,nxS g p st,frs',qs.reverse++srs,_,_,_,rfl,ar,sd,a8,aa,?_,?_,aq⟩
    ·rw[a2,U5,f9]
    ·unfold nxS;rw[en];exact qLC (qJW NQ) a6
  unfold nxF at o;rw[en] at o;cases ys with
  |nil=>
   refine iteT ?_;have l1:=lens.2;refine⟨_,rfl,.inl ⟨rfl,_,Ab2 n⟩,_,rfl,k,_,_,rfl,rfl,n,qAL (by rw[A0];lia),?_⟩
   rw[qBO];refine o (frs++[r]) _ (qAB s5 ap) qA1 ?_ (by rw[qA8 a3.symm];exact ac) (qBL a4 n) (by rw[qA8 (qCK a0 n (by intro z;cases z))];exact a0)
   rw[if_pos rfl];exact qBL (qB3 a9 a0) n
  |cons y ys=>
   refine iteF (o frs _ s5 n ?_ ac a4 a0);rw[if_neg (by simp)]
   exact a9
def sc_Lpaths:FnScope ["_law_net_here","_law_work","_law_found","_law_pile","_law_path"] ["_law_net_here","_law_work"] (qAC qJC):=qCF
theorem ok_Lpaths (F:Fun K "_law_paths" "_law_paths" qJC f fd) (qBW:mg "sorted" = none):FnOk P w K mg base CX0 1 f fd ["_law_net_here","_law_work"] qH7:=by
 refine F.okA sc_Lpaths λbi A bf s H vs Q E hr h=>?_;obtain⟨a,Ae,c,rfl,hN,wf,bg,w0,w1,aj,q⟩:=h;have aw:=hr.units;have am:=hr.units0;refine⟨_,(qA4 (qAK (i:=2) sc_Lpaths.nd rfl (G2 rfl) (qAY qA2)) (qA4 (qAK (i:=3) sc_Lpaths.nd rfl (G2 rfl) (qAY (qA0 (qDQ (qA0 (pv 1) qA2)) qA2))) (qA4 (qEW F0 (qAM (qTM am) (pv 3) (qAY qA2) (qAQ _)) (qA4 (qAK (i:=4) sc_Lpaths.nd rfl (A90 rfl) (qNH C8 v8 w5 qTW (pv 3))) (qA4 (qB6 (qAM (qI9 am) (qB7 qBB (pv 0) (qB7 qBB (pv 4) qA6 (λ_ _=>rfl)) (λ_ _=>rfl)) (qDQ qA2) (qAQ _)) (qA5 (qBG (qEH C8 F2 F3 qB0 (pv 2) (qA0 (pv 4) qA2)))) qAI) (qA5 (qBG (qEH C8 j4 j6 qNN (pv 3) (qA0 (qDA rfl (lcs (own:=["_law_need"]) (fv:=[4]) (by kernel_rfl)) (qCT (qB7 qBB (pv 0) (qB7 qBB (pv 4) qA6 (λ_ _=>rfl)) (λ_ _=>rfl))) (λz1=>qCH 0) (λz1=>qAW) (λz1=>(qAN (qWF (K:=K) rfl) (qDQ (qA0 (pv 0) qA2)) (pv 1)))) qA2))))))) (qA5 (qAG (qA7 (L2.G.call_sortedTL rfl aw) rfl qBW qE0 (qA0 (pv 2) qA2))))))),?_⟩
 obtain⟨rs,hA,NL⟩:=id hN;have bk:=B4 NL;refine cut λN1 b8=>⟨(by show 0<=B89;decide),λn ad=>?_⟩
 have s2:=qA3 ad (.lst []);have ax:H n=none:=ad;have g2:(Ag H n (.lst [])) n=some (.lst (([]:List Addr).map V.ref)):=qA1;generalize Ag H n (.lst [])=H2 at s2 g2 ⊢;refine b8 _ _ (cut λN2 b4=>⟨_,rfl,(by show 1<=B89;decide),λr0 b5=>?_⟩)
 have t3:=qA3 b5 (.tup [.int c]);have g3:(Ag H2 r0 (.tup [.int c])) r0=some (.tup ([c].map V.int)):=qA1;generalize Ag H2 r0 (.tup [.int c])=H3 at t3 g3 ⊢;refine⟨(by show 1<=B89;decide),λg a6=>?_⟩
 have t4:=qA3 a6 (.lst [.ref r0]);have s4:=s2.trans (t3.trans t4);have an:H g=none:=(s2.trans t3).free a6;have g4:(Ag H3 g (.lst [.ref r0])) g=some (.lst ([r0].reverse.map V.ref)):=qA1;have au:=(t3.trans t4) _ _ g2;have N4:NetL (Ag H3 g (.lst [.ref r0])) [r0] [[c]]:=.cons (t4 _ _ g3) .nil;have a4:n≠g:=qA9 (t3 _ _ g2) a6;generalize Ag H3 g (.lst [.ref r0])=H4 at s4 g4 au N4 ⊢;refine b4 _ _ (cut λN3 ba=>?_);refine⟨λm σ Hc=>∃(fs st:Aa0) (frs srs:List Addr) (v4:Option V),σ=[some (.ref a),some (.int c),some (.ref n),some (.ref g),v4]/\m=msP Ae st/\Same H Hc/\Hc n=some (.lst (frs.map V.ref))/\NetL Hc frs fs/\Hc g=some (.lst (srs.reverse.map V.ref))/\NetL Hc srs st/\PWay Ae c fs st,
  ⟨_,[],[[c]],[],[r0],none,rfl,rfl,s4,au,.nil,g4,N4,PWay.start w0 w1⟩,?_⟩
 refineλm σ Hb ai=>opq λbn aq=>?_;obtain⟨fs,st,frs,srs,v4,rfl,rfl,sb,ag,aa,ae,ah,PW⟩:=ai;refine aq ⟨_,rfl,(by show 0<=B89;decide),λen bb=>?_⟩
 have t0:=qA3 bb (.lst []);have ao:(Ag Hb en (.lst [])) en=some (.lst []):=qA1;have sc:=sb.trans t0;have gp:=t0 _ _ ag;have gb:=t0 _ _ ae;have NF:NetL (Ag Hb en (.lst [])) frs fs:=aa.same λr u e=>t0 _ _ e;have NS:NetL (Ag Hb en (.lst [])) srs st:=ah.same λr u e=>t0 _ _ e;clear ag aa ae ah;generalize Ag Hb en (.lst [])=Hc at ao sc gp gb NF NS ⊢;refine⟨g,en,_,rfl,rfl,Ab2 gb,Ab2 ao,_,rfl,?_⟩;cases NS with
 |nil=>
  refine iteF (ba _ _ ?_);have lf:=PW.lens wf w0 aj;have fok:=PW.fok;have ef:=PW.done;refine⟨_,rfl,n,frs,fs,rfl,Ab2 gp,NF,(λt ht=>(fok t ht).ne),λl a8 b3 hl pr T pm so=>?_⟩;have sl:=qA3 hl (.lst (a8.map V.ref));refine q l b3 _ (sc.trans sl) (sc.free hl) ⟨a8,qA1,NetL.same T λr u e=>sl _ _ e⟩ ⟨by rw[<- ef];exact pm,so⟩ ?_ λt ht=>?_
  ·rw[pm.length_eq]
   lia
  ·have P:=fok t (pm.mem_iff.mp ht);have:=P.len;have:=P.h0
   lia
 |@cons r p srs st gr NS=>
  have nr:(!((r::srs).reverse.map V.ref).isEmpty)=true:=by simp
  rw[if_pos nr];have P:=PW.ok p A8;have lens:=PW.lens1 wf w0 aj;obtain⟨ay,az⟩:=PW.step wf;have bj:=B4 NF;have bl:=B4 NS;refine⟨λσ' H'=>∃(fs' st':Aa0) (frs srs:List Addr) (v4:Option V),σ'=[some (.ref a),some (.int c),some (.ref n),some (.ref g),v4]/\msP Ae st'<msP Ae (p::st)/\Same H H'/\H' n=some (.lst (frs.map V.ref))/\NetL H' frs fs'/\H' g=some (.lst (srs.reverse.map V.ref))/\NetL H' srs st'/\PWay Ae c fs' st',
   λσ' H' ⟨fs',st',frs,srs,v4,e,ms,z⟩=>⟨_,ms,fs',st',frs,srs,v4,e,rfl,z⟩,?_⟩
  refine cut λM0 bc=>⟨_,rfl,.inl ⟨rfl,_,Ab2 gb⟩,g,_,_,rfl,rfl,gb,qJG.1,?_⟩;rw[qJG.2];have k5:∀(b:Addr) (xs:List V),Hc b=some (.tup xs)->(Ag Hc g (.lst (srs.reverse.map V.ref))) b=some (.tup xs):=λb xs e=>by rw[qA8 (qCK e gb (by intro z;cases z))];exact e
  have s5:Same H (Ag Hc g (.lst (srs.reverse.map V.ref))):=qAB sc an;have a2:(Ag Hc g (.lst (srs.reverse.map V.ref))) g=some (.lst (srs.reverse.map V.ref)):=qA1;have d:(Ag Hc g (.lst (srs.reverse.map V.ref))) n=some (.lst (frs.map V.ref)):=by rw[qA8 a4];exact gp
  have a1:=NF.same k5;have a0:=NetL.same NS k5;have k:=k5 _ _ gr;generalize Ag Hc g (.lst (srs.reverse.map V.ref))=H5 at s5 a2 d a1 a0 k ⊢;have hw:(hd p).toNat<Ae.length:=by have:=P.h0;have:=P.h1;lia
  obtain⟨a8,rn,h1,l1,h2,h3⟩:=hN.get (A5 hw);have ey:=qBI (A5 hw);generalize Ae[(hd p).toNat]=u at h3 ey;refine bc _ _ (cut λM1 bd=>⟨_,rfl,_,rfl,r,_,_,_,rfl,rfl,Ac0 k,qZY P.ne,a,_,_,_,rfl,rfl,Ac0 (s5 _ _ h1),qBK P.h0 h2,(by show 0<=B89;decide),λet b1=>?_⟩)
  have t6:=qA3 b1 (.tup []);refine⟨rn,et,_,rfl,rfl,Ac0 (t6 _ _ (s5 _ _ h3)),Ac0 qA1,_,rfl,?_⟩;have s5:=s5.trans t6;have a2:=t6 _ _ a2;have d:=t6 _ _ d;have a1:=a1.same λr u e=>t6 _ _ e;have a0:=NetL.same a0 λr u e=>t6 _ _ e;have k:=t6 _ _ k;generalize Ag H5 et (.tup [])=H5 at s5 a2 d a1 a0 k ⊢;have o:∀(frs':List Addr) (H6:Hp),Same H H6->H6 n=some (.lst (frs'.map V.ref))->NetL H6 frs' (nxF Ae fs p)->H6 g=some (.lst (srs.reverse.map V.ref))->NetL H6 srs st->H6 r=some (.tup (p.map V.int))->M1 [some (.ref a),some (.int c),some (.ref n),some (.ref g),some (.ref r)] H6:=by
   intro frs' H6 s6 b9 b2 av b7 ap;refine bd _ _ ⟨_,rfl,.inl ⟨rfl,_,Ab2 av⟩,_,rfl,_,rfl,r,_,_,_,rfl,rfl,Ac0 ap,qZY P.ne,a,_,_,_,rfl,rfl,Ac0 (s6 _ _ h1),qBK P.h0 h2,rn,rfl,⟨_,Ac0 (s6 _ _ h3)⟩,λlq ar=>qGE (p:=lq) (a:=rn) (xs:=u.map V.int) (λj σ Hd=>E2 λ(v:Option V) (qs:List Addr)=>σ=[v,some (.ref r)]/\Same H6 Hd/\Hd lq=some (.lst (qs.map V.ref))/\NetL Hd qs ((u.take j).map λz=>z::p)) ?_ ?_ ?_ ?_⟩
   ·exact⟨none,[],rfl,qA3 ar _,qA1,.nil⟩
   ·rintro j σ Hd hj ⟨v,qs,rfl,sd,_⟩;exact Ac0 (sd _ _ (s6 _ _ h3))
   ·refineλj x σ Hd hx ab=>opq λbh as=>?_;obtain⟨v,qs,rfl,sd,a9,NQ⟩:=ab;obtain⟨y,af,rfl⟩:=qAV hx;refine as ?_;have hj:=(A3.mp af).1;have a7:=B4 NQ;rw[A0,D3] at a7;rw[ey] at lens;have b0:=sd _ _ ap;refine⟨_,rfl,(by show 1<=B89;decide),λt1 b6=>?_⟩
    have u1:=qA3 b6 (.tup [.int y]);have pl:=P.len;have p0:=P.h0;refine⟨_,rfl,t1,r,_,_,rfl,rfl,Ac0 qA1,Ac0 (u1 _ _ b0),by simp,by simp only[C9,O4,A0,B94];lia,λz=>?_,λ_ t2 be=>?_⟩
    ·exact absurd (A06.mp z) P.ne
    have u2:=qA3 be (.tup ([.int y]++p.map V.int));have uu:=u1.trans u2;have a3:=uu _ _ a9;have al:(Ag (Ag Hd t1 (.tup [.int y])) t2 (.tup ([.int y]++p.map V.int))) t2=some (.tup ((y::p).map V.int)):=qA1;generalize Ag (Ag Hd t1 (.tup [.int y])) t2 (.tup ([.int y]++p.map V.int))=He at uu a3 al ⊢;refine⟨_,a3,qAL (by rw[A0];lia),?_⟩
    rw[qBO];have eT:(u.take (j+1)).map (λz=>z::p)=(u.take j).map (λz=>z::p)++[y::p]:=by rw[C5,af,D8,B2];rfl
    rw[eT];exact⟨_,qs++[t2],rfl,qAB (sd.trans uu) ar,qA1,qBL (qB3 (NQ.same λr u e=>uu _ _ e) al) a3⟩
   ·refineλσ Hd ac=>opq λbm ak=>?_;obtain⟨v,qs,rfl,sd,a9,NQ⟩:=ac;refine ak ?_;rw[A0,qJ5 rfl] at NQ;have a7:=B4 NQ;rw[A0] at a7;rw[ey] at lens;have a5:=sd _ _ av;refine⟨g,lq,_,_,rfl,rfl,a5,a9,by rw[A0,A0,i7,B94];lia,?_⟩
    rw[<- B2];refine⟨nxF Ae fs p,nxS Ae p st,frs',qs.reverse++srs,_,rfl,az,qAB (s6.trans sd) an,by rw[qA8 a4];exact sd _ _ b9,qBL (b2.same λr u e=>sd _ _ e) a5,by rw[qA1,U5,f9],?_,ay⟩
    unfold nxS;rw[ey];exact qBL (qLC (qJW NQ) (NetL.same b7 λr u e=>sd _ _ e)) a5
  unfold nxF at o;rw[ey] at o;cases u with
  |nil=>
   refine iteT ?_;have l1:=lens.2;refine⟨_,rfl,.inl ⟨rfl,_,Ab2 d⟩,_,rfl,n,_,_,rfl,rfl,d,qAL (by rw[A0];lia),?_⟩
   rw[qBO];refine o (frs++[r]) _ (qAB s5 ax) qA1 ?_ (by rw[qA8 a4.symm];exact a2) (qBL a0 d) (by rw[qA8 (qCK k d (by intro z;cases z))];exact k)
   rw[if_pos rfl];exact qBL (qB3 a1 k) d
  |cons y u=>
   refine iteF (o frs _ s5 d ?_ a2 a0 k);rw[if_neg (by simp)]
   exact a1
def sc_side_ends:FnScope ["net","path","ends","work","need"] ["net","path"] (qAC qEO):=qCF
theorem ok_side_ends (F:Fun K "side_ends" "side_ends" qEO f fd):FnOk P w K mg base CX0 1 f fd ["net","path"] qI4:=by
 refine F.okA sc_side_ends λao A ah s H vs Q E hr h=>?_;obtain⟨a,t,Ae,b,rfl,⟨hN,wf,ak,hT,ag,lp,af⟩,q⟩:=h;have hu:=qGT hr;refine⟨_,(qA4 (qAK (i:=2) sc_side_ends.nd rfl (G2 rfl) qQB) (qA4 (qBU F0 rfl (qCT (qDI qN3 (pv 1) (qEY qA6) qEZ)) (qAS (i:=3) sc_side_ends.nd rfl (G2 rfl)) (qA5 (qBU F0 rfl (qCT (qB7 qBB (pv 0) (pv 3) (λ_ _=>rfl))) (qAS (i:=4) sc_side_ends.nd rfl (G2 rfl)) (qA5 (qB6 (qAM qD4 (pv 4) (pv 1) (by with_unfolding_all rfl)) (qA5 (qEX hu (pv 2) (pv 4) qCJ rfl)) qAI))))) (qA5 (qAG (pv 2))))),?_⟩
 obtain⟨rs,hA,NL⟩:=id hN;have al:=B4 NL;refine cut λN0 ac=>λd hd=>?_;have s1:=qA3 hd (.dK []);have a9:(Ag H d (.dK [])) d=some (.dK []):=qA1;generalize Ag H d (.dK [])=H1 at s1 a9 ⊢;refine ac _ _ (cut λN1 ai=>?_);have v:1<=b.length:=R7.mpr ag;refine⟨_,rfl,_,rfl,t,_,rfl,Ac0 (s1 _ _ hT),?_,λo aj=>?_⟩
 ·rw[A0,show(1:Int)=((1:Nat):Int) from rfl,HT.sIx_nat]
  lia
 rw[qDK,show(1:Int)=((1:Nat):Int) from rfl,qEL _ _ v];have s2:=qA3 aj (.tup ((b.drop 1).map V.int));have g2:(Ag H1 o (.tup ((b.drop 1).map V.int))) o=some (.tup ((b.drop 1).map V.int)):=qA1;have a0:=s2 _ _ a9;generalize Ag H1 o (.tup ((b.drop 1).map V.int))=H2 at s2 g2 a0 ⊢;have ae:=s1.trans s2;have ad:o≠d:=qCK g2 a0 (by intro z;cases z)
 refine⟨o,rfl,⟨_,Ac0 g2⟩,qF3 (a:=o) (xs:=(b.drop 1).map V.int) (λi σ Hc=>E3 λ(l:List (Key×V)) (v3 v4:Option V)=>σ=[some (.ref a),some (.ref t),some (.ref d),v3,v4]/\Same H Hc/\Hc o=some (.tup ((b.drop 1).map V.int))/\Hc d=some (.dK l)/\l.length<=400*i/\∀z:Int,(valV l (E9 z)).isSome=true↔z∉b/\∃w∈(b.drop 1).take i,z∈nd Ae w)
  ⟨[],none,none,rfl,ae,g2,a0,G6 _,λz=>by simp[valV]⟩ (λi σ Hc _ hP=>by obtain⟨_,_,_,_,_,g,_⟩:=hP;exact Ac0 g) ?_ ?_⟩
 ·refineλi x σ Hc hx a4=>opq λaq a2=>?_;obtain⟨l,v3,v4,rfl,sc,gt,p,lk,m⟩:=a4;obtain⟨wk,ew,rfl⟩:=qAV hx;refine a2 ?_;have hi:=(A3.mp ew).1;rw[J5] at hi;have wb:=af wk (P3 (B3 ew));have hw:wk.toNat<Ae.length:=by lia
  have hz:=A5 hw;obtain⟨r,h3,h4⟩:=NL.get hz;have en:=qBI hz;have ln:=(wf wk.toNat _ hz).len;generalize Ae[wk.toNat]=zs at h4 hz en ln;refine⟨_,rfl,_,rfl,a,_,_,_,rfl,rfl,Ac0 (sc _ _ hA),qBK wb.1 (by rw[C0,h3];rfl),r,rfl,⟨_,Ac0 (sc _ _ h4)⟩,qF3 (a:=r) (xs:=zs.map V.int) (λj σ Hd=>E2 λ(l:List (Key×V)) (v4:Option V)=>σ=[some (.ref a),some (.ref t),some (.ref d),some (.int wk),v4]/\Same H Hd/\Hd o=some (.tup ((b.drop 1).map V.int))/\Hd d=some (.dK l)/\l.length<=400*i+j/\∀z:Int,(valV l (E9 z)).isSome=true↔z∉b/\((∃w∈(b.drop 1).take i,z∈nd Ae w)\/z∈zs.take j))
   ⟨l,v4,rfl,sc,gt,p,by lia,λz=>by rw[m z];simp⟩ (λj σ Hd _ hP=>by obtain⟨_,_,_,sd,_⟩:=hP;exact Ac0 (sd _ _ h4)) ?_ ?_⟩
  ·refineλj x σ Hd hx ab=>opq λap a7=>?_;obtain⟨l,v4,rfl,sd,n,p,lk,m⟩:=ab;obtain⟨y,ey,rfl⟩:=qAV hx;refine a7 ?_;have hj:=(A3.mp ey).1;refine⟨_,rfl,_,rfl,t,_,rfl,.inr (Ac0 (sd _ _ hT)),rfl,qCW b,_,rfl,?_⟩;rw[qF1];by_cases c:y∈b
   ·rw[decide_eq_true c];refine iteF ⟨l,_,rfl,sd,n,p,by lia,λz=>?_⟩
    rw[m z,C5,ey,D8,C1,A6];refine and_congr_right λnz=>⟨λh=>h.imp id .inl,λh=>h.imp id λh=>h.resolve_right λe=>nz (e▸c)⟩
   ·rw[decide_eq_false c];refine iteT ⟨_,rfl,_,rfl,d,_,rfl,DPut.k (k:=E9 y) p (qAL (by lia)),_,_,rfl,qAB sd hd,by rw[qA8 ad];exact n,qA1,L5 (qC5 _ _ _) (by lia),λz=>?_⟩
    rw[qFV,C5,ey,D8,C1,A6];by_cases e:z=y
    ·rw[e,if_pos rfl];exact⟨λ_=>⟨c,.inr (.inr rfl)⟩,λ_=>rfl⟩
    ·rw[if_neg λu=>e (W7 u),m z];exact and_congr_right λ_=>or_congr_right ⟨.inl,λh=>h.resolve_right e⟩
  ·refineλσ Hd a5=>opq λan a6=>?_;obtain⟨l,v4,rfl,sd,n,p,lk,m⟩:=a5;refine a6 ?_;rw[A0] at lk m;rw[F8] at m;refine⟨l,_,_,rfl,sd,n,p,by lia,λz=>?_⟩
   rw[m z,C5,ew,D8];refine and_congr_right λ_=>⟨?_,?_⟩
   ·rintro(⟨u,h1,h2⟩|h)
    ·exact⟨u,L6 _ h1,h2⟩
    ·exact⟨wk,F6 _ A8,by rw[en];exact h⟩
   ·refineλa3=>opq λam a8=>?_;obtain⟨u,h1,h2⟩:=a3;refine a8 ?_;rcases C1.mp h1 with h|h
    ·exact .inl ⟨u,h,h2⟩
    ·rw[A6.mp h,en] at h2;exact .inr h2
 ·refineλσ Hc aa=>opq λar a1=>?_;obtain⟨l,v3,v4,rfl,sc,gt,p,lk,m⟩:=aa;refine a1 ?_;rw[A0,F8] at m;exact ai _ _ ⟨_,rfl,q d l Hc sc hd p λz=>(m z).trans end_iff.symm⟩
def sc_free_ways:FnScope ["net","path","ends","ways","work","needs","need"] ["net","path"] (qAC qER):=qCF
theorem ok_free_ways (F:Fun K "free_ways" "free_ways" qER f fd) (l:mg "SOURCE" = some (.int (-1) tk_SOURCE)) (a4:mg "GOAL" = some (.int (-2) tk_GOAL)) (bv:Clb P w K mg base 1 qF5 qIQ "side_ends" ["net","path"] qI4) (c0:mg "enumerate" = none):FnOk P w K mg base CX0 2 f fd ["net","path"] qL6:=by
 refine F.okA sc_free_ways λcg A cd s H vs Q E hr h=>?_;obtain⟨a,t,Ae,path,rfl,PI,q⟩:=h;have hu:=qGT hr;refine⟨_,(qA4 (qAK (i:=2) sc_free_ways.nd rfl (G2 rfl) (qB4 bv hr rfl (qA0 (pv 0) (qA0 (pv 1) qA2)))) (qA4 (qAK (i:=3) sc_free_ways.nd rfl (G2 rfl) (qM4 (qG1 (qCO (v:=.int (-1)) rfl l ⟨_,rfl⟩) (qAY qA2) (qG1 (qCO (v:=.int (-2)) rfl a4 ⟨_,rfl⟩) (qAY qA2) qM3)) rfl rfl (by simp) (by decide))) (qA4 (qBU F0 rfl (qWB rfl c0 qIT (qA0 (pv 0) qA2)) (qL9 rfl (qB2 (qAS (i:=4) sc_free_ways.nd rfl (G2 rfl)) (qB2 (qAS (i:=5) sc_free_ways.nd rfl (G2 rfl)) qEE))) (qA4 (qB6 (qAM qNK (pv 4) (pv 1) (by with_unfolding_all rfl)) (qA5 qOV) qAI) (qA4 (qEX hu (pv 3) (qAN qE8 qA6 (pv 4)) (qAY (qA0 (qAN qCG (qAN qE8 qA6 (pv 4)) qA6) qA2)) rfl) (qA4 (qEX hu (pv 3) (qAN qCG (qAN qE8 qA6 (pv 4)) qA6) (qJE (qIM (qTE hu (pv 4) (pv 2))) (qAY (qA0 (qCO (v:=.int (-2)) rfl a4 ⟨_,rfl⟩) qA2)) (qAY qA2)) rfl) (qA4 (qB6 (qC2 (qE7 (pv 5) (λ_=>rfl))) (qA5 (qBG (qEH C8 F2 F3 qB0 (qCU hu (pv 3) (qCO (v:=.int (-1)) rfl l ⟨_,rfl⟩) (λ_ _=>rfl)) (qA0 (qAN qE8 qA6 (pv 4)) qA2)))) qAI) (qA5 (qBU F0 rfl (qCT (pv 5)) (qAS (i:=6) sc_free_ways.nd rfl (G2 rfl)) (qA5 (qB6 (qAM qD4 (pv 6) (pv 1) (by with_unfolding_all rfl)) (qA5 (qBG (qEH C8 F2 F3 qB0 (qCU hu (pv 3) (qAN qCG (qAN qE8 qA6 (pv 6)) qA6) (λ_ _=>rfl)) (qA0 (qAN qE8 qA6 (pv 4)) qA2)))) qAI))))))))) (qA5 (qAG (pv 3)))))),?_⟩
 obtain⟨hN,wf,ce,hT,cl,lp,ck⟩:=id PI;obtain⟨rs,hA,NL⟩:=id hN;have c6:=B4 NL;refine cut λN0 c3=>⟨_,rfl,_,rfl,a,t,Ae,path,rfl,PI,λde a1 H1 s1 cj as bd=>c3 _ _ (cut λN1 c7=>λd hd=>?_)⟩;have sd:=qA3 hd (.dK []);refine⟨(by show 0<=B89;decide),λl1 bk=>⟨(by show 0<=B89;decide),λl2 aw=>?_⟩⟩
 have ak:=qA3 bk (.lst []);have aq:=qA3 aw (.lst []);have ae:=(ak.trans aq) _ _ (qA1 (H:=H1) (a:=d) (o:=.dK []));refine⟨ae,[(E9 (-1),.ref l1),(E9 (-2),.ref l2)],rfl,(by show 2<=15;decide),?_⟩
 have em:qEJ [] [((E9 (-1):Key),V.ref l1),(E9 (-2),V.ref l2)]=[(E9 (-1),.ref l1),(E9 (-2),.ref l2)]:=by
  unfold qEJ;simp[putK]
 rw[em];have g1:=aq _ _ (qA1 (H:=Ag H1 d (.dK [])) (a:=l1) (o:=.lst []));have g2:(Ag (Ag (Ag H1 d (.dK [])) l1 (.lst [])) l2 (.lst [])) l2=some (.lst []):=qA1;have ap:=sd.trans (ak.trans aq);have b0:l1≠l2:=qA9 (qA1 (H:=Ag H1 d (.dK [])) (a:=l1) (o:=.lst [])) aw;have bt:H l1=none:=(s1.trans sd).free bk;have c8:H l2=none:=(s1.trans (sd.trans ak)).free aw;have be:H d=none:=s1.free hd;have c9:l1≠d:=qCK g1 ae (by intro z;cases z)
 have bo:l2≠d:=qCK g2 ae (by intro z;cases z)
 have aj:=ap _ _ as;generalize Ag (Ag (Ag H1 d (.dK [])) l1 (.lst [])) l2 (.lst [])=H2 at ae g1 g2 ap aj ⊢;have bq:=s1.trans ap;have ar:de≠d:=λz=>by rw[z,hd] at as;cases as
 have ah:WaysAt H (Ag H2 d (.dK [(E9 (-1),.ref l1),(E9 (-2),.ref l2)])) d (2*0+2) (inK Ae path 0) (fwW Ae path 0) (λk=>if k = -1 then l1 else l2):=by
  have only:∀k,inK Ae path 0 k->k = -1\/k = -2:=λk hk=>by
   rcases hk with h|h|⟨v,f,h,_⟩
   ·exact .inl h
   ·exact .inr h
   ·have:=(free_in.mp f).1.1;lia
  refine⟨⟨_,qA1,A9 _,λk hk=>?_⟩,λk hk=>?_,λk k' hk bs z=>?_,λk hk=>?_,be,qAB bq be⟩
  ·rcases only k hk with rfl|rfl<;>rfl
  ·rcases only k hk with rfl|rfl
   ·rw[if_pos rfl,qA8 c9];exact g1
   ·rw[if_neg (by decide),qA8 bo,fw_g];exact g2
  ·rcases only k hk with rfl|rfl<;>rcases only k' bs with rfl|rfl
   ·rfl
   ·exact absurd z b0
   ·exact absurd z.symm b0
   ·rfl
  ·rcases only k hk with rfl|rfl
   ·exact bt
   ·exact c8
 have a7:(Ag H2 d (.dK [(E9 (-1),.ref l1),(E9 (-2),.ref l2)])) de=some (.dK a1):=by rw[qA8 ar];exact aj
 generalize Ag H2 d (.dK [(E9 (-1),.ref l1),(E9 (-2),.ref l2)])=H3 at ah a7 ⊢;refine c7 _ _ (cut λN2 bx=>?_);refine⟨_,rfl,a,rfl,⟨_,Ac0 (ah.old _ _ hA)⟩,qUQ (a:=a) (xs:=rs.map V.ref) (λi σ Hc=>E4 λ(ad:Int->Addr) (v4 v5 v6:Option V)=>σ=[some (.ref a),some (.ref t),some (.ref de),some (.ref d),v4,v5,v6]/\WaysAt H Hc d (2*i+2) (inK Ae path i) (fwW Ae path i) ad/\Hc de=some (.dK a1)/\∀k,inK Ae path i k->ad k≠de)
  ⟨_,none,none,none,rfl,ah,a7,?_⟩ (λi σ Hc _ hP=>by obtain⟨_,_,_,_,_,WA,_⟩:=hP;exact Ac0 (WA.old _ _ hA)) ?_ ?_⟩
 ·intro k hk z;have:=ah.lst k hk;rw[z,a7] at this;cases this
 ·refineλi x σ Hc T hx bm bu=>opq λch b4=>?_;obtain⟨ad,v4,v5,v6,rfl,WA,gd,ay⟩:=bm;obtain⟨r,er,rfl⟩:=qB8 hx;obtain⟨zs,hz,ao⟩:=qAH NL er;refine b4 ?_;have hi:=(A3.mp hz).1;have rz:=wf i _ hz;have en:nd Ae (i:Int)=zs:=by have:=qBI (Ae:=Ae) (w:=(i:Int)) (zs:=zs) (by rw[O0];exact hz);exact this
  have sT:=qA3 bu (.tup [.int (i:Int),.ref r]);have gT:SqT K (Ag Hc T (.tup [.int (i:Int),.ref r])) T [.int (i:Int),.ref r]:=Ac0 qA1;have a5:=WA.same sT;have ai:=sT _ _ gd;generalize Ag Hc T (.tup [.int (i:Int),.ref r])=H4 at sT gT a5 ai ⊢;refine⟨T,_,rfl,gT,rfl,_,_,rfl,_,_,rfl,rfl,cut λN3 ca=>⟨_,rfl,_,rfl,t,_,rfl,.inr (Ac0 (a5.old _ _ hT)),rfl,qCW path,_,rfl,?_⟩⟩;rw[qF1];by_cases c:(i:Int)∈path
  ·have nf:qAX Ae path (i:Int)=false:=U0.mpr λz=>(free_in.mp z).2 c;have dm:∀k,inK Ae path (i+1) k->inK Ae path i k:=by
    rintro k (h|h|⟨v,f,h,hk⟩)
    ·exact .inl h
    ·exact .inr (.inl h)
    ·refine .inr (.inr ⟨v,f,?_,hk⟩);rcases Int.lt_trichotomy v (i:Int) with z|z|z
     ·exact z
     ·rw[z,nf] at f;cases f
     ·lia
   rw[decide_eq_true c];exact iteT ⟨ad,_,_,_,rfl,(a5.dom (by lia) dm).congr λx _=>qcK nf x,ai,λk hk=>ay k (dm k hk)⟩
  ·rw[decide_eq_false c];refine iteF ?_;have fr:qAX Ae path (i:Int)=true:=free_in.mpr ⟨⟨by lia,by lia⟩,c⟩
   refine ca _ _ (cut λN4 c4=>?_);have a2:∀j:Int,CMul 2 j:=λj=>.inl ⟨by decide,by decide⟩
   -- the work's own two
   refine⟨_,rfl,_,_,rfl,rfl,a2 _,_,_,rfl,rfl,(by show 1<=B89;decide),λe1 a9=>?_⟩
   have ax:=qA3 a9 (.lst [.int (2*(i:Int)+1)]);have b7:(Ag H4 e1 (.lst [.int (2*(i:Int)+1)])) e1=some (.lst (([2*(i:Int)+1]:List Int).map V.int)):=qA1;have am:=a5.same ax;have bp:H e1=none:=a5.old.free a9;have br:∀x,inK Ae path i x->ad x≠e1:=λx hx z=>by have:=a5.lst x hx;rw[z,a9] at this;cases this
   have bf:=ax _ _ ai;have bw:e1≠de:=λz=>by rw[z,ai] at a9;cases a9
   generalize Ag H4 e1 (.lst [.int (2*(i:Int)+1)])=H5 at ax b7 am bf ⊢;obtain⟨Af,g,a0,p⟩:=am.dict;refine⟨_,rfl,_,rfl,_,_,rfl,rfl,a2 _,d,_,rfl,DPut.k (k:=E9 (2*(i:Int))) g (qAL (by lia)),?_⟩
   have bg:¬inK Ae path i (2*(i:Int)):=by
    rintro(h|h|⟨v,f,h,hk|hk⟩)<;>lia
   have ac:=am.add bg bp b7 br g a0 p;have a3:(Ag H5 d (.dK (putK Af (E9 (2*(i:Int))) (.ref e1)))) de=some (.dK a1):=by rw[qA8 ar];exact bf
   generalize Ag H5 d (.dK (putK Af (E9 (2*(i:Int))) (.ref e1)))=H6 at ac a3 ⊢;clear p g a0 Af;refine c4 _ _ (cut λN5 c5=>⟨_,rfl,_,rfl,de,_,rfl,DGet.k (k:=E9 (i:Int)) a3,_,rfl,?_⟩);have bj:∀k,(inK Ae path i k\/k=2*(i:Int))->(if k=2*(i:Int) then e1 else ad k)≠de:=λk hk z=>by
    by_cases e:k=2*(i:Int)
    ·rw[if_pos e] at z;exact bw z
    ·rw[if_neg e] at z;exact ay k (hk.resolve_right e) z
   have two:∀(zs2:List Int) (e2:Addr),zs2=(if qCV Ae path (i:Int) then[-2] else[])->H6 e2=none->∃H7,DPut (Ag H6 e2 (.lst (zs2.map V.int))) d (.int (2*(i:Int)+1)) (.ref e2) H7/\N5 [some (.ref a),some (.ref t),some (.ref de),some (.ref d),some (.int (i:Int)),some (.ref r),v6] H7:=by
    intro zs2 e2 ez n;have av:=qA3 n (.lst (zs2.map V.int));have au:(Ag H6 e2 (.lst (zs2.map V.int))) e2=some (.lst (zs2.map V.int)):=qA1;have af:=ac.same av;have b1:H e2=none:=ac.old.free n;have b6:∀x,(inK Ae path i x\/x=2*(i:Int))->(if x=2*(i:Int) then e1 else ad x)≠e2:=λx hx z=>by have:=ac.lst x hx;rw[z,n] at this;cases this
    have b2:=av _ _ a3;have b8:e2≠de:=λz=>by rw[z,a3] at n;cases n
    generalize Ag H6 e2 (.lst (zs2.map V.int))=H7 at av au af b2 ⊢;obtain⟨Af,g,a0,p⟩:=af.dict;refine⟨_,DPut.k (k:=E9 (2*(i:Int)+1)) g (qAL (by lia)),?_⟩
    have bb:¬(inK Ae path i (2*(i:Int)+1)\/2*(i:Int)+1=2*(i:Int)):=by
     rintro((h|h|⟨v,f,h,hk|hk⟩)|h)<;>lia
    have al:=af.add bb b1 au b6 g a0 p;have an:(Ag H7 d (.dK (putK Af (E9 (2*(i:Int)+1)) (.ref e2)))) de=some (.dK a1):=by rw[qA8 ar];exact b2
    generalize Ag H7 d (.dK (putK Af (E9 (2*(i:Int)+1)) (.ref e2)))=H8 at al an ⊢;have dm:∀k,inK Ae path (i+1) k->(inK Ae path i k\/k=2*(i:Int))\/k=2*(i:Int)+1:=by
     rintro k (h|h|⟨v,f,h,hk⟩)
     ·exact .inl (.inl (.inl h))
     ·exact .inl (.inl (.inr (.inl h)))
     ·by_cases e:v=(i:Int)
      ·subst e;rcases hk with hk|hk
       ·exact .inl (.inr hk)
       ·exact .inr hk
      ·exact .inl (.inl (.inr (.inr ⟨v,f,by lia,hk⟩)))
    obtain⟨u,az⟩:∃u:Int->Addr,u=λx=>if x=2*(i:Int)+1 then e2 else if x=2*(i:Int) then e1 else ad x:=⟨_,rfl⟩
    have aa:∀k,inK Ae path (i+1) k->u k≠de:=λk hk z=>by
     rw[az] at z;dsimp only at z;by_cases e:k=2*(i:Int)+1
     ·rw[if_pos e] at z;exact b8 z
     ·rw[if_neg e] at z;exact bj k ((dm k hk).resolve_right e) z
    have a6:=al.dom (m':=2*(i+1)+2) (by lia) dm
    rw[<- az] at a6;clear al af g a0 p Af az b6 b1 au;refine c5 _ _ (cut λN6 c2=>?_);have cc:=a6.old _ _ ao
    -- the rest,with the ways from the beginning laid
    have ab:∀(W3:Wy) (H9:Hp),WaysAt H H9 d (2*(i+1)+2) (inK Ae path (i+1)) W3 u->(∀k,inK Ae path (i+1) k->W3 k++(if(0<=k/\k%2=1/\k/2∈zs) then[2*(i:Int)] else[])=fwW Ae path (i+1) k)->(∀k,inK Ae path (i+1) k->(W3 k).length<=900)->H9 de=some (.dK a1)->N6 [some (.ref a),some (.ref t),some (.ref de),some (.ref d),some (.int (i:Int)),some (.ref r),v6] H9:=by
     intro W3 H9 WB cb b3 bz;refine c2 _ _ ?_;refine⟨_,rfl,r,rfl,⟨_,Ac0 (WB.old _ _ ao)⟩,qF3 (a:=r) (xs:=zs.map V.int) (λj σ Hd=>∃(v6:Option V),σ=[some (.ref a),some (.ref t),some (.ref de),some (.ref d),some (.int (i:Int)),some (.ref r),v6]/\WaysAt H Hd d (2*(i+1)+2) (inK Ae path (i+1)) (λk=>W3 k++(if(0<=k/\k%2=1/\k/2∈zs.take j) then[2*(i:Int)] else[])) u/\Hd de=some (.dK a1))
      ⟨v6,rfl,WB.congr λx _=>by rw[if_neg (by simp)];simp,bz⟩ (λj σ Hd _ hP=>by obtain⟨_,_,WD,_⟩:=hP;exact Ac0 (WD.old _ _ ao)) ?_ ?_⟩
     ·refineλj x σ Hd hx bc=>opq λcm ba=>?_;obtain⟨v6,rfl,WD,ag⟩:=bc;obtain⟨y,ey,rfl⟩:=qAV hx;refine ba ?_;have hj:=(A3.mp ey).1;have yb:=rz.in_ y (B3 ey);have bn:y∉zs.take j:=λz=>by
       obtain⟨m,hm⟩:=M8 z;have c1:=(A3.mp hm).1;rw[D3] at c1;rw[T3 (by lia)] at hm
       have up:=P2.mp rz.up m j (by lia) hj (by lia)
       have e1:=(A3.mp hm).2;have e2:=(A3.mp ey).2
       lia
      refine⟨_,rfl,_,rfl,t,_,rfl,.inr (Ac0 (WD.old _ _ hT)),rfl,qCW path,_,rfl,?_⟩;rw[qF1];by_cases cy:y∈path
      ·rw[decide_eq_true cy];refine iteF ⟨_,rfl,WD.congr λk hk=>?_,ag⟩;rw[C5,ey,D8];congr 1;by_cases e:0<=k/\k%2=1/\k/2=y
       ·exfalso
        rcases hk with h|h|⟨v,f,_,h|h⟩
        ·lia
        ·lia
        ·lia
        ·exact(free_in.mp f).2 (by rw[show v=y by lia];exact cy)
       ·have:(0<=k/\k%2=1/\k/2∈zs.take j++[y])↔(0<=k/\k%2=1/\k/2∈zs.take j):=by
         rw[C1,A6];exact⟨λ⟨a,b,c⟩=>⟨a,b,c.resolve_right λz=>e ⟨a,b,z⟩⟩,λ⟨a,b,c⟩=>⟨a,b,.inl c⟩⟩
        simp only[this]
      ·rw[decide_eq_false cy];refine iteT ?_;have fy:qAX Ae path y=true:=free_in.mpr ⟨⟨yb.1,by lia⟩,cy⟩
       have hk:inK Ae path (i+1) (2*y+1):=.inr (.inr ⟨y,fy,by lia,.inr rfl⟩)
       obtain⟨Af,g,a0,p⟩:=WD.dict;have gl:=WD.lst _ hk;rw[if_neg (by rw[show(2*y+1)/2=y by lia];exactλz=>bn z.2.2),M6] at gl
       have a8:=DGet.k (k:=E9 (2*y+1)) g;rw[p _ hk] at a8;refine⟨_,rfl,_,rfl,_,_,rfl,rfl,a2 _,_,_,rfl,rfl,d,_,rfl,a8,.inl ⟨rfl,_,Ab2 gl⟩,_,rfl,_,_,rfl,rfl,a2 _,u (2*y+1),_,_,rfl,rfl,gl,qAL (by rw[A0];have:=b3 _ hk;lia),?_⟩
       have:=WD.put hk (W3 (2*y+1)++[2*(i:Int)]);rw[B2] at this;refine⟨_,rfl,this.congr λk ci=>?_,by rw[qA8 (aa _ hk).symm];exact ag⟩
       rw[C5,ey,D8];by_cases e:k=2*y+1
       ·subst e;rw[if_pos rfl,if_pos ⟨by lia,by lia,by rw[show(2*y+1)/2=y by lia];simp⟩]
       ·rw[if_neg e];congr 1;have:(0<=k/\k%2=1/\k/2∈zs.take j++[y])↔(0<=k/\k%2=1/\k/2∈zs.take j):=by
         rw[C1,A6];exact⟨λ⟨a,b,c⟩=>⟨a,b,c.resolve_right λz=>e (by lia)⟩,λ⟨a,b,c⟩=>⟨a,b,.inl c⟩⟩
        simp only[this]
     ·refineλσ Hd b9=>opq λcf bh=>?_;obtain⟨v6,rfl,WD,ag⟩:=b9;refine bh ?_;rw[A0,F8] at WD;exact⟨u,_,_,_,rfl,WD.congr λk hk=>(cb k hk).symm,ag,aa⟩
    have bl:∀k,inK Ae path (i+1) k->((λx=>if x=2*(i:Int)+1 then zs2 else if x=2*(i:Int) then[2*(i:Int)+1] else fwW Ae path i x) k).length<=800:=λk hk=>by
     dsimp only
     split
     ·rw[ez];split<;>simp
     ·split
      ·simp
      ·have:=qUP (Ae:=Ae) (path:=path) i k;lia
    have k1:inK Ae path (i+1) (-1):=.inl rfl;refine⟨_,rfl,_,.inr (.inl ⟨_,Ac0 cc,rfl⟩),?_⟩;cases zs with
    |cons z0 zr=>
     refine iteF (ab _ _ a6 (λk hk=>?_) (λk hk=>L5 (bl k hk) (by lia)) an)
     refine qY2 (W3:=λx=>if x=2*(i:Int)+1 then zs2 else if x=2*(i:Int) then[2*(i:Int)+1] else fwW Ae path i x) wf fr en ?_ ?_ ?_ (λx h1 h2 h3=>?_) hk
     ·rw[if_neg (by lia),if_neg (by lia)];simp
     ·rw[if_neg (by lia),if_pos rfl]
     ·rw[if_pos rfl,ez]
     ·rw[if_neg h3,if_neg h2]
    |nil=>
     refine iteT ?_;obtain⟨Af,g,a0,p⟩:=a6.dict;have gl:=a6.lst _ k1;rw[if_neg (by lia),if_neg (by lia)] at gl
     have a8:=DGet.k (k:=E9 (-1)) g;rw[p _ k1] at a8;refine⟨_,rfl,d,_,rfl,a8,.inl ⟨rfl,_,Ab2 gl⟩,_,rfl,_,_,rfl,rfl,a2 _,u (-1),_,_,rfl,rfl,gl,qAL (by rw[A0];have:=qUP (Ae:=Ae) (path:=path) i (-1);lia),?_⟩
     have pu:=a6.put k1 (fwW Ae path i (-1)++[2*(i:Int)]);rw[B2] at pu;refine ab _ _ pu (λk hk=>?_) (λk hk=>?_) (by rw[qA8 (aa _ k1).symm];exact an)
     ·refine qY2 (W3:=λx=>if x = -1 then fwW Ae path i (-1)++[2*(i:Int)] else if x=2*(i:Int)+1 then zs2 else if x=2*(i:Int) then[2*(i:Int)+1] else fwW Ae path i x) wf fr en ?_ ?_ ?_ (λx h1 h2 h3=>?_) hk
      ·rw[if_pos rfl];rfl
      ·rw[if_neg (by lia),if_neg (by lia),if_pos rfl]
      ·rw[if_neg (by lia),if_pos rfl,ez]
      ·rw[if_neg h1,if_neg h3,if_neg h2]
     ·split
      ·rw[B0];have:=qUP (Ae:=Ae) (path:=path) i (-1);show _+1<=_;lia
      ·exact L5 (bl k hk) (by lia)
   cases ie:(valV a1 (E9 (i:Int))).isSome with
   |true=>
    have e0:qCV Ae path (i:Int)=true:=(bd _).mp ie;refine iteT ⟨(by show 1<=B89;decide),λe2 n=>?_⟩
    obtain⟨H7,dp,n5⟩:=two [-2] e2 (by rw[e0];rfl) n
    exact⟨_,rfl,_,rfl,_,_,rfl,rfl,a2 _,_,_,rfl,rfl,d,H7,rfl,dp,n5⟩
   |false=>
    have e0:qCV Ae path (i:Int)=false:=U0.mpr λz=>by rw[(bd _).mpr z] at ie;cases ie
    refine iteF ⟨(by show 0<=B89;decide),λe2 n=>?_⟩
    obtain⟨H7,dp,n5⟩:=two [] e2 (by rw[e0];rfl) n
    exact⟨_,rfl,_,rfl,_,_,rfl,rfl,a2 _,_,_,rfl,rfl,d,H7,rfl,dp,n5⟩
 ·refineλσ Hc b5=>opq λcn bi=>?_;obtain⟨ad,v4,v5,v6,rfl,WA,gd,ay⟩:=b5;refine bi ?_;rw[A0,c6] at WA;exact bx _ _ ⟨_,rfl,q d ad Hc (WA.dom (by lia) λ_ h=>h)⟩
def sc_way_back:FnScope ["ways","came_from","due","stop","further","stops"] ["ways"] (qAC qFW):=qCF
theorem ok_way_back (F:Fun K "way_back" "way_back" qFW f fd) (b:mg "SOURCE" = some (.int (-1) tk_SOURCE)) (g:mg "GOAL" = some (.int (-2) tk_GOAL)):FnOk P w K mg base CX0 1 f fd ["ways"] qMZ:=by
 refine F.okA sc_way_back λbp A bj s H vs Q E hr h=>?_;obtain⟨d,H0,Ae,path,W,ad,rfl,bl,WA,FL,q⟩:=h;have hu:=qGT hr;refine⟨_,(qA4 (qAK (i:=1) sc_way_back.nd rfl (G2 rfl) (qM4 (qG1 (qCO (v:=.int (-1)) rfl b ⟨_,rfl⟩) qbM qM3) rfl rfl (by simp) (by decide))) (qA4 (qAK (i:=2) sc_way_back.nd rfl (G2 rfl) (qAY (qA0 (qCO (v:=.int (-1)) rfl b ⟨_,rfl⟩) qA2))) (qA4 (qEW F0 (PW.pt (qQ8 (qE7 (pv 2) (λ_=>rfl)) (qM2 (qIM (qHC hu (qCO (v:=.int (-2)) rfl g ⟨_,rfl⟩) (pv 1)))))) (qA4 (qAK (i:=3) sc_way_back.nd rfl (G2 rfl) (qNH C8 v8 w5 qTW (pv 2))) (qA5 (qBU F0 rfl (qBV (qCU hu (pv 0) (pv 3) (λ_ _=>rfl))) (qAS (i:=4) sc_way_back.nd rfl (G2 rfl)) (qA5 (qB6 (qIM (qHC hu (pv 4) (pv 1))) (qA4 (qEX hu (pv 1) (pv 4) (pv 3) rfl) (qA5 (qBG (qEH C8 F2 F3 qB0 (pv 2) (qA0 (pv 4) qA2))))) qAI)))))) (qA4 (qB6 (qIM (qHC hu (qCO (v:=.int (-2)) rfl g ⟨_,rfl⟩) (pv 1))) (qA5 (qAG (qAY qA2))) qAI) (qA4 (qAK (i:=5) sc_way_back.nd rfl (G2 rfl) (qAY (qA0 (qCO (v:=.int (-2)) rfl g ⟨_,rfl⟩) qA2))) (qA4 (qEW F0 (qAM qKS (qB7 qCL (pv 5) (qTC qMV qA6) (λ_ _=>rfl)) (qCO (v:=.int (-1)) rfl b ⟨_,rfl⟩) (qAQ _)) (qA5 (qBG (qEH C8 F2 F3 qB0 (pv 5) (qA0 (qCU hu (pv 1) (qB7 qCL (pv 5) (qTC qMV qA6) (λ_ _=>rfl)) (λ_ _=>rfl)) qA2))))) (qA5 (qAG (pv 5))))))))),cut λN0 ba=>λc ar=>⟨qA1,[(E9 (-1),.non)],rfl,(by show 1<=15;decide),?_⟩⟩
 have em:qEJ [] [((E9 (-1):Key),V.non)]=cmK []:=by
  unfold qEJ;simp[putK]
  rfl
 rw[em,qI2];have s1:=qA3 ar (.dK (cmK []));have g1:(Ag H c (.dK (cmK []))) c=some (.dK (cmK [])):=qA1;generalize Ag H c (.dK (cmK []))=H1 at s1 g1 ⊢;refine ba _ _ (cut λN1 be=>⟨(by show 1<=B89;decide),λl aq=>?_⟩)
 have s2:=qA3 aq (.lst [.int (-1)]);have g2:(Ag H1 l (.lst [.int (-1)])) l=some (.lst (([-1]:List Int).map V.int)):=qA1;have a5:=s2 _ _ g1;have ab:H l=none:=s1.free aq;have a8:c≠l:=qCK a5 g2 (by intro z;cases z)
 have a9:=s1.trans s2;generalize Ag H1 l (.lst [.int (-1)])=H2 at s2 g2 a5 a9 ⊢;refine be _ _ (cut λN2 b0=>?_);obtain⟨I,eI⟩:∃I:Nat->St->Hp->Prop,I=λm σ Hc=>∃(cm:Cm) (due:List Int) (v3 v4:Option V),σ=[some (.ref d),some (.ref c),some (.ref l),v3,v4,none]/\Same H Hc/\Hc c=some (.dK (cmK cm))/\Hc l=some (.lst (due.map V.int))/\SkI Ae path W (cm,due)/\m=2*(2*Ae.length+2-cm.length)+due.length/\due.length<=cm.length+1:=⟨_,rfl⟩;refine⟨I,⟨_,by rw[eI];exact⟨[],[-1],none,none,rfl,a9,a5,g2,⟨⟨qcJ,λx hx=>by rw[A6.mp hx];rfl⟩,λt h=>h,λq hq=>nomatch hq⟩,rfl,A9 _⟩⟩,?_⟩
 intro m σ Hc hI;rw[eI] at hI;obtain⟨cm,due,v3,v4,rfl,sc,gc,gl,SK,rfl,aa⟩:=hI;have few:cm.length<=2*Ae.length+2:=SK.few
 -- behind the search
 have behind:dfsC (cm,due)=false->N2 [some (.ref d),some (.ref c),some (.ref l),v3,v4,none] Hc:=by
  intro ce;refine b0 _ _ (cut λN3 bg=>?_);have DF:=SK.go _ (.stop ce);refine⟨_,rfl,c,_,rfl,DGet.k (k:=E9 (-2)) gc,_,rfl,?_⟩;rw[qPJ];cases vg:vis cm (-2) with
  |false=>
   exact iteT ⟨(by show 0<=B89;decide),λlr a0=>q lr [] _ (sc.trans (qA3 a0 _)) (sc.free a0) qA1 ⟨cm,due,DF,.inl ⟨vg,rfl⟩⟩ (.inl rfl)⟩
  |true=>
   refine iteF (bg _ _ (cut λN4 bb=>⟨(by show 1<=B89;decide),λlr a0=>?_⟩))
   have s3:=qA3 a0 (.lst [.int (-2)]);have g3:(Ag Hc lr (.lst [.int (-2)])) lr=some (.lst (([]++[-2]:List Int).map V.int)):=qA1;have a4:=s3 _ _ gc;have au:H lr=none:=sc.free a0;have bd:c≠lr:=qCK a4 g3 (by intro z;cases z)
   have al:=sc.trans s3;generalize Ag Hc lr (.lst [.int (-2)])=H3 at s3 g3 a4 al ⊢;refine bb _ _ (cut λN5 bc=>?_);obtain⟨i0,p0,e0⟩:∃(i:Nat) (p:Int),cm[i]?=some (-2,p):=(vis_iff.mp vg).resolve_left (by decide)
   obtain⟨r0,b1,b2,b3,b4,b5,_⟩:=SK.sk.gd.back i0 (-2) p0 e0;have bm:=(A3.mp e0).1;refine⟨λm σ u=>∃(pre:List Int) (x:Int),σ=[some (.ref d),some (.ref c),some (.ref l),v3,v4,some (.ref lr)]/\Same H u/\u c=some (.dK (cmK cm))/\u lr=some (.lst ((pre++[x]).map V.int))/\(∀r,Back cm x r->Back cm (-2) (pre++r))/\((x = -1/\m=0)\/∃(i:Nat) (p:Int),cm[i]?=some (x,p)/\m=i+1)/\pre.length+m<=cm.length,⟨_,[],-2,rfl,al,a4,g3,λr h=>h,.inr ⟨i0,p0,e0,rfl⟩,by simp;lia⟩,?_⟩
   refineλm σ u as=>opq λbq af=>?_;obtain⟨pre,x,rfl,sd,n,e,bk,hm,lm⟩:=as;refine af ⟨_,rfl,_,rfl,lr,_,_,_,rfl,rfl,Ab2 e,(by rw[B2];exact qMR _ _),rfl,_,rfl,?_⟩
   rcases hm with⟨rfl,rfl⟩|⟨i,p,ei,rfl⟩
   ·refine iteF ?_;have bf:=bk _ .src;have er:=bf.one b1;refine bc _ _ ⟨_,rfl,q lr (pre++[-1]) u sd au e ⟨cm,due,DF,.inr ⟨vg,bf⟩⟩ (.inr ?_)⟩;rw[er];exact⟨b2,b3,b4,b5⟩
   ·obtain⟨_,nx,r3⟩:=SK.sk.gd.at_ i x p ei;have am:look cm x=some p:=qU2 SK.sk.gd.nd ei;rw[decide_eq_false (show¬V.int x=V.int (-1) fromλz=>nx (V.int.inj z))];refine iteT ?_;obtain⟨m',az,lt⟩:∃m':Nat,((p = -1/\m'=0)\/∃(j:Nat) (q:Int),cm[j]?=some (p,q)/\m'=j+1)/\m'<=i:=by
     rcases r3 with rfl|⟨j,q,hj,ej⟩
     ·exact⟨0,.inl ⟨rfl,rfl⟩,G6 _⟩
     ·exact⟨j+1,.inr ⟨j,q,ej,rfl⟩,hj⟩
    refine⟨_,λσ' H' h=>⟨m',by lia,h⟩,?_⟩
    have hg:=DGet.k (k:=E9 x) n;rw[qV8,if_neg nx,am] at hg;refine⟨_,rfl,.inl ⟨rfl,_,Ab2 e⟩,_,rfl,_,rfl,_,rfl,lr,_,_,_,rfl,rfl,Ab2 e,(by rw[B2];exact qMR _ _),c,_,rfl,hg,lr,_,_,rfl,rfl,e,qAL (by rw[A0,B0,C2];lia),pre++[x],p,rfl,qAB sd au,by rw[qA8 bd];exact n,by rw[qA1,B2 (l₁:=pre++[x])];rfl,λr h=>?_,az,by rw[B0,C2];lia⟩
    rw[J4];exact bk _ (.step nx am h)
 refine⟨_,rfl,_,.inl ⟨_,Ab2 gl,rfl⟩,?_⟩;rcases b7 due with rfl|⟨pre,x,rfl⟩
 ·exact iteF (iteF (behind rfl))
 rw[b8] at gl SK behind aa ⊢;rw[B0,C2] at aa;have ay:(!((pre++[x]).map V.int).isEmpty)=true:=by simp
 rw[ay];refine iteT ⟨_,rfl,c,_,rfl,DGet.k (k:=E9 (-2)) gc,_,rfl,?_⟩;rw[qPJ];cases vg:vis cm (-2) with
 |true=>
  exact iteF (behind (by unfold dfsC;rw[vg];simp))
 |false=>
  refine iteT ⟨λσ' H'=>∃m',m'<2*(2*Ae.length+2-cm.length)+(pre++[x]).length/\I m' σ' H',λ_ _ h=>h,cut λM1 bi=>?_⟩;have a6:((pre++[x]).map V.int)[((pre++[x]).map V.int).length-1]?=some (.int x):=by
   rw[A0,C0,B0,C2,A17,E1 (A9 _),Y3]
   rfl
  have hx:vis cm x=true:=SK.sk.due x (by simp)
  have kx:=SK.inK hx;refine⟨_,rfl,.inl ⟨rfl,_,Ab2 gl⟩,l,_,_,rfl,rfl,gl,a6,?_⟩;have dl:((pre++[x]).map V.int).dropLast=pre.map V.int:=by rw[B2];exact List.dropLast_concat
  rw[dl];have a7:=qAB (o:=.lst (pre.map V.int)) sc ab;have av:(Ag Hc l (.lst (pre.map V.int))) l=some (.lst (pre.map V.int)):=qA1;have ap:(Ag Hc l (.lst (pre.map V.int))) c=some (.dK (cmK cm)):=by rw[qA8 a8];exact gc
  generalize Ag Hc l (.lst (pre.map V.int))=H4 at a7 av ap ⊢;refine bi _ _ ?_;have aw:SkF Ae path W x (cm,pre):=⟨⟨SK.sk.gd,λy hy=>SK.sk.due y (L6 _ hy)⟩,SK.dom,hx⟩;have an:=WA.same a7;obtain⟨Af,ax,bn,bh⟩:=an.dict;have ac:=DGet.k (k:=E9 x) ax;rw[bh _ kx] at ac;have a2:∀{s:Cm×List Int},SkF Ae path W x s->s.1.length<=2*Ae.length+2:=λ{s} h=>by
   have:=qHD (Ae:=Ae) (path:=path) h.sk.gd.nd λy hy=>by
    obtain⟨q,hq,rfl⟩:=C3.mp hy;exact h.dom q hq
   rw[A0] at this;exact this
  refine⟨_,rfl,_,rfl,d,_,rfl,ac,ad x,rfl,⟨_,Ab2 (an.lst _ kx)⟩,qF4 (a:=ad x) (xs:=(W x).map V.int) (λj σ u=>E2 λ(v4:Option V) (s:Cm×List Int)=>σ=[some (.ref d),some (.ref c),some (.ref l),some (.int x),v4,none]/\Same H u/\s=dfsF x ((W x).take j) (cm,pre)/\u c=some (.dK (cmK s.1))/\u l=some (.lst (s.2.map V.int))/\SkF Ae path W x s/\s.2.length+cm.length=pre.length+s.1.length/\cm.length<=s.1.length)
   ⟨v4,_,rfl,a7,rfl,ap,av,aw,rfl,A9 _⟩ (λj σ u _ hP=>by obtain⟨_,_,_,sd,_⟩:=hP;exact Ab2 ((WA.same sd).lst _ kx)) ?_ ?_⟩
  ·refineλj y σ u hy ak=>opq λbr ah=>?_;obtain⟨v4,s,rfl,sd,es,n,e,SF,ln,mo⟩:=ak;obtain⟨f1,ef,rfl⟩:=qAV hy;refine ah ?_;have hf:=B3 ef;have a1:dfsO x f1 s=dfsF x ((W x).take (j+1)) (cm,pre):=by rw[C5,ef,D8,qO5,es]
   obtain⟨aj,b9⟩:=SF.one FL hf;have b1:=a2 SF;refine⟨_,rfl,_,rfl,c,_,rfl,DGet.k (k:=E9 f1) n,_,rfl,?_⟩;rw[qPJ];cases vf:vis s.1 f1 with
   |true=>
    refine iteF ?_;have e0:dfsO x f1 s=s:=by unfold dfsO;rw[if_pos vf]
    rw[e0] at a1;exact⟨_,s,rfl,sd,a1,n,e,SF,ln,mo⟩
   |false=>
    refine iteT ?_;have e0:dfsO x f1 s=(s.1++[(f1,x)],s.2++[f1]):=by unfold dfsO;rw[if_neg (by rw[vf];simp)]
    rw[e0] at a1 aj b9;refine cut λM2 b6=>⟨_,rfl,_,rfl,_,rfl,c,_,rfl,DPut.k (k:=E9 f1) n (qAL (by unfold cmK;rw[C9,A0];lia)),?_⟩
    rw[qaD vf];have ai:=qAB (o:=.dK (cmK (s.1++[(f1,x)]))) sd ar;have ae:(Ag u c (.dK (cmK (s.1++[(f1,x)])))) c=some (.dK (cmK (s.1++[(f1,x)]))):=qA1;have a3:(Ag u c (.dK (cmK (s.1++[(f1,x)])))) l=some (.lst (s.2.map V.int)):=by rw[qA8 a8.symm];exact e
    generalize Ag u c (.dK (cmK (s.1++[(f1,x)])))=H5 at ai ae a3 ⊢;refine b6 _ _ ⟨_,rfl,.inl ⟨rfl,_,Ab2 a3⟩,_,rfl,l,_,_,rfl,rfl,a3,qAL (by rw[A0];lia),_,_,rfl,qAB ai ab,a1,by rw[qA8 a8];exact ae,by rw[qA1,B2];rfl,aj,by lia,by rw[B0];lia⟩
  ·refineλσ u ag=>opq λbo ao=>?_;obtain⟨v4,s,rfl,sd,es,n,e,SF,ln,mo⟩:=ag;refine ao ?_;rw[A0,F8] at es;have b1:=a2 SF;rw[eI];refine⟨2*(2*Ae.length+2-s.1.length)+s.2.length,?_,s.1,s.2,_,_,rfl,sd,n,e,⟨SF.sk,λt h=>SK.go t (.go vg (by rw[<- es];exact h)),SF.dom⟩,rfl,by lia⟩
   rw[B0,C2]
   lia
def sc_turn_round:FnScope ["ways","stops","further","stop"] ["ways","stops"] (qAC qE3):=qCF
theorem ok_turn_round (F:Fun K "turn_round" "turn_round" qE3 f fd) (qIX:mg "zip" = none):FnOk P w K mg base CX0 1 f fd ["ways","stops"] qXH:=by
 refine F.okA sc_turn_round λb3 A ay s H vs Q E hr h=>?_;obtain⟨d,l,H0,p,g,W,v,e,rfl,b1,WA,FL,hl,nl,PT,ND,hh,q⟩:=h;have hu:=qGT hr;have b4:=hr.units0;refine⟨_,(qA5 (qBU F0 rfl (qNG rfl qIX qO7 (qA0 (pv 1) (qA0 (qDI qLX (pv 1) (qEY qA6) qEZ) qA2))) (qL9 rfl (qB2 (qAS (i:=2) sc_turn_round.nd rfl (G2 rfl)) (qB2 (qAS (i:=3) sc_turn_round.nd rfl (G2 rfl)) qEE))) (qA4 (qBG (qEH C8 PySem.F.slot_list_remove PySem.F.type_list_remove qTV (qCU hu (pv 0) (pv 3) (λ_ _=>rfl)) (qA0 (pv 2) qA2))) (qA5 (qBG (qEH C8 F2 F3 qB0 (qCU hu (pv 0) (pv 2) (λ_ _=>rfl)) (qA0 (pv 3) qA2))))))),?_⟩;have a4:1<=e.length:=by cases e with|nil=>cases hh|cons _ _=>simp
 -- the ways behind some of it
 have an:∀j,j<e.length->Fl0 (W0 p g) (qCZ (e.take (j+1)) W):=λj hj=>by
  have av:(e.take (j+1)).head?=some (-2):=by cases e with|nil=>cases hh|cons a r=>exact hh
  exact(qLV (e.take (j+1)) W FL (qQ9 _ _ PT) (ND.sublist (c8 _ _)) _ e[j] av (by rw[C5,A5 hj,D8,A86];rfl)).1
 have ap:∀{V:Wy},Fl0 (W0 p g) V->∀x,(V x).length<=802:=λ{V} F x=>by
  have:=qHD (F.nd x) λy hy=>F.dom hy
  lia
 refine⟨_,rfl,_,rfl,_,rfl,l,_,rfl,Ab2 hl,λt al=>?_⟩;rw[qDK,show(1:Int)=((1:Nat):Int) from rfl,qEL _ _ a4];have s1:=qA3 al (.lst ((e.drop 1).map V.int));have g2:(Ag H t (.lst ((e.drop 1).map V.int))) t=some (.lst ((e.drop 1).map V.int)):=qA1;have a8:=WA.same s1;have ai:∀k,inK p g p.length k->v k≠t:=λk hk z=>by have:=WA.lst k hk;rw[z,al] at this;cases this
 have a1:=s1 _ _ hl;generalize Ag H t (.lst ((e.drop 1).map V.int))=H1 at s1 g2 a8 a1 ⊢;refine⟨false,l,t,rfl,⟨_,Ab2 a1⟩,⟨_,Ab2 g2⟩,qQS (b:=false) (l:=l) (m:=t) (xs:=e.map V.int) (ys:=(e.drop 1).map V.int) (by rw[A0,A0,J5];lia) (λj σ o=>E2 λ(v2 v3:Option V)=>σ=[some (.ref d),some (.ref l),v2,v3]/\WaysAt H0 o d 2002 (inK p g p.length) (qCZ (e.take (j+1)) W) v/\o l=some (.lst (e.map V.int))/\o t=some (.lst ((e.drop 1).map V.int)))
  ⟨none,none,rfl,?_,a1,g2⟩ (λj σ o _ ⟨_,_,_,_,a,b⟩=>⟨Ab2 a,Ab2 b⟩) ?_ ?_⟩
 ·cases e with
  |nil=>cases hh
  |cons a r=>exact a8
 ·refineλj x y σ o T hx hy aj hT=>opq λb5 a9=>?_;obtain⟨v2,v3,rfl,WC,ag,aa⟩:=aj;obtain⟨n,ef,rfl⟩:=qAV hx;obtain⟨c,es,rfl⟩:=qAV hy;refine a9 ?_;rw[k4,Z9] at es;have hj:=(A3.mp es).1;have sT:=qA3 hT (.tup [.int n,.int c]);have gT:SqT K (Ag o T (.tup [.int n,.int c])) T [.int n,.int c]:=Ac0 qA1;have WD:=WC.same sT;have a7:=sT _ _ ag;have ae:=sT _ _ aa;generalize Ag o T (.tup [.int n,.int c])=H2 at sT gT WD a7 ae ⊢;refine⟨T,_,rfl,gT,rfl,_,_,rfl,_,_,rfl,rfl,nmT λD1 d1 _=>?_⟩;have FJ:=an j (by lia)
  have u:=qXN PT ef es
  -- the next stop isn't touched yet
  have au:c∉e.take (j+1):=λz=>by
   obtain⟨m,hm⟩:=M8 z;have ar:=(A3.mp hm).1;rw[D3] at ar;rw[T3 (by lia)] at hm
   have:=(p9 (A3.mp hm).1 ND).mp (hm.trans es.symm)
   lia
  have aq:qCZ (e.take (j+1)) W c=W c:=qPT _ _ au;have ax:n∈qCZ (e.take (j+1)) W c:=by rw[aq];exact u
  have a3:n≠c:=λz=>by
   have:=(p9 (A3.mp ef).1 ND).mp ((ef.trans (congrArg some z)).trans es.symm)
   lia
  have kf:=FL.dom u;have ks:inK p g p.length c:=by
   rcases FL.on _ _ u with z|z
   ·exact(qL2 z).1
   ·exact(qL2 z).2
  obtain⟨k1,h1,h2,h3⟩:=qQU ax;obtain⟨Af,ao,b2,as⟩:=WD.dict;have ac:=DGet.k (k:=E9 c) ao;rw[as _ ks] at ac;have a5:=WD.lst _ ks;refine cut λM1 aw=>⟨_,rfl,_,rfl,d,_,rfl,ac,.inl ⟨rfl,_,Ab2 a5⟩,_,rfl,v c,_,n,k1,rfl,rfl,a5,h1,h2,?_⟩;rw[h3];have WE:=WD.put ks ((qCZ (e.take (j+1)) W c).erase n);have a6:(Ag H2 (v c) (.lst (((qCZ (e.take (j+1)) W c).erase n).map V.int))) l=some (.lst (e.map V.int)):=by rw[qA8 (nl _ ks).symm];exact a7
  have ah:(Ag H2 (v c) (.lst (((qCZ (e.take (j+1)) W c).erase n).map V.int))) t=some (.lst ((e.drop 1).map V.int)):=by rw[qA8 (ai _ ks).symm];exact ae
  generalize Ag H2 (v c) (.lst (((qCZ (e.take (j+1)) W c).erase n).map V.int))=H3 at WE a6 ah ⊢;refine aw _ _ ?_;obtain⟨az,a2,b0,am⟩:=WE.dict;have ak:=DGet.k (k:=E9 n) a2;rw[am _ kf] at ak;have a0:=WE.lst _ kf;rw[if_neg a3] at a0;refine⟨_,rfl,_,rfl,d,_,rfl,ak,.inl ⟨rfl,_,Ab2 a0⟩,_,rfl,v n,_,_,rfl,rfl,a0,qAL (by rw[A0];have:=ap FJ n;lia),?_⟩
  have WF:=WE.put kf (qCZ (e.take (j+1)) W n++[c]);rw[B2] at WF;refine d1 _ _ ⟨_,_,rfl,WF.congr λx _=>?_,by rw[qA8 (nl _ kf).symm];exact a6,by rw[qA8 (ai _ kf).symm];exact ah⟩
  rw[qSH ef es];unfold upW;by_cases c1:x=c
  ·subst c1;rw[if_pos rfl,if_neg λz=>a3 z.symm,if_pos rfl]
  ·by_cases c2:x=n
   ·rw[if_neg c1,if_pos c2,if_pos c2]
   ·rw[if_neg c1,if_neg c2,if_neg c2,if_neg c1]
 ·refineλσ o af=>opq λb6 ab=>?_;obtain⟨v2,v3,rfl,WC,ag,aa⟩:=af;refine ab ?_;rw[A0,J5,show e.length-1+1=e.length by lia,F8] at WC
  exact q o WC
section
variable{P:B90}{w:World}{K:Ab1}{mg:Ab0}{base:Heap}{f:Addr}{fd:C02}{tk_SOURCE:Tok}
def sc_side_to:FnScope ["ways","work","side","stop"] ["ways","work"] (qAC qH8):=qCF
theorem ok_side_to (F:Fun K "side_to" "side_to" qH8 f fd) (l:mg "SOURCE" = some (.int (-1) tk_SOURCE)):FnOk P w K mg base CX0 1 f fd ["ways","work"] qPW:=by
 refine F.okA sc_side_to λap A an s H vs Q E hr h=>?_;obtain⟨d,H0,Ae,c,W,ad,t,sd,rfl,ao,WA,FL,wf,fw,fl,SD,q⟩:=h;have hu:=qGT hr;refine⟨_,(qA4 (qAK (i:=2) sc_side_to.nd rfl (G2 rfl) (qDQ (qA0 (pv 1) qA2))) (qA4 (qAK (i:=3) sc_side_to.nd rfl (G2 rfl) (qB7 qCL (qCU hu (pv 0) (qAN qE8 qA6 (pv 1)) (λ_ _=>rfl)) qA6 (λ_ _=>rfl))) (qA4 (qEW F0 (qAM qKS (pv 3) (qCO (v:=.int (-1)) rfl l ⟨_,rfl⟩) (qAQ _)) (qA4 (qAK (i:=2) sc_side_to.nd rfl (G2 rfl) (qAN qOY (qDQ (qA0 (qAN qI8 (pv 3) qA6) qA2)) (pv 2))) (qA5 (qAK (i:=3) sc_side_to.nd rfl (G2 rfl) (qB7 qCL (qCU hu (pv 0) (qAN qE8 qA6 (qB7 qBB (pv 2) qA6 (λ_ _=>rfl))) (λ_ _=>rfl)) qA6 (λ_ _=>rfl)))))) (qA5 (qAG (pv 2)))))),?_⟩;have a2:∀j:Int,CMul 2 j:=λj=>.inl ⟨by decide,by decide⟩
 have k2:∀{u:Int},qAX Ae c u=true->inK Ae c Ae.length (2*u):=λ{u} h=>.inr (.inr ⟨u,h,(free_in.mp h).1.2,.inl rfl⟩);have a6:∀j:Int,CDiv (2*j+1) 2:=λj=>by unfold CDiv;decide
 -- what stands first at a work's way in
 have rd:∀{Hz:Hp} {u p:Int},Same H Hz->qAX Ae c u=true->W (2*u)=[p]->DGet Hz d (.int (2*u)) (some (.ref (ad (2*u))))/\Hz (ad (2*u))=some (.lst [.int p]):=λ{Hz u p} sz h e=>by
  have WZ:=WA.same sz;obtain⟨Af,a8,_,aj⟩:=WZ.dict;have hg:=DGet.k (k:=E9 (2*u)) a8;rw[aj _ (k2 h)] at hg;have gl:=WZ.lst _ (k2 h);rw[e] at gl;exact⟨hg,gl⟩
 refine cut λN0 ae=>⟨_,rfl,(by show 1<=B89;decide),λt1 ac=>?_⟩
 have x:=qA3 ac (.tup [.int t]);have g1:(Ag H t1 (.tup [.int t])) t1=some (.tup (([t]:List Int).map V.int)):=qA1;generalize Ag H t1 (.tup [.int t])=H1 at x g1 ⊢;refine ae _ _ (cut λN1 af=>?_);obtain⟨p0,a7⟩:=FL.in1 fw;obtain⟨a9,al⟩:=rd x fw a7;refine⟨_,rfl,_,rfl,_,_,rfl,rfl,a2 _,d,_,rfl,a9,ad (2*t),_,_,_,rfl,rfl,Ab2 al,rfl,af _ _ (cut λN2 aa=>⟨λm σ Hc=>∃(T:Addr) (u p:Int) (r x:List Int),σ=[some (.ref d),some (.int t),some (.ref T),some (.int p)]/\m=u.toNat/\Same H Hc/\Hc T=some (.tup ((u::r).map V.int))/\qAX Ae c u=true/\Flw W u/\W (2*u)=[p]/\Sd W u x/\sd=x++r/\r.length+u.toNat<=400,⟨_,t1,t,p0,[],sd,rfl,rfl,x,g1,fw,fl,a7,SD,by simp,?_⟩,?_⟩)⟩
 ·have:=(free_in.mp fw).1;simp;lia
 refineλm σ Hc a5=>opq λaq a0=>?_;obtain⟨T,u,p,r,ar,rfl,rfl,sc,gT,fu,ag,ep,SU,es,lr⟩:=a5;refine a0 ⟨_,rfl,rfl,_,rfl,?_⟩;have b:=(free_in.mp fu).1;cases SU with
 |top e=>
  rw[ep] at e;have e1:=(R0 e).1;subst e1;refine iteF (aa _ _ ⟨_,rfl,q T Hc sc ?_⟩);rw[gT,es]
  rfl
 |@step _ n s2' n0 e SN=>
  rw[ep] at e;have e1:=(R0 e).1;subst e1;obtain⟨p',e2,e3,⟨rfl,_⟩|⟨n',rfl,g,hn⟩⟩:=FL.pred fu ag
  ·rw[ep] at e2;have:=(R0 e2).1;exfalso;lia
  have en:n=n':=by rw[ep] at e2;have:=(R0 e2).1;lia
  subst en;obtain⟨fn,_⟩:=FL.out g (y:=2*u) ((w0_o n0).mpr ⟨g,.inr ⟨u,rfl,fu,hn⟩⟩) e3;have bn:=qD1 wf b.1 hn;rw[decide_eq_false (show¬V.int (2*n+1)=V.int (-1) fromλz=>by have:=V.int.inj z;lia)]
  refine iteT ⟨_,λσ' H' h=>⟨n.toNat,by lia,h⟩,?_⟩
  refine cut λM1 ak=>⟨_,rfl,_,_,rfl,rfl,a6 n,?_⟩;dsimp only;rw[show(2*n+1)/2=n by lia]
  refine⟨(by show 1<=B89;decide),λt2 am=>?_⟩
  have s2:=qA3 am (.tup [.int n]);have g2:(Ag Hc t2 (.tup [.int n])) t2=some (.tup [.int n]):=qA1;have a1:=s2 _ _ gT;have a4:=sc.trans s2;generalize Ag Hc t2 (.tup [.int n])=H2 at s2 g2 a1 a4 ⊢;refine⟨_,rfl,t2,T,_,_,rfl,rfl,Ac0 g2,Ac0 a1,by simp,by rw[B94];simp;lia,λz=>(nomatch z),λ_ t3 ah=>?_⟩
  have s3:=qA3 ah (.tup ([.int n]++(u::r).map V.int));have g3:(Ag H2 t3 (.tup ([.int n]++(u::r).map V.int))) t3=some (.tup ((n::u::r).map V.int)):=qA1;have o:=a4.trans s3;generalize Ag H2 t3 (.tup ([.int n]++(u::r).map V.int))=H3 at s3 g3 o ⊢;refine ak _ _ ?_;obtain⟨p1,a3⟩:=FL.in1 g;obtain⟨ab,ai⟩:=rd o g a3;refine⟨_,rfl,_,rfl,t3,_,_,_,rfl,rfl,Ac0 g3,qBK (J9 0) rfl,_,_,rfl,rfl,a2 _,d,_,rfl,ab,ad (2*n),_,_,_,rfl,rfl,Ab2 ai,rfl,t3,n,p1,u::r,s2',rfl,rfl,o,g3,g,fn,a3,SN,by rw[es];simp,?_⟩
  rw[C9]
  lia
end
section
variable{P:B90}{w:World}{K:Ab1}{mg:Ab0}{base:Heap}{f:Addr}{fd:C02}{qGW qIB qFL qKB:Addr}{qO2 qP8 qMD qRV:C02}{tk_GOAL:Tok}
def sc_sides_of:FnScope ["net","path","ways","stops"] ["net","path"] (qAC qFX):=qCF
theorem ok_sides_of (F:Fun K "sides_of" "sides_of" qFX f fd) (g:mg "GOAL" = some (.int (-2) tk_GOAL)) (b5:Clb P w K mg base 2 qGW qO2 "free_ways" ["net","path"] qL6) (a3:Clb P w K mg base 1 qIB qP8 "way_back" ["ways"] qMZ) (b6:Clb P w K mg base 1 qFL qMD "turn_round" ["ways","stops"] qXH) (b9:Clb P w K mg base 1 qKB qRV "side_to" ["ways","work"] qPW) (qBW:mg "sorted" = none):FnOk P w K mg base CX0 3 f fd ["net","path"] qOL:=by
 refine F.okA sc_sides_of λbg A bc s H vs Q E hr h=>?_;obtain⟨a,t,Ae,path,rfl,PI,bk,q⟩:=h;have hu:=qGT hr;have aj:=hr.units;refine⟨_,(qA4 (qAK (i:=2) sc_sides_of.nd rfl (A90 rfl) (qB4 b5 hr rfl (qA0 (pv 0) (qA0 (pv 1) qA2)))) (qA4 (qAK (i:=3) sc_sides_of.nd rfl (G2 rfl) (qB4 a3 hr rfl (qA0 (pv 2) qA2))) (qA4 (qEW F0 (qE7 (pv 3) (λ_=>rfl)) (qA4 (qBG (qB4 b6 hr rfl (qA0 (pv 2) (qA0 (pv 3) qA2)))) (qA5 (qAK (i:=3) sc_sides_of.nd rfl (G2 rfl) (qB4 a3 hr rfl (qA0 (pv 2) qA2)))))) (qA5 (qAG (qA7 (L2.G.call_sortedTL rfl aj) rfl qBW qE0 (qA0 (qDA rfl (lcs (own:=["stop"]) (fv:=[2]) (by kernel_rfl)) (qBV (qCU hu (pv 2) (qCO (v:=.int (-2)) rfl g ⟨_,rfl⟩) (λ_ _=>rfl))) (λz1=>qCH 0) (λz1=>qAW) (λz1=>(qB4 b9 hr rfl (qA0 (pv 1) (qA0 (qAN qI8 (pv 0) qA6) qA2))))) qA2))))))),?_⟩
 obtain⟨hN,wf,c,hT,bi,lp,bh⟩:=id PI;refine cut λN0 aw=>⟨_,rfl,_,rfl,a,t,Ae,path,rfl,PI,λd ad H1 a1=>aw _ _ (cut λN1 b2=>?_)⟩;have ai:=qX1 (Ae:=Ae) (path:=path) wf;refine⟨_,rfl,d,H,Ae,path,W0 Ae path,ad,rfl,c,a1,ai.fl,λl1 as H2 s2 al b4 bb b8=>b2 _ _ (cut λN2 au=>⟨λm σ Hc=>∃(l:Addr) (st:List Int) (W:Wy),σ=[some (.ref a),some (.ref t),some (.ref d),some (.ref l)]/\WaysAt H Hc d 2002 (inK Ae path Ae.length) W ad/\Fl Ae path W/\Hc l=some (.lst (st.map V.int))/\(∀k,inK Ae path Ae.length k->ad k≠l)/\WB W st/\StOk W st/\(∀W',SW W W'->SW (W0 Ae path) W')/\m+(W (-2)).length=2*Ae.length+2,⟨2*Ae.length+2,l1,as,W0 Ae path,rfl,a1.same s2,ai,b4,λk hk z=>?_,bb,b8,λ_ h=>h,?_⟩,?_⟩)⟩
 ·have:=a1.lst k hk;rw[z,al] at this;cases this
 ·show 2*Ae.length+2+(fwW Ae path Ae.length (-2)).length=_;rw[fw_g];rfl
 refineλm σ Hc ab=>opq λbj aa=>?_;obtain⟨l,st,W,rfl,WA,r,gl,nl,wb,ok,go,em⟩:=ab;refine aa ⟨_,rfl,_,.inl ⟨_,Ab2 gl,rfl⟩,?_⟩;rcases ok with rfl|⟨PT,ND,hh,hl⟩
 ·refine iteF (au _ _ ?_);have ax:=go W (.stop wb);have k2:inK Ae path Ae.length (-2):=.inr (.inl rfl);obtain⟨Af,an,bf,b7⟩:=WA.dict;have a5:=DGet.k (k:=E9 (-2)) an;rw[b7 _ k2] at a5;have o:=WA.lst _ k2;have ar:(W (-2)).length<=Ae.length:=by
   have av:∀x∈W (-2),x∈(qAJ 0 (Ae.length:Int)).map (λw=>2*w+1):=λx hx=>by
    obtain⟨v,rfl,f,_⟩:=r.ends hx;exact C3.mpr ⟨v,mem_rangeI.mpr (free_in.mp f).1,rfl⟩
   have:=D9 (r.fl.nd (-2)) av;rw[A0,qD0] at this
   lia
  refine⟨_,rfl,d,_,rfl,a5,ad (-2),rfl,⟨_,Ab2 o⟩,λpx a2=>qDT (p:=px) (a:=ad (-2)) (xs:=(W (-2)).map V.int) (λj σ Hd=>E3 λ(v:Option V) (rs:List Addr) (ss:Aa0)=>σ=[v,some (.ref d)]/\Same Hc Hd/\Hd px=some (.lst (rs.map V.ref))/\L2.G.TupsAt Hd rs ss/\Paired (λx s=>Sd W (x/2) s) ((W (-2)).take j) ss) ?_ ?_ ?_ ?_⟩
  ·exact⟨none,[],[],rfl,qA3 a2 _,qA1,.nil,.nil⟩
  ·rintro j σ Hd hj ⟨v,rs,ss,rfl,sd,_⟩;exact Ab2 (sd _ _ o)
  ·refineλj x σ Hd hx a7=>opq λbl ae=>?_;obtain⟨v,rs,ss,rfl,sd,gp,TA,PA⟩:=a7;obtain⟨y,ey,rfl⟩:=qAV hx;obtain⟨u,rfl,fu,eu,af⟩:=r.ends (B3 ey);obtain⟨ag,SD⟩:=r.side wf (u.toNat+1) u (by lia) fu af
   refine ae ?_;have hj:=(A3.mp ey).1;have b0:=B4 TA;have a4:=B4 PA;rw[D3] at a4;refine⟨_,rfl,_,rfl,_,_,rfl,rfl,(by unfold CDiv;decide),?_⟩
   dsimp only;rw[show(2*u+1)/2=u by lia]
   refine⟨d,H,Ae,path,W,ad,u,ag,rfl,c,WA.same sd,r,wf,fu,af,SD,λT Hx sx gT=>⟨_,sx _ _ gp,qAL (by rw[A0];lia),?_⟩⟩
   have a9:=sx _ _ gp;refine⟨_,rs++[T],ss++[ag],rfl,qAB (sd.trans sx) a2,by rw[qA1,B2];rfl,qB3 (qI7 TA λb m e=>?_) ?_,?_⟩
   ·rw[qA8 (qCK (sx _ _ e) a9 (by intro z;cases z))];exact sx _ _ e
   ·rw[qA8 (qCK gT a9 (by intro z;cases z))];exact gT
   ·rw[C5,ey,D8];exact qB3 PA (by rw[show(2*u+1)/2=u by lia];exact SD)
  refineλσ Hd ak=>opq λbm ac=>?_;obtain⟨v,rs,ss,rfl,sd,gp,TA,PA⟩:=ak;refine ac ?_;rw[A0,F8] at PA;have b0:=B4 TA;have a4:=B4 PA;have az:∀t∈ss,t≠[]:=λt ht=>by
   obtain⟨i,hi⟩:=M8 ht;obtain⟨x,_,hS⟩:=qLB PA hi;have:=qOQ hS;intro z;rw[z] at this;cases this
  refine⟨px,rs,ss,rfl,Ab2 gp,TA,az,λlz ah aq a6 pm ay pt b1=>?_⟩;have s9:=qA3 a6 (.lst (ah.map V.ref));have a8:=(WA.same sd).old;exact q lz ah aq _ (a8.trans s9) (a8.free a6) qA1 (qI7 ay λb m e=>s9 _ _ e) ⟨W,ss,ax,r,PA,pt,b1⟩
 have ao:(!(st.map V.int).isEmpty)=true:=by cases st with|nil=>cases hh|cons _ _=>rfl
 rw[ao];refine iteT ?_;have ne:st≠[]:=λz=>by rw[z] at hh;cases hh
 obtain⟨n,be⟩:=r.turn PT ND hh hl;have ar:=qHD (n.fl.nd (-2)) λy hy=>n.fl.dom hy;refine⟨_,λσ' H' h=>⟨m-1,by lia,h⟩,?_⟩
 refine cut λM1 ba=>⟨_,rfl,_,rfl,d,l,H,Ae,path,W,ad,st,rfl,c,WA,r.fl,gl,nl,PT,ND,hh,λH3 a0=>ba _ _ ⟨_,rfl,d,H,Ae,path,qCZ st W,ad,rfl,c,a0,n.fl,λl2 bd H4 s4 b3 o am ap=>⟨l2,bd,qCZ st W,rfl,a0.same s4,n,o,λk hk z=>?_,am,ap,λW' h=>go W' (.go wb ne h),by lia⟩⟩⟩
 have:=a0.lst k hk;rw[z,b3] at this;cases this
end
def qN8:FnScope ["thing"] ["thing"] (qAC qEQ):=qCF
theorem ok_is_number (F:Fun K "is_number" "is_number" qEQ f fd) (qAA:mg "isinstance" = none) (qGF:mg "int" = none) (qIJ:mg "bool" = none):FnOk P w K mg base CX0 1 f fd ["thing"] qXJ:=by
 refine F.okA qN8 λb A a s H d Q E c h=>?_;obtain⟨i,rfl,q⟩:=h;exact⟨_,(qA5 (qAG (qGD (qA7 qAP rfl qAA qAF (qA0 (pv 0) (qA0 (qBH (v:=.ty "int") rfl qGF qKK rfl) qA2))) (qIN (qTD (qA7 qAP rfl qAA qAF (qA0 (pv 0) (qA0 (qBH (v:=.ty "bool") rfl qIJ qPL rfl) qA2)))))))),_,rfl,_,"int",_,true,rfl,.int _,rfl,true,rfl,_,rfl,_,"bool",_,false,rfl,.int _,rfl,_,rfl,q⟩
def qOR:FnScope ["thing","end"] ["thing","end"] (qAC qFY):=qCF
theorem ok_is_below (F:Fun K "is_below" "is_below" qFY f fd) (a:Clb P w K mg base 1 qGV qO1 "is_number" ["thing"] qXJ):FnOk P w K mg base CX0 2 f fd ["thing","end"] qPY:=by
 refine F.okA qOR λc A b s H k Q E g h=>?_;obtain⟨i,e,rfl,d,j,q⟩:=h;refine⟨_,(qA5 (qAG (qGD (qB4 a g rfl (qA0 (pv 0) qA2)) (qIN (qQC qZC qRJ qA6 (pv 0) (pv 1)))))),_,rfl,i,rfl,true,rfl,?_⟩;rw[if_pos rfl];refine⟨_,rfl,_,_,rfl,rfl,true,congrArg V.bl (decide_eq_true d),?_⟩;rw[if_pos rfl];refine⟨_,rfl,_,_,rfl,rfl,?_⟩;dsimp only;rw[decide_eq_true j];exact q
def sc_is_path:FnScope ["net","thing","ahead","work"] ["net","thing"] (qAC qH9):=qCF
theorem ok_is_path (F:Fun K "is_path" "is_path" qH9 f fd) (ai:Clb P w K mg base 2 qIC qP9 "is_below" ["thing","end"] qPY) (qAA:mg "isinstance" = none) (qAU:mg "tuple" = none) (qB5:mg "len" = none) (qH4:mg "all" = none) (qIX:mg "zip" = none):FnOk P w K mg base CX0 3 f fd ["net","thing"] qJP:=by
 refine F.okA sc_is_path λao A al s H vs Q E hr h=>?_;obtain⟨a,n,Ae,d,rfl,hN,wf,ar,g,a6,am,a0,hp,q⟩:=h;have ap:=hr.units0;refine⟨_,(qA4 (qB6 (PW.pt (qHB (qC2 (qC1 (qA7 qAP rfl qAA qAF (qA0 (pv 1) (qA0 (qBH (v:=.ty "tuple") rfl qAU qB9 rfl) qA2))))) (qEG (qAM qGB (qA7 qAD rfl qB5 qBA (qA0 (pv 1) qA2)) qA6 (qAQ _))))) (qA5 (qAG qCJ)) qAI) (qA4 (qB6 (qC2 (qC1 (qA7 (qFB rfl) rfl qH4 qKL (qA0 (qDA rfl (lcs (own:=["part"]) (fv:=[0]) (by kernel_rfl)) (qCT (pv 1)) (λz1=>qCH 0) (λz1=>qAW) (λz1=>(qB4 ai hr rfl (qA0 (pv 0) (qA0 (qA7 (qEM (K:=K) rfl) rfl qB5 qBA (qA0 (pv 1) qA2)) qA2))))) qA2)))) (qA5 (qAG qCJ)) qAI) (qA4 (qBU F0 rfl (qNG rfl qIX qO7 (qA0 (pv 1) (qA0 (qDI qN3 (pv 1) (qEY qA6) qEZ) qA2))) (qL9 rfl (qB2 (qAS (i:=2) sc_is_path.nd rfl (G2 rfl)) (qB2 (qAS (i:=3) sc_is_path.nd rfl (G2 rfl)) qEE))) (qA5 (qB6 (qAM qD4 (pv 2) (qB7 qBB (pv 0) (pv 3) (λ_ _=>rfl)) (by with_unfolding_all rfl)) (qA5 (qAG qCJ)) qAI))) (qA5 (qAG (qCI qGB (qA7 qAD rfl qB5 qBA (qA0 (qB7 qBB (pv 0) (qB7 qBB (pv 1) qA6 (λ_ _=>rfl)) (λ_ _=>rfl)) qA2)) qA6 (qAQ _))))))),?_⟩
 obtain⟨rs,hA,NL⟩:=id hN;have ag:=B4 NL;have af:1<=d.length:=R7.mpr a6;unfold qGA at hp;rw[C6] at hp;obtain⟨ad,a1⟩:=hp;refine cut λN0 ae=>⟨_,rfl,_,"tuple",_,true,rfl,TyOf.tup g,qHH true,_,rfl,_,rfl,n,_,rfl,.inr (Ac0 g),rfl,_,rfl,?_⟩;rw[A0,decide_eq_false (show¬V.int ((d.length:Nat):Int)=V.int 0 fromλz=>by have:=V.int.inj z;lia)]
 refine ae _ _ (cut λN1 ah=>⟨_,rfl,n,rfl,⟨_,Ac0 g⟩,λpx a2=>qGE (p:=px) (a:=n) (xs:=d.map V.int) (λi σ o=>∃(v:Option V),σ=[v,some (.ref a)]/\Same H o/\o px=some (.lst ((C7 i true).map V.bl))) ?_ ?_ ?_ ?_⟩)
 ·exact⟨none,rfl,qA3 a2 _,qA1⟩
 ·rintro i σ o hi ⟨v,rfl,sd,_⟩;exact Ac0 (sd _ _ g)
 ·refineλi x' σ o hx a7=>opq λaq a5=>?_;obtain⟨v,rfl,sd,gp⟩:=a7;obtain⟨y,ey,rfl⟩:=qAV hx;refine a5 ?_;have hi:=(A3.mp ey).1;have yb:=a0 y (B3 ey);refine⟨_,rfl,_,rfl,a,_,rfl,.inr (Ac0 (sd _ _ hA)),?_⟩;rw[A0,ag];refine⟨y,(Ae.length:Int),rfl,yb.1,yb.2,_,gp,qAL (by rw[A0,L8];lia),_,rfl,qAB sd a2,?_⟩
  rw[qA1,Q0,B2]
  rfl
 refineλσ o a4=>opq λan a9=>?_;obtain⟨v,rfl,sd,gp⟩:=a4;refine a9 ⟨px,_,rfl,Ab2 gp,?_⟩;rw[show(C7 (d.map V.int).length true).all id=true by simp]
 refine⟨_,rfl,ah _ _ (cut λN2 ac=>?_)⟩;have aj:=sd _ _ g;refine⟨_,rfl,_,rfl,_,rfl,n,_,rfl,Ac0 aj,?_,λt2 ak=>?_⟩
 ·rw[A0,show(1:Int)=((1:Nat):Int) from rfl,HT.sIx_nat]
  lia
 rw[qDK,show(1:Int)=((1:Nat):Int) from rfl,qEL _ _ af];have s2:=qA3 ak (.tup ((d.drop 1).map V.int));have g2:(Ag o t2 (.tup ((d.drop 1).map V.int))) t2=some (.tup ((d.drop 1).map V.int)):=qA1;have e:=sd.trans s2;generalize Ag o t2 (.tup ((d.drop 1).map V.int))=H2 at s2 g2 e ⊢;refine⟨true,n,t2,rfl,⟨_,Ac0 (e _ _ g)⟩,⟨_,Ac0 g2⟩,qQS (b:=true) (l:=n) (m:=t2) (xs:=d.map V.int) (ys:=(d.drop 1).map V.int) (by rw[A0,A0,J5];lia) (λj σ Hc=>E2 λ(v2 v3:Option V)=>σ=[some (.ref a),some (.ref n),v2,v3]/\Same H2 Hc)
  ⟨none,none,rfl,.refl _⟩ (λj σ Hc _ h=>?_) ?_ ?_⟩
 ·obtain⟨_,_,_,u⟩:=h;exact⟨Ac0 ((e.trans u) _ _ g),Ac0 (u _ _ g2)⟩
 ·refineλj x y σ Hc T hx hy a3 hT=>opq λas aa=>?_;obtain⟨v2,v3,rfl,u⟩:=a3;obtain⟨f1,ef,rfl⟩:=qAV hx;obtain⟨k,es,rfl⟩:=qAV hy;refine aa ?_;rw[k4,Z9] at es;have sT:=qA3 hT (.tup [.int f1,.int k]);have gT:SqT K (Ag Hc T (.tup [.int f1,.int k])) T [.int f1,.int k]:=Ac0 qA1;generalize Ag Hc T (.tup [.int f1,.int k])=H3 at sT gT ⊢;refine⟨T,_,rfl,gT,rfl,_,_,rfl,_,_,rfl,rfl,?_⟩;have sb:=a0 k (B3 es);have hw:k.toNat<Ae.length:=by lia
  have t:=A5 hw;obtain⟨r,h3,h4⟩:=NL.get t;have en:=qBI t;generalize Ae[k.toNat]=ys at h4 t en;have c:=e.trans (u.trans sT);refine⟨_,rfl,_,rfl,_,rfl,a,_,_,_,rfl,rfl,Ac0 (c _ _ hA),qBK sb.1 (by rw[C0,h3];rfl),r,_,rfl,.inr (Ac0 (c _ _ h4)),rfl,qCW ys,_,rfl,?_⟩
  rw[qF1,decide_eq_true (by rw[<- en];exact chain_iff.mp ad j f1 k ef es)]
  exact⟨_,_,rfl,u.trans sT⟩
 ·refineλσ Hc ab=>opq λau a8=>?_;obtain⟨v2,v3,rfl,u⟩:=ab;refine a8 (ac _ _ ?_);have c:=e.trans u;obtain⟨z0,zr,rfl⟩:∃z0 zr,d=z0::zr:=by cases d with|nil=>exact absurd rfl a6|cons a b=>exact⟨a,b,rfl⟩
  have sb:=a0 z0 A8;have hw:z0.toNat<Ae.length:=by lia
  have t:=A5 hw;obtain⟨r,h3,h4⟩:=NL.get t;have en:=qBI t;generalize Ae[z0.toNat]=ys at h4 t en;rw[List.headD_cons,en,V6] at a1;subst a1;refine⟨_,rfl,_,rfl,n,_,_,_,rfl,rfl,Ac0 (c _ _ g),qBK (J9 0) rfl,a,_,_,_,rfl,rfl,Ac0 (c _ _ hA),qBK sb.1 (by rw[C0,h3];rfl),r,_,rfl,.inr (Ac0 (c _ _ h4)),rfl,?_⟩
  exact q Hc c
def sc_shows_sides:FnScope ["net","path","thing","ends","taken","work","side"] ["net","path","thing"] (qAC qDD):=qCF
theorem ok_shows_sides (F:Fun K "shows_sides" "shows_sides" qDD f fd) (ax:Clb P w K mg base 1 qF5 qIQ "side_ends" ["net","path"] qI4) (b1:Clb P w K mg base 3 qHR qLM "is_path" ["net","thing"] qJP) (qAA:mg "isinstance" = none) (qC0:mg "list" = none):FnOk P w K mg base CX0 4 f fd ["net","path","thing"] qJ8:=by
 refine F.okA sc_shows_sides λbj A bb s H vs Q E hr h=>?_;obtain⟨a,t,ll,Ae,d,ba,n,rfl,PI,br,bm,ga,TT,av,af,sl,q⟩:=h;have hu:=qGT hr;have bk:=hr.units0;refine⟨_,(qA4 (qB6 (qC2 (qC1 (qA7 qAP rfl qAA qAF (qA0 (pv 2) (qA0 (qBH (v:=.ty "list") rfl qC0 qDB rfl) qA2))))) (qA5 (qAG qCJ)) qAI) (qA4 (qAK (i:=3) sc_shows_sides.nd rfl (G2 rfl) (qB4 ax hr rfl (qA0 (pv 0) (qA0 (pv 1) qA2)))) (qA4 (qAK (i:=4) sc_shows_sides.nd rfl (G2 rfl) qQB) (qA4 (qBU F0 rfl (qCT (pv 1)) (qAS (i:=5) sc_shows_sides.nd rfl (G2 rfl)) (qA5 (qEX hu (pv 4) (pv 5) qCJ rfl))) (qA4 (qBU F0 rfl (qBV (pv 2)) (qAS (i:=6) sc_shows_sides.nd rfl (G2 rfl)) (qA4 (qB6 (PW.pt (qHB (qC2 (qC1 (qB4 b1 hr rfl (qA0 (pv 0) (qA0 (pv 6) qA2))))) (qEG (qIM (qHC hu (qB7 qBB (pv 6) (qTC qMV qA6) (λ_ _=>rfl)) (pv 3)))))) (qA5 (qAG qCJ)) qAI) (qA5 (qBU F0 rfl (qCT (pv 6)) (qAS (i:=5) sc_shows_sides.nd rfl (G2 rfl)) (qA4 (qB6 (qIM (qTE hu (pv 5) (pv 4))) (qA5 (qAG qCJ)) qAI) (qA5 (qEX hu (pv 4) (pv 5) qCJ rfl))))))) (qA5 (qAG qCJ))))))),?_⟩;obtain⟨hN,wf,bf,hT,bp,lp,bn⟩:=id PI;have be:=B4 TT;refine cut λN0 b3=>⟨_,rfl,_,"list",_,true,rfl,TyOf.lst ga,rfl,_,rfl,b3 _ _ (cut λN1 b6=>⟨_,rfl,_,rfl,a,t,Ae,d,rfl,PI,λr a4 H1 s1 bl ar b2=>b6 _ _ (cut λN2 az=>λl a2=>?_)⟩)⟩;have s2:=qA3 a2 (.dK []);have g2:(Ag H1 l (.dK [])) l=some (.dK []):=qA1;have x:=s2 _ _ ar;have as:H l=none:=s1.free a2;have am:r≠l:=qA9 ar a2;have a0:=s1.trans s2;generalize Ag H1 l (.dK [])=H2 at s2 g2 x a0 ⊢;refine az _ _ (cut λN3 b8=>?_);refine⟨_,rfl,t,rfl,⟨_,Ac0 (a0 _ _ hT)⟩,qF3 (a:=t) (xs:=d.map V.int) (λi σ Hc=>E2 λ(b:List (Key×V)) (v5:Option V)=>σ=[some (.ref a),some (.ref t),some (.ref ll),some (.ref r),some (.ref l),v5,none]/\Same H Hc/\Hc r=some (.dK a4)/\Hc l=some (.dK b)/\b.length<=i/\∀z:Int,(valV b (E9 z)).isSome=true->z∈d)
  ⟨[],none,rfl,a0,x,g2,A9 _,λz h=>by simp[valV] at h⟩ (λi σ Hc _ hP=>by obtain⟨_,_,_,sc,_⟩:=hP;exact Ac0 (sc _ _ hT)) ?_ ?_⟩
 ·refineλi y σ Hc hy ab=>opq λbg ao=>?_;obtain⟨b,v5,rfl,sc,ge,gk,lk,hv⟩:=ab;obtain⟨m,ez,rfl⟩:=qAV hy;refine ao ?_;have hi:=(A3.mp ez).1;refine⟨_,rfl,_,rfl,l,_,rfl,DPut.k (k:=E9 m) gk (qAL (by lia)),_,_,rfl,qAB sc as,by rw[qA8 am];exact ge,qA1,L5 (qC5 _ _ _) (by lia),λz h=>?_⟩
  rw[qFV] at h;by_cases e:z=m
  ·rw[e];exact B3 ez
  ·rw[if_neg λu=>e (W7 u)] at h;exact hv z h
 refineλσ Hc ad=>opq λbq ah=>?_;obtain⟨b,v5,rfl,sc,ge,gk,lk,hv⟩:=ad;refine ah ?_;rw[A0] at lk;refine b8 _ _ (cut λN4 b4=>?_);refine⟨_,rfl,ll,rfl,⟨_,Ab2 (sc _ _ ga)⟩,qF4 (a:=ll) (xs:=ba.map V.ref) (λi σ Hd=>E3 λ(b:List (Key×V)) (v5 v6:Option V)=>σ=[some (.ref a),some (.ref t),some (.ref ll),some (.ref r),some (.ref l),v5,v6]/\Same H Hd/\Hd r=some (.dK a4)/\Hd l=some (.dK b)/\b.length<=400+60*i/\∀z:Int,(valV b (E9 z)).isSome=true->z∈d\/z∈(n.take i).flatten)
  ⟨b,v5,none,rfl,sc,ge,gk,by lia,λz h=>.inl (hv z h)⟩ (λi σ Hd _ hP=>by obtain⟨_,_,_,_,sd,_⟩:=hP;exact Ab2 (sd _ _ ga)) ?_ ?_⟩
 ·refineλi x' σ Hd hx al=>opq λbi aj=>?_;obtain⟨b,v5,v6,rfl,sd,ge,gk,lk,hv⟩:=al;obtain⟨tz,er,rfl⟩:=qB8 hx;obtain⟨g,ez,gz⟩:=qAH TT er;refine aj ?_;have hi:=(A3.mp ez).1;have ag:=B3 ez;obtain⟨ak,lz,b5,zp,p,a9⟩:=av g ag;have et:n.take (i+1)=n.take i++[g]:=by rw[C5,ez];rfl
  have ap:((n.take i).flatten++g).Nodup:=by
   have e0:n=(n.take i++[g])++n.drop (i+1):=by rw[<- et,S0]
   have e:n.flatten=((n.take i).flatten++g)++(n.drop (i+1)).flatten:=(congrArg List.flatten e0).trans (by rw[Z0,Z0];simp)
   rw[e] at af;exact(O3.mp af).1
  refine nmD λD1 dn dr=>cut λM1 b9=>⟨_,rfl,_,rfl,a,tz,Ae,g,rfl,hN.same sd,wf,by lia,sd _ _ gz,ak,by lia,b5,zp,λH3 s3=>⟨_,rfl,?_⟩⟩
  have aq:=sd.trans s3;obtain⟨zl,au⟩:∃zl,g.getLast?=some zl:=⟨_,Z3 ak⟩;have aw:(g.map V.int).getLast?=some (.int zl):=by rw[A38,au];rfl
  have ay:g.getLastD 0=zl:=by rw[J2,au];rfl
  rw[ay] at p;have ac:=aq _ _ gz;refine iteF ⟨_,rfl,_,rfl,tz,_,_,_,rfl,rfl,Ac0 ac,qH1 aw,_,rfl,r,_,rfl,DGet.k (k:=E9 zl) (s3 _ _ ge),_,rfl,?_⟩;rw[(b2 zl).mpr p];refine iteF (b9 _ _ ?_);refine⟨_,rfl,tz,rfl,⟨_,Ac0 ac⟩,qF3 (a:=tz) (xs:=g.map V.int) (λj σ He=>E2 λ(b:List (Key×V)) (v5:Option V)=>σ=[some (.ref a),some (.ref t),some (.ref ll),some (.ref r),some (.ref l),v5,some (.ref tz)]/\Same H He/\He r=some (.dK a4)/\He l=some (.dK b)/\b.length<=400+60*i+j/\∀z:Int,(valV b (E9 z)).isSome=true->z∈d\/z∈(n.take i).flatten++g.take j)
   ⟨b,v5,rfl,aq,s3 _ _ ge,s3 _ _ gk,by lia,λz h=>by have:=hv z h;simpa using this⟩ (λj σ He _ hP=>by obtain⟨_,_,_,se,_⟩:=hP;exact Ac0 (se _ _ gz)) ?_ ?_⟩
  ·refineλj y σ He hy an=>opq λbo ai=>?_;obtain⟨b,v5,rfl,se,a6,o,aa,c⟩:=an;obtain⟨m,a7,rfl⟩:=qAV hy;refine ai ?_;have hj:=(A3.mp a7).1;have ae:g.take (j+1)=g.take j++[m]:=by rw[C5,a7];rfl
   refine nmD λD2 b7 bh=>cut λM2 b0=>⟨_,rfl,_,rfl,l,_,rfl,DGet.k (k:=E9 m) o,_,rfl,?_⟩;have no:(valV b (E9 m)).isSome=false:=U0.mpr λh=>by
    rcases c m h with h|h
    ·exact a9 m (B3 a7) h
    ·rw[<- S0 (j+1) g,ae,<- J4,<- J4] at ap;exact(O3.mp (O3.mp ap).1).2.2 m h m (A6.mpr rfl) rfl
   rw[no];refine iteF (b0 _ _ ⟨_,rfl,_,rfl,l,_,rfl,DPut.k (k:=E9 m) o (by rw[B94];lia),b7 _ _ ⟨_,_,rfl,qAB se as,by rw[qA8 am];exact a6,qA1,L5 (qC5 _ _ _) (by lia),λz h=>?_⟩⟩)
   rw[qFV] at h;rw[ae,<- J4];by_cases e:z=m
   ·exact .inr (F6 _ (A6.mpr e))
   ·rw[if_neg λu=>e (W7 u)] at h;exact(c z h).imp id λh=>L6 _ h
  ·refineλσ He a8=>opq λbc a1=>?_;obtain⟨b,v5,rfl,se,a6,o,aa,c⟩:=a8;refine a1 ?_;rw[A0] at aa c;rw[F8] at c;refine dn _ _ ⟨b,_,_,rfl,se,a6,o,by lia,λz h=>?_⟩
   rw[et,Z0];simpa using c z h
 ·refineλσ Hd a5=>opq λbd a3=>?_;obtain⟨b,v5,v6,rfl,sd,ge,gk,lk,hv⟩:=a5;exact a3 (b4 _ _ (q Hd sd))
section
variable{P:B90}{w:World}{K:Ab1}{mg:Ab0}{base:Heap}{f:Addr}{fd:C02}
def sc_Lhit:FnScope ["_law_net_here","_law_path","_law_found","_law_work"] ["_law_net_here","_law_path"] (qAC qQ2):=qCF
theorem ok_Lhit (F:Fun K "_law_hit" "_law_hit" qQ2 f fd) (qBW:mg "sorted" = none) (al:mg "set" = none):FnOk P w K mg base CX0 1 f fd ["_law_net_here","_law_path"] qSS:=by
 refine F.okA sc_Lhit λar A an s H vs Q E hr h=>?_;obtain⟨a,t,Ae,c,rfl,⟨hN,wf,ao,hT,aj,lp,a8⟩,az,av,q⟩:=h;have hu:=qGT hr;have as:=hr.units0;refine⟨_,(qA4 (qAK (i:=2) sc_Lhit.nd rfl (G2 rfl) (qAY qA2)) (qA4 (qBU F0 rfl (qCT (qDI qN3 (pv 1) (qEY qA6) qEZ)) (qAS (i:=3) sc_Lhit.nd rfl (G2 rfl)) (qA5 (qBG (qEH C8 j4 j6 qNN (pv 2) (qA0 (qDA rfl (lcs (own:=["_law_need"]) (fv:=[1]) (by kernel_rfl)) (qCT (qB7 qBB (pv 0) (pv 3) (λ_ _=>rfl))) (λz1=>qCH 0) (λz1=>(qZ1 (qAM (qTL (K:=K) rfl) (pv 0) (pv 1) (by with_unfolding_all rfl)))) (λz1=>(pv 0))) qA2))))) (qA5 (qAG (qA7 (qFS rfl) rfl qBW qE0 (qA0 (qAO (qHT rfl) rfl al qR1 (qA0 (pv 2) qA2)) qA2)))))),?_⟩
 obtain⟨rs,hA,NL⟩:=id hN;have aw:=B4 NL;refine cut λN0 ai=>⟨(by show 0<=B89;decide),λl hl=>?_⟩
 have s1:=qA3 hl (.lst []);have g1:(Ag H l (.lst [])) l=some (.lst (([]:List Int).map V.int)):=qA1;generalize Ag H l (.lst [])=H1 at s1 g1 ⊢;refine ai _ _ (cut λN1 ak=>?_);have o:1<=c.length:=R7.mpr aj;refine⟨_,rfl,_,rfl,t,_,rfl,Ac0 (s1 _ _ hT),?_,λm ag=>?_⟩
 ·rw[A0,show(1:Int)=((1:Nat):Int) from rfl,HT.sIx_nat]
  lia
 rw[qDK,show(1:Int)=((1:Nat):Int) from rfl,qEL _ _ o];have s2:=qA3 ag (.tup ((c.drop 1).map V.int));have g2:(Ag H1 m (.tup ((c.drop 1).map V.int))) m=some (.tup ((c.drop 1).map V.int)):=qA1;have a0:=s2 _ _ g1;generalize Ag H1 m (.tup ((c.drop 1).map V.int))=H2 at s2 g2 a0 ⊢;have ae:=s1.trans s2;have af:m≠l:=qCK g2 a0 (by intro z;cases z)
 refine⟨m,rfl,⟨_,Ac0 g2⟩,qF3 (a:=m) (xs:=(c.drop 1).map V.int) (λi σ Hc=>E2 λ(k:List Int) (v3:Option V)=>σ=[some (.ref a),some (.ref t),some (.ref l),v3]/\Same H Hc/\Hc m=some (.tup ((c.drop 1).map V.int))/\Hc l=some (.lst (k.map V.int))/\k.length<=60*i/\∀z:Int,z∈k↔z∉c/\∃w∈(c.drop 1).take i,z∈nd Ae w)
  ⟨[],none,rfl,ae,g2,a0,G6 _,λz=>by simp⟩ (λi σ Hc _ hP=>by obtain⟨_,_,_,_,g,_⟩:=hP;exact Ac0 g) ?_ ?_⟩
 ·refineλi x σ Hc hx ac=>opq λau a2=>?_;obtain⟨k,v3,rfl,n,gt,gl,lf,hv⟩:=ac;obtain⟨wk,ew,rfl⟩:=qAV hx;refine a2 ?_;have hi:=(A3.mp ew).1;rw[J5] at hi;have wb:=a8 wk (P3 (B3 ew));have hw:wk.toNat<Ae.length:=by lia
  have hz:=A5 hw;obtain⟨r,h3,h4⟩:=NL.get hz;have en:=qBI hz;have ln:=(wf wk.toNat _ hz).len;generalize Ae[wk.toNat]=zs at h4 hz en ln;refine⟨_,rfl,.inl ⟨rfl,_,Ab2 gl⟩,_,rfl,_,rfl,a,_,_,_,rfl,rfl,Ac0 (n _ _ hA),qBK wb.1 (by rw[C0,h3];rfl),r,rfl,⟨_,Ac0 (n _ _ h4)⟩,λpx d=>?_⟩
  have ay:l≠px:=qA9 gl d;have ax:m≠px:=qA9 gt d;refine qGE (p:=px) (a:=r) (xs:=zs.map V.int) (λj σ Hd=>∃(v:Option V),σ=[v,some (.ref t)]/\Same Hc Hd/\Hd px=some (.lst (((zs.take j).filter λz=>decide (z∉c)).map V.int))) ?_ ?_ ?_ ?_
  ·exact⟨none,rfl,qA3 d _,qA1⟩
  ·rintro j σ Hd hj ⟨v,rfl,sd,_⟩;exact Ac0 (sd _ _ (n _ _ h4))
  ·refineλj y σ Hd hy a6=>opq λaq a9=>?_;obtain⟨v,rfl,sd,gp⟩:=a6;obtain⟨z0,ez,rfl⟩:=qAV hy;refine a9 ?_;have hj:=(A3.mp ez).1;have a5:=u9 (λz=>decide (z∉c)) (zs.take j);rw[D3] at a5;refine⟨_,rfl,_,rfl,t,_,rfl,.inr (Ac0 ((n.trans sd) _ _ hT)),rfl,qCW c,_,rfl,?_⟩;rw[qF1,C5,ez,D8,l5];by_cases cz:z0∈c
   ·rw[decide_eq_true cz];exact iteF ⟨_,rfl,sd,by rw[gp];simp[cz]⟩
   ·rw[decide_eq_false cz];exact iteT ⟨_,rfl,_,gp,qAL (by rw[A0];lia),_,rfl,qAB sd d,by rw[qA1];simp[cz]⟩
  refineλσ Hd a3=>opq λb0 aa=>?_;obtain⟨v,rfl,sd,gp⟩:=a3;refine aa ?_;rw[A0,F8] at gp;have a5:=u9 (λz=>decide (z∉c)) zs;refine⟨l,px,_,_,rfl,rfl,sd _ _ gl,gp,by rw[B94,A0,A0];lia,?_⟩
  rw[<- B2];refine⟨_,_,rfl,qAB (n.trans sd) hl,by rw[qA8 af];exact sd _ _ gt,qA1,by rw[B0];lia,λz=>?_⟩
  rw[C1,hv z,K0,decide_eq_true_eq,C5,ew,D8]
  constructor
  ·rintro(⟨h1,u,h2,h3⟩|⟨h1,h2⟩)
   ·exact⟨h1,u,L6 _ h2,h3⟩
   ·exact⟨h2,wk,F6 _ A8,by rw[en];exact h1⟩
  ·refineλad=>opq λb1 a7=>?_;obtain⟨h1,u,h2,h3⟩:=ad;refine a7 ?_;rcases C1.mp h2 with h|h
   ·exact .inl ⟨h1,u,h,h3⟩
   ·rw[A6.mp h,en] at h3;exact .inr ⟨h3,h1⟩
 ·refineλσ Hc a1=>opq λap ab=>?_;obtain⟨k,v3,rfl,n,gt,gl,lf,hv⟩:=a1;refine ab ?_;rw[A0] at lf hv;rw[F8] at hv;rw[J5] at lf;refine ak _ _ ⟨_,rfl,l,k,rfl,Ab2 gl,by lia,λe he=>?_⟩
  have ah:(dedI k).length<=60:=by
   have:=D9 (qLO k) (l₂:=qAJ 0 (Ae.length:Int)) λz hz=>by
    obtain⟨_,u,hu,am⟩:=(hv z).mp (mem_dedI.mp hz);have:=a8 u (P3 hu);have:=qD1 wf this.1 am;rw[mem_rangeI]
    lia
   rw[qD0] at this
   lia
  refine⟨e,dedI k,rfl,qA1,λb ys hb a4 hs=>q b ys _ ((n.trans (qA3 he _)).trans (qA3 hb _)) qA1 (by rw[a4.length_eq];exact ah) λz=>?_⟩
  rw[a4.mem_iff,mem_dedI,hv z,end_iff]
end
section
variable{P:B90}{w:World}{K:Ab1}{mg:Ab0}{base:Heap}{f:Addr}{fd:C02}{qO4 qIE:Addr}{qPC qPB:C02}
def qOS:FnScope ["_law_net_here","_law_path","_law_thing"] ["_law_net_here","_law_path","_law_thing"] (qAC qG0):=qCF
theorem ok_Lis_side (F:Fun K "_law_is_side" "_law_is_side" qG0 f fd) (bo:Clb P w K mg base 1 qO4 qPC "_law_hit" ["_law_net_here","_law_path"] qSS) (qAA:mg "isinstance" = none) (qAU:mg "tuple" = none) (qGF:mg "int" = none) (qIJ:mg "bool" = none) (qB5:mg "len" = none) (qH4:mg "all" = none) (ba:mg "any" = none) (qIX:mg "zip" = none):FnOk P w K mg base CX0 2 f fd ["_law_net_here","_law_path","_law_thing"] qN1:=by
 refine F.okA qOS λbw A bq s H vs Q E hr h=>?_;obtain⟨a,t,u,Ae,o,c,rfl,PI,bm,bb,e,⟨z,lz,ad,zp,a1,ah⟩,q⟩:=h;have hu:=qGT hr;have ar:=hr.units0;refine⟨_,(qA4 (qB6 (PW.pt (qHB (qC2 (qC1 (qA7 qAP rfl qAA qAF (qA0 (pv 2) (qA0 (qBH (v:=.ty "tuple") rfl qAU qB9 rfl) qA2))))) (qEG (qAM (qI9 ar) (pv 2) (qDQ qA2) (qAQ _))))) (qA5 (qAG qCJ)) qAI) (qA4 (qB6 (qC2 (qC1 (qA7 (qFB rfl) rfl qH4 qKL (qA0 (qDA rfl (lcs (own:=["_law_work"]) (fv:=[0]) (by kernel_rfl)) (qCT (pv 2)) (λz2=>qCH 0) (λz2=>qAW) (λz2=>(qGD (qA7 (qFT (K:=K) rfl) rfl qAA qAF (qA0 (pv 0) (qA0 (qBH (v:=.ty "int") rfl qGF qKK rfl) qA2))) (qGD (qTD (qA7 (qFT (K:=K) rfl) rfl qAA qAF (qA0 (pv 0) (qA0 (qBH (v:=.ty "bool") rfl qIJ qPL rfl) qA2)))) (qIN (qQC qZC qRJ qA6 (pv 0) (qA7 (qEM (K:=K) rfl) rfl qB5 qBA (qA0 (pv 1) qA2)))))))) qA2)))) (qA5 (qAG qCJ)) qAI) (qA4 (qB6 (PW.pt (qHB (qAM (qRI ar) (qB7 qBB (pv 0) (qB7 qBB (pv 2) qA6 (λ_ _=>rfl)) (λ_ _=>rfl)) (qDQ qA2) (qAQ _)) (qHB (qC1 (qA7 (qR0 rfl) rfl ba qYA (qA0 (qDA rfl (lcs (own:=["_law_work"]) (fv:=[1]) (by kernel_rfl)) (qCT (pv 2)) (λz3=>qCH 0) (λz3=>qAW) (λz3=>(qCI (qTN (K:=K) rfl) (pv 0) (pv 1) (by with_unfolding_all rfl)))) qA2))) (qEG (qAM qD4 (qB7 qBB (pv 2) (qTC qMV qA6) (λ_ _=>rfl)) (qB4 bo hr rfl (qA0 (pv 0) (qA0 (pv 1) qA2))) (by with_unfolding_all rfl)))))) (qA5 (qAG qCJ)) qAI) (qA5 (qAG (qA7 (qFB rfl) rfl qH4 qKL (qA0 (qDA rfl (lcs (own:=["_law_one","_law_other"]) (fv:=[0]) (by kernel_rfl)) (qNG rfl qIX qO7 (qA0 (pv 2) (qA0 (qDI qN3 (pv 2) (qEY qA6) qEZ) qA2))) (λz4=>qJU (K:=K) (n:=2) rfl rfl (qB2 (qCH 0) (qB2 (qCH 1) qEE)) rfl rfl) (λz4=>qAW) (λz4=>(qCI (qTN (K:=K) rfl) (pv 0) (qB7 (qP4 (K:=K) rfl) (pv 2) (pv 1) (λ_ _=>rfl)) (by with_unfolding_all rfl)))) qA2))))))),?_⟩
 obtain⟨hN,wf,av,hT,bg,lp,bc⟩:=id PI;obtain⟨rs,hA,NL⟩:=id hN;have bf:=B4 NL;have be:1<=c.length:=R7.mpr z;unfold qGA at zp;rw[C6] at zp;obtain⟨b7,ai⟩:=zp;refine cut λN0 b9=>⟨_,rfl,_,"tuple",_,true,rfl,TyOf.tup e,qHH true,_,rfl,_,rfl,(by show 0<=B89;decide),λe0 bd=>?_⟩
 have s1:=qA3 bd (.tup []);refine⟨u,e0,_,rfl,rfl,Ac0 (s1 _ _ e),Ac0 qA1,_,rfl,?_⟩;generalize Ag H e0 (.tup [])=H1 at s1 ⊢;rw[show(c.map V.int).isEmpty=false by cases c with|nil=>exact absurd rfl z|cons _ _=>rfl]
 refine b9 _ _ (cut λN1 bh=>⟨_,rfl,u,rfl,⟨_,Ac0 (s1 _ _ e)⟩,λpx aj=>qGE (p:=px) (a:=u) (xs:=c.map V.int) (λi σ Hd=>∃(v:Option V),σ=[v,some (.ref a)]/\Same H1 Hd/\Hd px=some (.lst ((C7 i true).map V.bl))) ?_ ?_ ?_ ?_⟩)
 ·exact⟨none,rfl,qA3 aj _,qA1⟩
 ·rintro i σ Hd hi ⟨v,rfl,sd,_⟩;exact Ac0 ((s1.trans sd) _ _ e)
 ·refineλi x' σ Hd hx as=>opq λbv aq=>?_;obtain⟨v,rfl,sd,gp⟩:=as;obtain⟨y,ey,rfl⟩:=qAV hx;refine aq ?_;have hi:=(A3.mp ey).1;have yb:=ad y (B3 ey);refine⟨_,rfl,_,"int",_,true,rfl,.int _,rfl,true,rfl,?_⟩;rw[if_pos rfl];refine⟨_,rfl,_,"bool",_,false,rfl,.int _,rfl,_,rfl,true,rfl,?_⟩;rw[if_pos rfl];refine⟨_,rfl,_,_,rfl,rfl,true,congrArg V.bl (decide_eq_true yb.1),?_⟩;rw[if_pos rfl];refine⟨_,rfl,a,_,rfl,.inr (Ac0 ((s1.trans sd) _ _ hA)),?_⟩;rw[A0,bf];refine⟨_,_,rfl,rfl,_,gp,qAL (by rw[A0,L8];lia),_,rfl,qAB sd aj,?_⟩
  dsimp only;rw[qA1,decide_eq_true yb.2,Q0,B2]
  rfl
 refineλσ Hd au=>opq λbx ap=>?_;obtain⟨v,rfl,sd,gp⟩:=au;refine ap ⟨px,_,rfl,Ab2 gp,?_⟩;rw[show(C7 (c.map V.int).length true).all id=true by simp]
 refine⟨_,rfl,?_⟩;have a4:=s1.trans sd;obtain⟨zl,ay⟩:∃zl,c.getLast?=some zl:=⟨_,Z3 z⟩;have b1:(c.map V.int).getLast?=some (.int zl):=by rw[A38,ay];rfl
 have b4:c.getLastD 0=zl:=by rw[J2,ay];rfl
 rw[b4] at a1;obtain⟨z0,zr,af⟩:∃z0 zr,c=z0::zr:=by cases c with|nil=>exact absurd rfl z|cons a b=>exact⟨a,b,rfl⟩
 have b3:(c.map V.int)[(0:Int).toNat]?=some (.int z0):=by rw[af];rfl
 refine bh _ _ (cut λN2 b6=>?_);have sb:=ad z0 (by rw[af];exact A8)
 have hw:z0.toNat<Ae.length:=by lia
 have hz:=A5 hw;obtain⟨r,h3,h4⟩:=NL.get hz;have en:=qBI hz;generalize Ae[z0.toNat]=ys at h4 hz en;rw[show c.headD 0=z0 by rw[af];rfl,en,V6] at ai
 subst ai;refine⟨_,rfl,_,rfl,u,_,_,_,rfl,rfl,Ac0 (a4 _ _ e),qBK (J9 0) b3,a,_,_,_,rfl,rfl,Ac0 (a4 _ _ hA),qBK sb.1 (by rw[C0,h3];rfl),(by show 0<=B89;decide),λe2 az=>?_⟩
 have s2:=qA3 az (.tup []);have d:=a4.trans s2;refine⟨r,e2,_,rfl,rfl,Ac0 (d _ _ h4),Ac0 qA1,_,rfl,?_⟩;generalize Ag Hd e2 (.tup [])=H2 at s2 d ⊢;refine iteF ⟨_,rfl,u,rfl,⟨_,Ac0 (d _ _ e)⟩,λpa ak=>qGE (p:=pa) (a:=u) (xs:=c.map V.int) (λi σ He=>∃(v:Option V),σ=[v,some (.ref t)]/\Same H2 He/\He pa=some (.lst ((C7 i false).map V.bl))) ?_ ?_ ?_ ?_⟩
 ·exact⟨none,rfl,qA3 ak _,qA1⟩
 ·rintro i σ He hi ⟨v,rfl,se,_⟩;exact Ac0 ((d.trans se) _ _ e)
 ·refineλi x' σ He hx ab=>opq λbr aa=>?_;obtain⟨v,rfl,se,a9⟩:=ab;obtain⟨y1,ey,rfl⟩:=qAV hx;refine aa ?_;have hi:=(A3.mp ey).1;refine⟨_,rfl,_,rfl,t,_,rfl,.inr (Ac0 ((d.trans se) _ _ hT)),rfl,qCW o,_,a9,qAL (by rw[A0,L8];lia),_,rfl,qAB se ak,?_⟩
  rw[qA1,qF1,decide_eq_false (ah y1 (B3 ey)),Q0,B2]
  rfl
 refineλσ He a5=>opq λbt a7=>?_;obtain⟨v,rfl,se,a9⟩:=a5;refine a7 ⟨pa,_,rfl,Ab2 a9,?_⟩;rw[show(C7 (c.map V.int).length false).any id=false by simp]
 refine⟨_,rfl,?_⟩;have a0:=d.trans se;refine iteF ⟨_,rfl,_,rfl,u,_,_,_,rfl,rfl,Ac0 (a0 _ _ e),qH1 b1,?_⟩;have b0:qFU He a t Ae o:=⟨hN.same a0,wf,av,a0 _ _ hT,bg,lp,bc⟩;refine⟨_,rfl,_,rfl,a,t,Ae,o,rfl,b0,bm,bb,λlh bi H4 s4 bk _ ao=>⟨lh,_,rfl,.inl (Ab2 bk),rfl,qCW bi,_,rfl,?_⟩⟩;rw[qF1];have am:=a0.trans s4;rw[decide_eq_true ((ao zl).mpr a1)];refine b6 _ _ ⟨_,rfl,_,rfl,_,rfl,u,_,rfl,Ac0 (am _ _ e),?_,λt2 bp=>?_⟩
 ·rw[A0,show(1:Int)=((1:Nat):Int) from rfl,HT.sIx_nat]
  lia
 rw[qDK,show(1:Int)=((1:Nat):Int) from rfl,qEL _ _ be];have s5:=qA3 bp (.tup ((c.drop 1).map V.int));have g5:(Ag H4 t2 (.tup ((c.drop 1).map V.int))) t2=some (.tup ((c.drop 1).map V.int)):=qA1;have k:=am.trans s5;generalize Ag H4 t2 (.tup ((c.drop 1).map V.int))=H5 at s5 g5 k ⊢;refine⟨true,u,t2,rfl,⟨_,Ac0 (k _ _ e)⟩,⟨_,Ac0 g5⟩,λpz aw=>qZO (p:=pz) (b:=true) (l:=u) (m:=t2) (xs:=c.map V.int) (ys:=(c.drop 1).map V.int) (by rw[A0,A0,J5];lia) (λj σ Hy=>E2 λ(v1 v2:Option V)=>σ=[v1,v2,some (.ref a)]/\Same H5 Hy/\Hy pz=some (.lst ((C7 j true).map V.bl))) ?_ (λj σ Hy _ h=>?_) ?_ ?_⟩
 ·exact⟨none,none,rfl,qA3 aw _,qA1⟩
 ·obtain⟨_,_,_,sy,_⟩:=h;exact⟨Ac0 ((k.trans sy) _ _ e),Ac0 (sy _ _ g5)⟩
 ·refineλj x y σ Hy T hx hy ag b2=>opq λbu a3=>?_;obtain⟨v1,v2,rfl,sy,ae⟩:=ag;obtain⟨f1,ef,rfl⟩:=qAV hx;obtain⟨f2,a6,rfl⟩:=qAV hy;refine a3 ?_;rw[k4,Z9] at a6;have hj:=(A3.mp ef).1;have sT:=qA3 b2 (.tup [.int f1,.int f2]);have gT:SqT K (Ag Hy T (.tup [.int f1,.int f2])) T [.int f1,.int f2]:=Ac0 qA1;have a2:=sT _ _ ae;generalize Ag Hy T (.tup [.int f1,.int f2])=H6 at sT gT a2 ⊢;refine⟨T,_,rfl,gT,rfl,_,_,rfl,_,_,rfl,rfl,?_⟩;have bn:=ad f2 (B3 a6);have b5:f2.toNat<Ae.length:=by lia
  have g:=A5 b5;obtain⟨r2,b8,an⟩:=NL.get g;have al:=qBI g;generalize Ae[f2.toNat]=bj at an g al;have ax:=k.trans (sy.trans sT);refine⟨_,rfl,_,rfl,_,rfl,a,_,_,_,rfl,rfl,Ac0 (ax _ _ hA),qBK bn.1 (by rw[C0,b8];rfl),r2,_,rfl,.inr (Ac0 (ax _ _ an)),rfl,qCW bj,_,a2,qAL (by rw[A0,L8];lia),_,_,rfl,qAB (sy.trans sT) aw,?_⟩
  rw[qA1,qF1,decide_eq_true (by rw[<- al];exact chain_iff.mp b7 j f1 f2 ef a6),Q0,B2]
  rfl
 refineλσ Hy ac=>opq λbs a8=>?_;obtain⟨v1,v2,rfl,sy,ae⟩:=ac;refine a8 ⟨pz,_,rfl,Ab2 ae,?_⟩;rw[show(C7 ((c.drop 1).map V.int).length true).all id=true by simp]
 exact q Hy (k.trans sy)
def sc_Lare_sides:FnScope ["_law_net_here","_law_path","_law_thing","_law_works","_law_side"] ["_law_net_here","_law_path","_law_thing"] (qAC qE6):=qCF
theorem ok_Lare_sides (F:Fun K "_law_are_sides" "_law_are_sides" qE6 f fd) (a7:Clb P w K mg base 2 qIE qPB "_law_is_side" ["_law_net_here","_law_path","_law_thing"] qN1) (qAA:mg "isinstance" = none) (qC0:mg "list" = none) (qB5:mg "len" = none) (qH4:mg "all" = none) (ah:mg "set" = none):FnOk P w K mg base CX0 3 f fd ["_law_net_here","_law_path","_law_thing"] qJ8:=by
 refine F.okA sc_Lare_sides λam A ae s H vs Q E hr h=>?_;obtain⟨a,t,ll,Ae,c,y,ss,rfl,PI,ab,a8,ga,TT,a3,a0,sl,q⟩:=h;have an:=hr.units0;refine⟨_,(qA4 (qB6 (PW.pt (qHB (qC2 (qC1 (qA7 qAP rfl qAA qAF (qA0 (pv 2) (qA0 (qBH (v:=.ty "list") rfl qC0 qDB rfl) qA2))))) (qEG (qC2 (qC1 (qA7 (qFB rfl) rfl qH4 qKL (qA0 (qDA rfl (lcs (own:=["_law_side"]) (fv:=[0,1]) (by kernel_rfl)) (qBV (pv 2)) (λz5=>qCH 0) (λz5=>qAW) (λz5=>(qB4 a7 hr rfl (qA0 (pv 1) (qA0 (pv 2) (qA0 (pv 0) qA2)))))) qA2))))))) (qA5 (qAG qCJ)) qAI) (qA4 (qAK (i:=3) sc_Lare_sides.nd rfl (G2 rfl) (qAY qA2)) (qA4 (qBU F0 rfl (qBV (pv 2)) (qAS (i:=4) sc_Lare_sides.nd rfl (G2 rfl)) (qA5 (qBG (qEH C8 j4 j6 qRN (pv 3) (qA0 (pv 4) qA2))))) (qA5 (qAG (qCI qGB (qA7 qAD rfl qB5 qBA (qA0 (pv 3) qA2)) (qA7 qVH rfl qB5 qBA (qA0 (qAO (qHT rfl) rfl ah qR1 (qA0 (pv 3) qA2)) qA2)) (qAQ _))))))),?_⟩
 obtain⟨hN,wf,a5,hT,ad,lp,a9⟩:=id PI;have a4:=B4 TT;have ag:∀{H':Hp},Same H H'->qFU H' a t Ae c:=λk=>⟨hN.same k,wf,a5,k _ _ hT,ad,lp,a9⟩;refine cut λN0 a6=>⟨_,rfl,_,"list",_,true,rfl,TyOf.lst ga,rfl,_,rfl,_,rfl,ll,rfl,⟨_,Ab2 ga⟩,λpx a1=>qDT (p:=px) (a:=ll) (xs:=y.map V.ref) (λi σ Hd=>∃(v:Option V),σ=[v,some (.ref a),some (.ref t)]/\Same H Hd/\Hd px=some (.lst ((C7 i true).map V.bl))) ?_ ?_ ?_ ?_⟩
 ·exact⟨none,rfl,qA3 a1 _,qA1⟩
 ·rintro i σ Hd hi ⟨v,rfl,sd,_⟩;exact Ab2 (sd _ _ ga)
 ·refineλi x' σ Hd hx m=>opq λak g=>?_;obtain⟨v,rfl,sd,gp⟩:=m;obtain⟨tz,er,rfl⟩:=qB8 hx;obtain⟨d,ez,gz⟩:=qAH TT er;refine g ?_;have hi:=(A3.mp ez).1;refine⟨_,rfl,_,rfl,_,rfl,a,t,tz,Ae,c,d,rfl,ag sd,ab,a8,sd _ _ gz,a3 d (B3 ez),λH2 s2=>⟨_,s2 _ _ gp,qAL (by rw[A0,L8];lia),_,rfl,qAB (sd.trans s2) a1,?_⟩⟩
  rw[qA1,Q0,B2]
  rfl
 refineλσ Hd x=>opq λaj o=>?_;obtain⟨v,rfl,sd,gp⟩:=x;refine o ⟨px,_,rfl,Ab2 gp,?_⟩;rw[show(C7 (y.map V.ref).length true).all id=true by simp]
 refine⟨_,rfl,a6 _ _ (cut λN1 af=>⟨(by show 0<=B89;decide),λb a2=>?_⟩)⟩
 have s2:=qA3 a2 (.lst []);have g2:(Ag Hd b (.lst [])) b=some (.lst (([]:List Int).map V.int)):=qA1;have aa:H b=none:=sd.free a2;have u:=sd.trans s2;generalize Ag Hd b (.lst [])=H2 at s2 g2 u ⊢;refine af _ _ (cut λN2 ac=>?_);refine⟨_,rfl,ll,rfl,⟨_,Ab2 (u _ _ ga)⟩,qF4 (a:=ll) (xs:=y.map V.ref) (λi σ Hc=>∃(v4:Option V),σ=[some (.ref a),some (.ref t),some (.ref ll),some (.ref b),v4]/\Same H Hc/\Hc b=some (.lst (((ss.take i).flatten).map V.int))/\((ss.take i).flatten).length<=60*i)
  ⟨none,rfl,u,g2,A9 _⟩ (λi σ Hc _ hP=>by obtain⟨_,_,sc,_⟩:=hP;exact Ab2 (sc _ _ ga)) ?_ ?_⟩
 ·refineλi x' σ Hc hx j=>opq λai r=>?_;obtain⟨v4,rfl,sc,l,lf⟩:=j;obtain⟨tz,er,rfl⟩:=qB8 hx;obtain⟨d,ez,gz⟩:=qAH TT er;refine r ?_;have hi:=(A3.mp ez).1;have lz:=(a3 d (B3 ez)).2.1;have ef:(ss.take (i+1)).flatten=(ss.take i).flatten++d:=by rw[C5,ez,D8,Z0];simp
  refine⟨_,rfl,.inl ⟨rfl,_,Ab2 l⟩,_,rfl,b,tz,_,_,rfl,rfl,l,Ac0 (sc _ _ gz),by rw[B94,A0,A0];lia,?_⟩
  exact⟨_,rfl,qAB sc aa,by rw[qA1,ef,B2],by rw[ef,B0];lia⟩
 ·refineλσ Hc n=>opq λal z=>?_;obtain⟨v4,rfl,sc,l,lf⟩:=n;refine z ?_;rw[A0,a4,F8] at l lf;refine ac _ _ ?_;generalize ss.flatten=d at l lf a0;refine⟨_,rfl,b,_,rfl,.inl (Ab2 l),?_⟩;rw[A0];refine⟨_,rfl,b,d,rfl,Ab2 l,by lia,λe he=>?_⟩
  refine⟨e,dedI d,rfl,qA1,rfl,?_⟩;rw[ded_nodup.mpr a0,decide_eq_true rfl];exact q _ (sc.trans (qA3 he _))
end
theorem qZF {ns:List Nat} {k:Nat} {y:Int} (h:(ns.map λn:Nat=>(n:Int))[k]?=some y):∃n:Nat,ns[k]?=some n/\y=(n:Int):=by
 rw[C0] at h;cases e:ns[k]? with
 |none=>rw[e] at h;cases h
 |some n=>rw[e] at h;cases h;exact⟨n,rfl,rfl⟩
def sc_Lmost_sides:FnScope ["_law_net_here","_law_path","_law_most","_law_work","_law_side","_law_bits","_law_used"] ["_law_net_here","_law_path"] (qAC qDH):=qCF
theorem ok_Lmost_sides (F:Fun K "_law_most_sides" "_law_most_sides" qDH f fd) (bu:Clb P w K mg base 1 qO4 qPC "_law_hit" ["_law_net_here","_law_path"] qSS) (qCX:Clb P w K mg base 1 qG7 qHQ "_law_paths" ["_law_net_here","_law_work"] qH7) (bv:mg "sum" = none) (bn:mg "any" = none) (qC0:mg "list" = none) (b7:mg "max" = none):FnOk P w K mg base CX0 2 f fd ["_law_net_here","_law_path"] qSR:=by
 refine F.okA sc_Lmost_sides λc5 A bx s H vs Q E hr h=>?_;obtain⟨a,t,Ae,g,rfl,PI,n9,bo,q⟩:=h;have hu:=qGT hr;have c6:=hr.units0;refine⟨_,(qA4 (qAK (i:=2) sc_Lmost_sides.nd rfl (G2 rfl) (qM4 (qG1 qA6 qA6 qM3) rfl rfl (by simp) (by decide))) (qA4 (qBU F0 rfl (qBV (qB4 bu hr rfl (qA0 (pv 0) (qA0 (pv 1) qA2)))) (qAS (i:=3) sc_Lmost_sides.nd rfl (G2 rfl)) (qA5 (qBU F0 rfl (qBV (qB4 qCX hr rfl (qA0 (pv 0) (qA0 (pv 3) qA2)))) (qAS (i:=4) sc_Lmost_sides.nd rfl (G2 rfl)) (qA4 (qAK (i:=5) sc_Lmost_sides.nd rfl (G2 rfl) (qA7 (qMN rfl) rfl bv qVI (qA0 (qDA rfl (lcs (own:=["_law_one"]) (fv:=[]) (by kernel_rfl)) (qCT (pv 4)) (λz1=>qCH 0) (λz1=>qAW) (λz1=>(qAN qTJ qA6 (pv 0)))) qA2))) (qA5 (qB6 (qC2 (qC1 (qA7 (qR0 rfl) rfl bn qYA (qA0 (qDA rfl (lcs (own:=["_law_one"]) (fv:=[1]) (by kernel_rfl)) (qCT (pv 4)) (λz2=>qCH 0) (λz2=>qAW) (λz2=>(qCI (qTN (K:=K) rfl) (pv 0) (pv 1) (by with_unfolding_all rfl)))) qA2)))) (qA5 (qBU F0 rfl (qBV (qAO (qS5 rfl) rfl qC0 qDB (qA0 (pv 2) qA2))) (qAS (i:=6) sc_Lmost_sides.nd rfl (G2 rfl)) (qA5 (qB6 (qAM qGB (qAN qbW (pv 6) (pv 5)) qA6 (qAQ _)) (qA5 (qEX hu (pv 2) (qAN qbV (pv 6) (pv 5)) (qA7 (qKI rfl) rfl b7 qR3 (qA0 (qWD hu (pv 2) (qAN qbV (pv 6) (pv 5)) qA6 ⟨rfl,rfl,rfl,rfl⟩) (qA0 (qAN qCG (qCU hu (pv 2) (pv 6) (λ_ _=>rfl)) qA6) qA2))) rfl)) qAI)))) qAI)))))) (qA5 (qAG (qA7 (qVG rfl) rfl b7 qR3 (qA0 (qAO (qS3 rfl) rfl qC0 qDB (qA0 (qNH A44 PySem.F.slot_dict_values PySem.F.type_dict_values qTU (pv 2)) qA2)) qA2)))))),?_⟩
 obtain⟨hN,wf,b5,hT,bs,lp,b4⟩:=id PI;refine cut λN0 bm=>λdm ba=>⟨qA1,[(E9 0,.int 0)],rfl,(by show 1<=15;decide),?_⟩
 have em:qEJ [] [((E9 0:Key),V.int 0)]=[((E9 0:Key),V.int 0)]:=by
  unfold qEJ;simp[putK]
 rw[em,qI2];have s1:=qA3 ba (.dK [((E9 0:Key),V.int 0)]);have g1:(Ag H dm (.dK [((E9 0:Key),V.int 0)])) dm=some (.dK [((E9 0:Key),V.int 0)]):=qA1;generalize Ag H dm (.dK [((E9 0:Key),V.int 0)])=H1 at s1 g1 ⊢;refine bm _ _ (cut λN1 bt=>⟨_,rfl,_,rfl,a,t,Ae,g,rfl,⟨hN.same s1,wf,b5,s1 _ _ hT,bs,lp,b4⟩,by lia,bo,λlh zs H2 s2 gh c3 hm=>?_⟩)
 have g2:=s2 _ _ g1;have be:lh≠dm:=qCK gh g2 (by intro z;cases z)
 have S2:=s1.trans s2;have hz:∀z∈zs,(0<=z/\z<(Ae.length:Int))/\qCV Ae g z=true:=λz hz=>by
  have he:=(hm z).mp hz;obtain⟨_,w,h4,h5⟩:=end_iff.mp he;have wb:=b4 w (P3 h4);have xb:=qD1 wf wb.1 h5;exact⟨⟨xb.1,by lia⟩,he⟩
 obtain⟨D,eD⟩:∃D:(List Int->Prop)->Hp->Prop,D=λP Hc=>∃(Af:List (Key×V)) (M:Nat->Option Nat) (ns:List Nat) (L:Aa0),Same H Hc/\Keep dm dm H2 Hc/\Hc dm=some (.dK Af)/\DkM Af M ns/\(∀n∈ns,n<512)/\DpS L M/\(∀u∈L,IsS Ae g u)/\∀u,IsS Ae g u->P u->u∈L:=⟨_,rfl⟩;refine⟨lh,rfl,⟨_,Ab2 gh⟩,qF4 (a:=lh) (xs:=zs.map V.int) (λi σ Hc=>E4 λ(v3 v4 v5 v6:Option V)=>σ=[some (.ref a),some (.ref t),some (.ref dm),v3,v4,v5,v6]/\D (λu=>∃z∈zs.take i,u.getLast?=some z) Hc)
  ⟨none,none,none,none,rfl,by rw[eD];exact⟨_,_,_,[],S2,Keep.refl,g2,DkM.start,(λn hn=>by rw[A6.mp hn];decide),DpS.start,(λu hu=>nomatch hu),λu _ ⟨z,h,_⟩=>nomatch h⟩⟩ (λi σ Hc _ ⟨_,_,_,_,_,d⟩=>by rw[eD] at d;obtain⟨_,_,_,_,_,k,_⟩:=d;exact Ab2 (k _ _ gh be be)) ?_ ?_⟩
 ·refineλi x σ Hc hx bb=>opq λc7 aq=>?_;obtain⟨v3,v4,v5,v6,rfl,d⟩:=bb;obtain⟨z,ez,rfl⟩:=qAV hx;obtain⟨⟨z0,z1⟩,he⟩:=hz z (B3 ez);refine aq ?_;have as:cn Ae z<=300:=by
   have a:=qe1 wf _ z rfl z0;have b:(2:Int)^z.toNat<=(2:Int)^8:=p2 (by lia)
   have e:(2:Int)^8=256:=rfl
   lia
  rw[eD] at d;obtain⟨Af,M,ns,L,sc,kc,gd,dk,a0,dp,lS,lA⟩:=d;refine⟨_,rfl,_,rfl,a,Ae,z,rfl,hN.same sc,wf,by lia,z0,z1,as,λlq tz H3 s3 c2 TL SP _ _=>?_⟩
  obtain⟨rp,gP,NP⟩:=TL;have ag:=s3 _ _ gd;have bd:lq≠dm:=qCK gP ag (by intro z;cases z)
  refine⟨lq,rfl,⟨_,Ab2 gP⟩,qF4 (a:=lq) (xs:=rp.map V.ref) (λj σ Hd=>E3 λ(v4 v5 v6:Option V)=>σ=[some (.ref a),some (.ref t),some (.ref dm),some (.int z),v4,v5,v6]/\Keep dm dm H3 Hd/\D (λu=>(∃z∈zs.take i,u.getLast?=some z)\/u∈tz.take j) Hd)
   ⟨v4,v5,v6,rfl,Keep.refl,by rw[eD];exact⟨Af,M,ns,L,sc.trans s3,kc.trans (Keep.of_same s3),ag,dk,a0,dp,lS,λu hu h=>h.elim (lA u hu) λh=>by simp at h⟩⟩ (λj σ Hd _ hP=>by obtain⟨_,_,_,_,k,_⟩:=hP;exact Ab2 (k _ _ gP bd bd)) ?_ ?_⟩
  ·refineλj x σ Hd hx az=>opq λc9 ay=>?_;obtain⟨v4,v5,v6,rfl,kd,d⟩:=az;obtain⟨r,er,rfl⟩:=qB8 hx;obtain⟨u,eu,gu⟩:=qAH NP er;refine ay ?_;have ah:u∈tz:=B3 eu;obtain⟨bi,R⟩:=(SP.some wf z0 z1).2 u ah;have lu:=R.len;have am:r≠dm:=qCK gu ag (by intro z;cases z)
   have a6:=kd _ _ gu am am;rw[eD] at d;obtain⟨Af,M,ns,L,sd,b9,br,dk,a0,dp,lS,lA⟩:=d;refine cut λM1 bw=>⟨_,rfl,r,rfl,⟨_,Ac0 a6⟩,λpx ak=>qGE (p:=px) (a:=r) (xs:=u.map V.int) (λk σ He=>∃(v:Option V),σ=[v]/\Same Hd He/\He px=some (.lst (((u.take k).map λx:Int=>(1:Int)*2^x.toNat).map V.int))) ?_ ?_ ?_ ?_⟩
   ·exact⟨none,rfl,qA3 ak _,qA1⟩
   ·rintro k σ He hk ⟨v,rfl,se,_⟩;exact Ac0 (se _ _ a6)
   ·refineλk x' σ He hx ar=>opq λcb b6=>?_;obtain⟨v,rfl,se,gq⟩:=ar;obtain⟨y,ey,rfl⟩:=qAV hx;refine b6 ?_;have yb:=R.in_ y (B3 ey);refine⟨_,rfl,_,_,rfl,rfl,⟨yb.1,by lia,by decide⟩,_,gq,qAL (by rw[A0,A0,D3];lia),_,rfl,qAB se ak,by rw[qA1,C5,ey,D8,B2,B2];rfl⟩
   refineλσ H4 bc=>opq λcd b2=>?_;obtain⟨v,rfl,s4,gq⟩:=bc;refine b2 ?_;rw[A0,F8] at gq;refine⟨px,_,rfl,Ab2 gq,?_⟩;rw[qR4];refine bw _ _ ⟨_,rfl,r,rfl,⟨_,Ac0 (s4 _ _ a6)⟩,λpy ax=>qGE (p:=py) (a:=r) (xs:=u.map V.int) (λk σ He=>∃(v:Option V),σ=[v,some (.ref t)]/\Same H4 He/\He py=some (.lst (((u.take k).map λx:Int=>decide (x∈g)).map V.bl))) ?_ ?_ ?_ ?_⟩
   ·exact⟨none,rfl,qA3 ax _,qA1⟩
   ·rintro k σ He hk ⟨v,rfl,se,_⟩;exact Ac0 (se _ _ (s4 _ _ a6))
   ·refineλk x' σ He hx ao=>opq λca au=>?_;obtain⟨v,rfl,se,gq⟩:=ao;obtain⟨y,ey,rfl⟩:=qAV hx;refine au ⟨_,rfl,_,rfl,t,_,rfl,.inr (Ac0 (se _ _ (s4 _ _ (sd _ _ hT)))),rfl,qCW g,_,gq,qAL (by rw[A0,A0,D3];lia),_,rfl,qAB se ax,by rw[qA1,C5,ey,D8,B2,B2,qF1];rfl⟩
   refineλσ H5 b1=>opq λc4 aw=>?_;obtain⟨v,rfl,s5,gb⟩:=b1;refine aw ?_;rw[A0,F8] at gb;refine⟨py,_,rfl,Ab2 gb,_,rfl,?_⟩;have S5:Same Hd H5:=s4.trans s5;have ac:=S5 _ _ br;cases an:((u.map λx:Int=>decide (x∈g)).any id) with
   |true=>
    refine iteF ⟨_,_,_,rfl,kd.trans (Keep.of_same S5),?_⟩;rw[eD];refine⟨Af,M,ns,L,sd.trans S5,b9.trans (Keep.of_same S5),ac,dk,a0,dp,lS,λw hw h=>lA w hw ?_⟩;rcases h with h|h
    ·exact .inl h
    ·rw[C5,eu,D8] at h;rcases C1.mp h with k|k
     ·exact .inr k
     ·exfalso
      have no:=(qQD wf SP z0 z1 he ah).mp (by rw[<- A6.mp k];exact hw)
      obtain⟨b,hb,eb⟩:=R1.mp an;obtain⟨x,hx,rfl⟩:=C3.mp hb;exact no x hx (of_decide_eq_true eb)
   |false=>
    refine iteT ?_;have hS:IsS Ae g u:=(qQD wf SP z0 z1 he ah).mpr λx hx hp=>by
     have:((u.map λx:Int=>decide (x∈g)).any id)=true:=R1.mpr ⟨true,C3.mpr ⟨x,hx,decide_eq_true hp⟩,rfl⟩;rw[an] at this;cases this
    have ups:=hS.ups wf;have b8:=qZH ups.2.1 λx hx=>by have:=R.in_ x hx;lia
    refine⟨_,rfl,dm,Af,ns.map (λn:Nat=>(n:Int)),rfl,ac,by rw[dk.keys,Q1];rfl,λlk bq=>?_⟩
    have bj:mskN u≠0:=λe=>by
     cases u with
     |nil=>exact bi rfl
     |cons y w=>
      have b:=qGR ups.2.1 ups.2.2 y.toNat;have y0:=ups.2.2 y A8;rw[e,A57,show((y.toNat:Nat):Int)=y by lia,decide_eq_true A8] at b
      cases b
    have s6:=qA3 bq (.lst ((ns.map (λn:Nat=>(n:Int))).map V.int));have gk:(Ag H5 lk (.lst ((ns.map (λn:Nat=>(n:Int))).map V.int))) lk=some (.lst ((ns.map (λn:Nat=>(n:Int))).map V.int)):=qA1;have S6:=S5.trans s6;have a9:=s6 _ _ ac;generalize Ag H5 lk (.lst ((ns.map (λn:Nat=>(n:Int))).map V.int))=H6 at s6 gk S6 a9 ⊢;have ap:lk≠dm:=qCK gk a9 (by intro z;cases z)
    refine⟨lk,rfl,⟨_,Ab2 gk⟩,qF4 (a:=lk) (xs:=(ns.map (λn:Nat=>(n:Int))).map V.int) (λk σ He=>E4 λ(v6:Option V) (kvs2:List (Key×V)) (N:Nat->Option Nat) (ns2:List Nat)=>σ=[some (.ref a),some (.ref t),some (.ref dm),some (.int z),some (.ref r),some (.int (mskN u:Nat)),v6]/\Keep dm dm H6 He/\Same H He/\He dm=some (.dK kvs2)/\DkM kvs2 N ns2/\(∀n∈ns2,n<512)/\DpI M (mskN u) (ns.take k) N)
     ⟨v6,Af,M,ns,rfl,Keep.refl,sd.trans S6,a9,dk,a0,DpI.start⟩ (λk σ He _ hP=>by obtain⟨_,_,_,_,_,ke,_⟩:=hP;exact Ab2 (ke _ _ gk ap ap)) ?_ ?_⟩
    ·refineλk x' σ He hx b3=>opq λc8 av=>?_;obtain⟨v6,kvs2,N,ns2,rfl,ke,se,a5,a4,n2,di⟩:=b3;obtain⟨y,ey,rfl⟩:=qAV hx;obtain⟨n,en,rfl⟩:=qZF ey;obtain⟨v,ev⟩:=T0.mp (dk.mem.mpr (B3 en));refine av ?_;have tk:ns.take (k+1)=ns.take k++[n]:=by rw[C5,en];rfl
     refine⟨_,rfl,_,rfl,_,_,rfl,rfl,rfl,_,rfl,?_⟩;dsimp only;have bg:decide (V.int (r8 (n:Int) ((mskN u:Nat):Int))=V.int 0)=decide (n &&& mskN u=0):=decide_eq_decide.mpr ⟨λz=>by have:=V.int.inj z;rw[qLQ] at this;lia,λz=>by rw[qLQ,z];rfl⟩
     rw[bg];by_cases c:n &&& mskN u=0
     ·rw[decide_eq_true c];refine iteT ?_;have Nu:=di.same bj ev c;have vn:valV kvs2 (E9 (n:Int))=some (.int (v:Int)):=by rw[a4.val,Nu];rfl
      refine⟨_,rfl,dm,rfl,.inl ⟨_,.inl a5⟩,_,rfl,_,rfl,_,_,rfl,rfl,?_⟩;dsimp only;rw[qO8];have dg:DGet He dm (.int (n:Int)) (some (.int (v:Int))):=vn▸DGet.k (k:=E9 (n:Int)) a5;have go:(valV kvs2 (E9 ((n ||| mskN u:Nat):Int))).getD (.int 0)=.int (((N (n ||| mskN u)).getD 0:Nat):Int):=by
       rw[a4.val];cases N (n ||| mskN u)<;>rfl
      have mx:(if(v:Int)+1>(((N (n ||| mskN u)).getD 0:Nat):Int) then(v:Int)+1 else(((N (n ||| mskN u)).getD 0:Nat):Int))=((max ((N (n ||| mskN u)).getD 0) (v+1):Nat):Int):=by
       split<;>lia
      have as:kvs2.length<=512:=by
       have:=qZG a4.nd n2;have e:=congrArg Y7 a4.keys;rw[A0,A0] at e
       lia
      refine⟨_,DGet.k (k:=E9 ((n ||| mskN u:Nat):Int)) a5,_,rfl,_,rfl,dm,_,rfl,dg,_,_,rfl,rfl,_,_,by rw[go],?_⟩
      rw[mx];refine⟨_,rfl,_,rfl,_,rfl,_,_,rfl,rfl,?_⟩;dsimp only;rw[qO8];refine⟨dm,_,rfl,DPut.k (k:=E9 ((n ||| mskN u:Nat):Int)) a5 (qAL (by lia)),?_⟩
      have e9:(λc=>if c=n ||| mskN u then some (max ((N (n ||| mskN u)).getD 0) (v+1)) else N c)=λb=>if b=n ||| mskN u then some (max ((N b).getD 0) (v+1)) else N b:=by
       funext b
       by_cases eb:b=n ||| mskN u
       ·rw[if_pos eb,if_pos eb,eb]
       ·rw[if_neg eb,if_neg eb]
      have P:=a4.put (n ||| mskN u) (max ((N (n ||| mskN u)).getD 0) (v+1));rw[e9] at P;refine⟨_,_,_,_,rfl,λb o e n1 n2=>by rw[qA8 n1];exact ke b o e n1 n2,qAB se ba,qA1,P,λx hx=>?_,by rw[tk];exact di.next ev c⟩
      by_cases eb:n ||| mskN u∈ns2
      ·rw[if_pos eb] at hx;exact n2 x hx
      ·rw[if_neg eb] at hx;rcases C1.mp hx with k|k
       ·exact n2 x k
       ·rw[A6.mp k];exact qbT (a0 n (B3 en)) b8
     ·rw[decide_eq_false c];exact iteF ⟨_,_,_,_,rfl,ke,se,a5,a4,n2,by rw[tk];exact di.skip c⟩
    ·refineλσ He ai=>opq λbz aa=>?_;obtain⟨v6,kvs2,N,ns2,rfl,ke,se,a5,a4,n2,di⟩:=ai;refine aa ?_;rw[A0,A0,F8] at di;refine⟨_,_,_,rfl,(kd.trans (Keep.of_same S6)).trans ke,?_⟩;rw[eD];refine⟨kvs2,N,ns2,L++[u],se,(b9.trans (Keep.of_same S6)).trans ke,a5,a4,n2,dp.next (λw hw=>(lS w hw).ups wf) ups di (λb v e=>dk.mem.mp (by rw[e];rfl)),λw hw=>?_,λw hw h=>?_⟩
     ·exact(C1.mp hw).elim (lS w) λk=>by rw[A6.mp k];exact hS
     ·rcases h with h|h
      ·exact L6 _ (lA w hw (.inl h))
      ·rw[C5,eu,D8] at h;exact(C1.mp h).elim (λk=>L6 _ (lA w hw (.inr k))) λk=>F6 _ k
  ·refineλσ Hd af=>opq λc0 ae=>?_;obtain⟨v4,v5,v6,rfl,kd,d⟩:=af;refine ae ?_;rw[eD] at d;obtain⟨Af,M,ns,L,sc,kc,gd,dk,a0,dp,lS,lA⟩:=d;refine⟨_,_,_,_,rfl,?_⟩;rw[eD];refine⟨Af,M,ns,L,sc,kc,gd,dk,a0,dp,lS,λu hu h=>lA u hu ?_⟩;obtain⟨y,hy,ey⟩:=h;rw[C5,ez,D8] at hy;rcases C1.mp hy with k|k
   ·exact .inl ⟨y,k,ey⟩
   ·rw[A6.mp k] at ey;refine .inr ?_;rw[A0,B4 NP,F8];exact qWK wf SP z0 hu ey
 refineλσ Hc ab=>opq λc1 ad=>?_;obtain⟨v3,v4,v5,v6,rfl,d⟩:=ab;refine ad ?_;rw[eD] at d;obtain⟨Af,M,ns,L,sc,kc,gd,dk,a0,dp,lS,lA⟩:=d;refine bt _ _ ?_;have bk:∀u,IsS Ae g u->u∈L:=λu hu=>by
  obtain⟨z,ez,he⟩:=hu.last;exact lA u hu ⟨z,by rw[A0,F8];exact(hm z).mpr he,ez⟩
 obtain⟨cc,bf,aj⟩:∃m:Int,topD none (ns.map λn:Nat=>(((M n).getD 0:Nat):Int))=some m/\∀ts,SidesOf Ae g ts->m=(ts.length:Int):=by
  obtain⟨v0,e0,_⟩:=dp.all [] (List.nil_sublist _) .nil;have a7:=dk.mem.mp (by rw[e0];rfl:(M (uni [])).isSome=true)
  cases e:ns.map λn:Nat=>(((M n).getD 0:Nat):Int) with
  |nil=>rw[A06] at e;rw[e] at a7;cases a7
  |cons y l=>
   refine⟨topI y l,rfl,λts SO=>?_⟩;obtain⟨al,b0,a8⟩:=dp.most wf SO lS bk;have mem:(ts.length:Int)∈ns.map λn:Nat=>(((M n).getD 0:Nat):Int):=C3.mpr ⟨b0,dk.mem.mp (by rw[a8];rfl),by rw[a8];rfl⟩
   have le:∀y∈ns.map λn:Nat=>(((M n).getD 0:Nat):Int),y<=(ts.length:Int):=λy hy=>by
    obtain⟨n,hn,rfl⟩:=C3.mp hy;obtain⟨v,ev⟩:=T0.mp (dk.mem.mpr hn);rw[ev];have:=al n v ev;show(v:Int)<=_
    lia
   rw[e] at mem le;obtain⟨a1,a2,a3⟩:=qSM l y;have h1:topI y l<=(ts.length:Int):=a3.elim (λq=>by rw[q];exact le y A8) λq=>le _ (A7 _ q)
   have h2:(ts.length:Int)<=topI y l:=(B9.mp mem).elim (λq=>by rw[q];exact a1) λq=>a2 _ q
   exact Int.le_antisymm h1 h2
 refine⟨_,rfl,.inr (.inr (.inl ⟨rfl,.inl ⟨_,gd⟩⟩)),dm,Af,rfl,rfl,gd,λrv bh=>?_⟩;have sv:=qA3 bh (qVQ rv dm);refine⟨rv,dm,Af,rfl,qA1,sv _ _ gd,λlv bp=>?_⟩;rw[dk.vals];exact⟨lv,_,_,rfl,Ab2 qA1,bf,q _ _ (sc.trans (sv.trans (qA3 bp _))) aj⟩
theorem qNE {a b:Int} (h:a<=b):qAJ a (b+1)=qAJ a b++[b]:=by
 unfold qAJ;rw[show(b+1-a).toNat=(b-a).toNat+1 by lia,c6,B2]
 congr 1;rw[A20];congr 1
 lia
theorem qYC {a b k:Int} (c:0<=k)(d:a+k<b):atI ((qAJ a b).map V.int) k=some (.int (a+k)):=by
 refine qBK c ?_;unfold qAJ;rw[C0,C0,B02 (by lia)]
 show some (V.int (a+(k.toNat:Int)))=_;rw[show((k.toNat:Nat):Int)=k by lia]
def sc_Lfull_tree:FnScope ["_law_deep","_law_found","_law_ahead","_law_now","_law_k"] ["_law_deep"] (qAC qE5):=qCF
theorem ok_Lfull_tree (F:Fun K "_law_full_tree" "_law_full_tree" qE5 f fd) (qC0:mg "list" = none) (qBZ:mg "range" = none) (qB5:mg "len" = none) (qAU:mg "tuple" = none):FnOk P w K mg base CX0 1 f fd ["_law_deep"] qST:=by
 refine F.okA sc_Lfull_tree λay A ax s H vs Q E hr h=>?_;obtain⟨u,rfl,d1,d4,q⟩:=h;refine⟨_,(qA4 (qAK (i:=1) sc_Lfull_tree.nd rfl (G2 rfl) (qAN qTK (qAY (qA0 (qDQ qA2) qA2)) (qAN qTJ qA6 (pv 0)))) (qA4 (qAK (i:=2) sc_Lfull_tree.nd rfl (G2 rfl) (qAO (qMP rfl) rfl qC0 qDB (qA0 (qAO qVF rfl qBZ qR2 (qA0 (qAN qTJ qA6 (pv 0)) qA2)) qA2))) (qA4 (qEW F0 (qAM qTO (qA7 qAD rfl qB5 qBA (qA0 (pv 2) qA2)) qA6 (qAQ _)) (qA4 (qAK (i:=3) sc_Lfull_tree.nd rfl (G2 rfl) (qAY qA2)) (qA4 (qBU F0 rfl (qZ7 rfl qBZ (qA0 qA6 (qA0 (qA7 qAD rfl qB5 qBA (qA0 (pv 2) qA2)) (qA0 qA6 qA2)))) (qAS (i:=4) sc_Lfull_tree.nd rfl (G2 rfl)) (qA4 (qBG (qEH C8 F2 F3 qB0 (pv 3) (qA0 (qA7 qAD rfl qB5 qBA (qA0 (pv 1) qA2)) qA2))) (qA5 (qBG (qEH C8 F2 F3 qB0 (pv 1) (qA0 (qDQ (qA0 (qB7 qCL (pv 2) (pv 4) (λ_ _=>rfl)) (qA0 (qB7 qCL (pv 2) (qAN qCG (pv 4) qA6) (λ_ _=>rfl)) qA2))) qA2)))))) (qA5 (qAK (i:=2) sc_Lfull_tree.nd rfl (G2 rfl) (pv 3)))))) (qA5 (qAG (qAO qAZ rfl qAU qB9 (qA0 (pv 1) qA2))))))),?_⟩;have p4:2^u<=16:=L5 (X5 (by decide) d4) (by decide)
 have p1:1<=2^u:=A22;have sh:(1:Int)*2^((u:Int)).toNat=((2^u:Nat):Int):=by rw[B50,O0];simp
 obtain⟨M,eM⟩:∃M:Nat,M=2^u:=⟨_,rfl⟩;rw[<- eM] at p4 p1 sh;refine cut λN0 ao=>⟨(by show 0<=B89;decide),λe he=>⟨(by show 1<=B89;decide),λp0 af=>?_⟩⟩
 have u1:=qA3 he (.tup []);have ge:(Ag H e (.tup [])) e=some (.tup (([]:List Int).map V.int)):=qA1;generalize Ag H e (.tup [])=Ha at u1 ge af ⊢;have u2:=qA3 af (.lst [.ref e]);refine⟨_,rfl,_,_,rfl,rfl,⟨by lia,by lia,by decide⟩,?_⟩
 dsimp only;rw[sh];refine⟨p0,_,_,rfl,rfl,qA1,by lia,by lia,by rw[C2,O0,B94];lia,λb a7=>?_⟩
 rw[O0,qQ6];have u3:=qA3 a7 (.lst ((C7 M e).map V.ref));have g:(Ag (Ag Ha p0 (.lst [.ref e])) b (.lst ((C7 M e).map V.ref))) b=some (.lst ((C7 M e).map V.ref)):=qA1;have uA:=u1.trans (u2.trans u3);have ak:=(u2.trans u3) _ _ ge;have f1:H b=none:=(u1.trans u2).free a7;generalize Ag (Ag Ha p0 (.lst [.ref e])) b (.lst ((C7 M e).map V.ref))=Hb at g uA ak ⊢;refine ao _ _ (cut λN1 ar=>⟨_,rfl,_,_,rfl,rfl,⟨by lia,by lia,by decide⟩,?_⟩)
 dsimp only;rw[sh];refine⟨_,rfl,λpr a3=>⟨pr,_,_,rfl,qA1,by decide,by decide,by lia,by lia,λl a5=>?_⟩⟩
 rw[qJS];have u4:=(qA3 a3 (.rng 0 (M:Int))).trans (qA3 a5 (.lst ((qAJ 0 (M:Int)).map V.int)));have k:(Ag (Ag Hb pr (.rng 0 (M:Int))) l (.lst ((qAJ 0 (M:Int)).map V.int))) l=some (.lst ((qAJ 0 (M:Int)).map V.int)):=qA1;have al:H l=none:=(uA.trans (qA3 a3 (.rng 0 (M:Int)))).free a5;have a1:l≠b:=(qA9 (qA3 a3 (.rng 0 (M:Int)) _ _ g) a5).symm;generalize Ag (Ag Hb pr (.rng 0 (M:Int))) l (.lst ((qAJ 0 (M:Int)).map V.int))=Hc at u4 k ⊢;have uC:=uA.trans u4;refine ar _ _ (cut λN2 am=>?_);obtain⟨I,eI⟩:∃I:Nat->St->Hp->Prop,I=λm σ Hx=>∃(j ex:Nat) (l:Addr) (rs:List Addr) (v3 v4:Option V),σ=[some (.int (u:Int)),some (.ref b),some (.ref l),v3,v4]/\m=2^ex/\j+2^ex=M/\Same H Hx/\H l=none/\l≠b/\Hx l=some (.lst ((qAJ (2*(j:Int)) (2*(j:Int)+((2^ex:Nat):Int))).map V.int))/\Hx b=some (.lst (rs.map V.ref))/\NetL Hx rs (ftP u j):=⟨_,rfl⟩;refine⟨I,⟨_,by rw[eI];exact⟨0,u,l,_,none,none,rfl,rfl,by lia,uC,al,a1,by rw[<- eM];simpa using k,u4 _ _ g,by show NetL Hc _ (C7 (2^u) []++[]);rw[M6,<- eM];exact qNM (u4 _ _ ak) M⟩⟩,?_⟩
 intro m σ Hx hI;rw[eI] at hI;obtain⟨j,ex,l,rs,v3,v4,rfl,rfl,ej,sx,al,a1,k,y,NX⟩:=hI;have aq:=B4 NX;rw[qP7,<- eM] at aq;have l2:(qAJ (2*(j:Int)) (2*(j:Int)+((2^ex:Nat):Int))).length=2^ex:=by
  rw[qD0,show 2*(j:Int)+((2^ex:Nat):Int)-2*(j:Int)=((2^ex:Nat):Int) by generalize ((2^ex:Nat):Int)=z;lia,O0]
 refine⟨_,rfl,l,_,rfl,.inl (Ab2 k),_,_,rfl,rfl,_,rfl,?_⟩;dsimp only;rw[A0,l2];refine ite2 (λc1=>?_) (λc1=>?_)
 ·have c1:1<((2^ex:Nat):Int):=of_decide_eq_true c1;have ap:∃ey,ex=ey+1:=⟨ex-1,by cases ex with|zero=>simp at c1|succ n=>rfl⟩
  obtain⟨ey,rfl⟩:=ap;obtain⟨B,eB⟩:∃B:Nat,B=2^ey:=⟨_,rfl⟩;have e2:2^(ey+1)=2*B:=by rw[T6,<- eB];lia
  rw[e2] at ej k l2 c1 ⊢;have B1:1<=B:=by lia
  refine⟨λσ' H'=>∃m',m'<2*B/\I m' σ' H',λ_ _ h=>h,cut λM0 av=>⟨(by show 0<=B89;decide),λp x=>?_⟩⟩
  have t1:=qA3 x (.lst []);have t:(Ag Hx p (.lst [])) p=some (.lst ((qAJ ((M:Int)+j) ((M:Int)+j+((0:Nat):Int))).map V.int)):=by rw[qA1];simp[qAJ]
  have ag:H p=none:=sx.free x;have a4:p≠b:=(qA9 y x).symm;have a8:p≠l:=(qA9 k x).symm;have d:=t1 _ _ k;have g:=t1 _ _ y;have aj:NetL (Ag Hx p (.lst [])) rs (ftP u j):=Paired.mapP NX λr z e=>t1 _ _ e;have ad:=sx.trans t1;generalize Ag Hx p (.lst [])=Hy at t d g aj ad ⊢;refine av _ _ (cut λM1 aw=>?_);refine⟨_,rfl,l,_,rfl,.inl (Ab2 d),0,_,2,B,rfl,⟨by decide,by decide,by lia,by rw[A0,l2];lia,by decide,by decide⟩,?_,qX0 (lo:=0) (c:=2) (n:=B) (λi σ v=>E2 λ(rs:List Addr) (v4:Option V)=>σ=[some (.int (u:Int)),some (.ref b),some (.ref l),some (.ref p),v4]/\Same H v/\v l=some (.lst ((qAJ (2*(j:Int)) (2*(j:Int)+((2*B:Nat):Int))).map V.int))/\v p=some (.lst ((qAJ ((M:Int)+j) ((M:Int)+j+(i:Int))).map V.int))/\v b=some (.lst (rs.map V.ref))/\NetL v rs (ftP u (j+i)))
   ⟨rs,v4,rfl,ad,d,t,g,aj⟩ ?_ ?_⟩
  ·rw[A0,l2];unfold G5;rw[if_pos (by decide),if_pos (by lia)]
   lia
  ·refineλi σ v hi ah=>opq λaz a9=>?_;obtain⟨rs,v4,rfl,sz,k,t,y,NZ⟩:=ah;refine a9 ?_;have aa:=B4 NZ;rw[qP7,<- eM] at aa;refine cut λL1 au=>⟨_,rfl,.inl ⟨rfl,_,Ab2 t⟩,_,rfl,b,_,rfl,.inl (Ab2 y),p,_,_,rfl,rfl,t,qAL (by rw[A0,qD0];lia),?_⟩
   rw[A0,aa];have ns:(qAJ ((M:Int)+j) ((M:Int)+j+(i:Int))).map V.int++[V.int ((M+(j+i):Nat):Int)]=(qAJ ((M:Int)+j) ((M:Int)+j+((i+1:Nat):Int))).map V.int:=by
    rw[show((M:Int)+j+((i+1:Nat):Int))=(M:Int)+j+(i:Int)+1 by lia,qNE (by lia),B2,show((M+(j+i):Nat):Int)=(M:Int)+j+(i:Int) by lia]
    rfl
   rw[ns];have ac:=qAB (o:=.lst ((qAJ ((M:Int)+j) ((M:Int)+j+((i+1:Nat):Int))).map V.int)) sz ag;have a0:(Ag v p (.lst ((qAJ ((M:Int)+j) ((M:Int)+j+((i+1:Nat):Int))).map V.int))) p=some (.lst ((qAJ ((M:Int)+j) ((M:Int)+j+((i+1:Nat):Int))).map V.int)):=qA1;have d:(Ag v p (.lst ((qAJ ((M:Int)+j) ((M:Int)+j+((i+1:Nat):Int))).map V.int))) l=some (.lst ((qAJ (2*(j:Int)) (2*(j:Int)+((2*B:Nat):Int))).map V.int)):=by rw[qA8 a8.symm];exact k
   have g:(Ag v p (.lst ((qAJ ((M:Int)+j) ((M:Int)+j+((i+1:Nat):Int))).map V.int))) b=some (.lst (rs.map V.ref)):=by rw[qA8 a4.symm];exact y
   have a6:NetL (Ag v p (.lst ((qAJ ((M:Int)+j) ((M:Int)+j+((i+1:Nat):Int))).map V.int))) rs (ftP u (j+i)):=Paired.mapP NZ λr z e=>by rw[qA8 (qCK e t (λz=>nomatch z))];exact e
   generalize Ag v p (.lst ((qAJ ((M:Int)+j) ((M:Int)+j+((i+1:Nat):Int))).map V.int))=Hw at ac a0 d g a6 ⊢;refine au _ _ ?_;have an:atI ((qAJ (2*(j:Int)) (2*(j:Int)+((2*B:Nat):Int))).map V.int) (0+(i:Int)*2)=some (.int (2*((j+i:Nat):Int))):=by
    rw[show(2*((j+i:Nat):Int))=2*(j:Int)+(0+(i:Int)*2) by lia]
    exact qYC (by lia) (by lia)
   have as:atI ((qAJ (2*(j:Int)) (2*(j:Int)+((2*B:Nat):Int))).map V.int) (0+(i:Int)*2+1)=some (.int (2*((j+i:Nat):Int)+1)):=by
    rw[show(2*((j+i:Nat):Int)+1)=2*(j:Int)+(0+(i:Int)*2+1) by lia]
    exact qYC (by lia) (by lia)
   refine⟨_,rfl,.inl ⟨rfl,_,Ab2 g⟩,_,rfl,_,rfl,l,_,_,_,rfl,rfl,Ab2 d,an,_,rfl,_,rfl,_,_,rfl,rfl,l,_,_,_,rfl,rfl,Ab2 d,as,(by show 2<=B89;decide),λT hT=>?_⟩
   have sT:=qA3 hT (.tup [.int (2*((j+i:Nat):Int)),.int (2*((j+i:Nat):Int)+1)]);have gT:=qA1 (H:=Hw) (a:=T) (o:=.tup [.int (2*((j+i:Nat):Int)),.int (2*((j+i:Nat):Int)+1)]);refine⟨b,_,_,rfl,rfl,sT _ _ g,qAL (by rw[A0];lia),?_⟩
   rw[qBO];have nT:T≠b:=(qA9 g hT).symm;refine⟨rs++[T],_,rfl,qAB (ac.trans sT) f1,by rw[qA8 a1];exact sT _ _ d,by rw[qA8 a4];exact sT _ _ a0,qA1,?_⟩
   rw[<- z8,qWZ];refine A03 (Paired.mapP a6 λr z e=>?_) (by rw[qA8 nT];exact gT)
   have e2:=sT _ _ e;rw[qA8 (qCK e2 (sT _ _ g) (λz=>nomatch z))];exact e2
  ·refineλσ v ae=>opq λb0 ab=>?_;obtain⟨rs,v4,rfl,sz,k,t,y,NZ⟩:=ae;refine ab (aw _ _ ⟨_,rfl,B,by lia,?_⟩)
   rw[eI];refine⟨j+B,ey,p,rs,_,_,rfl,eB,by lia,sz,ag,a4,?_,y,NZ⟩
   rw[t,<- eB,show 2*((j+B:Nat):Int)=(M:Int)+j by lia]
 ·have c1:¬1<((2^ex:Nat):Int):=of_decide_eq_false (U0.mpr c1);have e1:2^ex=1:=by have:=A22 (n:=ex);generalize 2^ex=z at *;lia
  have e0:j=2^u-1:=by rw[<- eM];lia
  subst e0;exact am _ _ ⟨_,rfl,b,_,rfl,.inl ⟨Ab2 y,λa2 ai=>q _ _ (sx.trans (qA3 ai _)) ⟨rs,qA1,Paired.mapP NX λr z e=>qA3 ai _ _ _ e⟩⟩⟩
def qN9:FnScope ["net","work"] ["net","work"] (qAC qES):=qCF
theorem ok_cut_paper (F:Fun K "cut_paper" "cut_paper" qES f fd) (qCE:FnOk P w K mg base (CX1 P w) 2 qCA qD7 ["net","work"] (qOM qAE)) (qCC:Binds K qD7 ["net","work"] []) (qD2:J1 K (.ref qCA)=true) (qC4:mg "all_paths" = some (.ref qCA)) (qDP:Clb P w K mg base 3 qG6 qKA "sides_of" ["net","path"] qOL):FnOk P w K mg base (CX1 P w) 4 f fd ["net","work"] (qJ9 qAE):=by
 refine F.okX qN9 (λvs H Q E h=>?_) (λap A al s H vs Q E hr h=>?_)
 ·obtain⟨a,Ae,i,rfl,_⟩:=h
  rfl
 obtain⟨a,Ae,i,rfl,hN,wf,aj,w0,w1,q,qE⟩:=h;have ae:Room 2 _:=hr.mono (by decide)
 refine⟨_,(qA5 (qAG (qDA rfl (lcs (own:=["path"]) (fv:=[0]) (by kernel_rfl)) (qBV (qDR qCE ae rfl qC4 qD2 qCC .nil qTG (qA0 (pv 0) (qA0 (pv 1) qA2)))) (λz1=>qCH 0) (λz1=>qAW) (λz1=>(qDQ (qA0 (pv 0) (qA0 (qB4 qDP hr rfl (qA0 (pv 1) (qA0 (pv 0) qA2))) qA2))))))),_,rfl,_,rfl,a,Ae,i,rfl,hN,wf,by lia,w0,w1,λad lP ts H1 t an TL SP am _=>?_,λab H1 t=>qE ab H1 t⟩
 obtain⟨rp,gP,NP⟩:=TL;have ah:=B4 NP;obtain⟨_,pr⟩:=SP.some wf w0 w1;refine⟨lP,rfl,⟨_,Ab2 gP⟩,λpx k=>?_⟩;have ag:=hN.same t;refine qDT (p:=px) (a:=lP) (xs:=rp.map V.ref) (λj σ l=>E3 λ(v:Option V) (rs:List Addr) (qs:List (Addr×List Int×Aa0))=>σ=[v,some (.ref a)]/\Same H1 l/\l px=some (.lst (rs.map V.ref))/\Paired (Row3 l) rs qs/\qs.map (λq=>q.2.1)=ts.take j/\(qs.map (·.1)).Nodup/\∀q∈qs,SidesOf Ae q.2.1 q.2.2/\H1 q.1=none/\q.1≠px/\∃o,l q.1=some o) ?_ ?_ ?_ ?_
 ·exact⟨none,[],[],rfl,qA3 k _,qA1,.nil,by simp,B53,λp hp=>nomatch hp⟩
 ·rintro j σ l hj ⟨v,rs,ps,rfl,sd,_⟩;exact Ab2 (sd _ _ gP)
 ·refineλj x σ l hx a8=>opq λar a7=>?_;obtain⟨v,rs,ps,rfl,sd,gp,PA,em,n,so⟩:=a8;obtain⟨u,er,rfl⟩:=qB8 hx;obtain⟨b,ep,gt⟩:=qAH NP er;obtain⟨af,R⟩:=pr b (B3 ep);refine a7 ?_;have as:=R.len;have hj:=(A3.mp ep).1;have aq:=B4 PA;have lm:ps.length=(ts.take j).length:=by rw[<- em,A0]
  rw[D3] at lm;refine⟨_,rfl,_,rfl,_,rfl,a,u,Ae,b,rfl,⟨ag.same sd,wf,by lia,sd _ _ gt,af,by lia,R.in_⟩,aj,λd ak ss Hx sx fl gl TT SO=>?_⟩
  refine⟨(by show 2<=B89;decide),λr ai=>?_⟩
  have sr:=qA3 ai (.tup [.ref u,.ref d]);have c:=sx.trans sr;have m:=c _ _ gp;have nl:d≠px:=λz=>by rw[z,gp] at fl;cases fl
  have hR:Row3 (Ag Hx r (.tup [.ref u,.ref d])) r (d,b,ss):=⟨u,ak,qA1,c _ _ (sd _ _ gt),sr _ _ gl,Paired.mapP TT λ_ _ e=>sr _ _ e⟩;have a5:Paired (Row3 (Ag Hx r (.tup [.ref u,.ref d]))) (rs++[r]) (ps++[(d,b,ss)]):=qB3 (Paired.mapP PA λ_ _ e=>e.same c) hR;have a0:=sr _ _ gl;generalize Ag Hx r (.tup [.ref u,.ref d])=Hy at sr c m hR a5 a0 ⊢;refine⟨_,m,qAL (by rw[A0];lia),?_⟩
  rw[qBO];have aa:∀q∈ps++[(d,b,ss)],SidesOf Ae q.2.1 q.2.2/\H1 q.1=none/\q.1≠px/\∃o,Hy q.1=some o:=λq hq=>by
   rcases C1.mp hq with h|h
   ·obtain⟨a1,a2,a3,o,a4⟩:=so q h;exact⟨a1,a2,a3,o,c _ _ a4⟩
   ·rw[A6.mp h];exact⟨SO,sd.free fl,nl,_,a0⟩
  refine⟨_,rs++[r],ps++[(d,b,ss)],rfl,qAB (sd.trans c) k,qA1,?_,?_,?_,λq hq=>?_⟩
  ·exact qGP a5 λr' q' hm e=>e.put m (aa q' hm).2.2.1
  ·rw[B2,em,C5,ep]
   rfl
  ·rw[B2];refine O3.mpr ⟨n,by simp,λx hx y hy e=>?_⟩
   obtain⟨q,hq,rfl⟩:=C3.mp hx;rw[C3] at hy;obtain⟨q2,ac,rfl⟩:=hy;rw[A6.mp ac] at e;obtain⟨_,_,_,o,g⟩:=so q hq;rw[e,fl] at g;cases g
  ·obtain⟨a1,a2,a3,o,a4⟩:=aa q hq;exact⟨a1,a2,a3,o,by rw[qA8 a3];exact a4⟩
 refineλσ l a6=>opq λao a9=>?_;obtain⟨v,rs,ps,rfl,sd,gp,PA,em,n,so⟩:=a6;refine a9 ?_;rw[A0,ah,F8] at em;exact q ad px rs ps _ (t.trans sd) (t.free k) gp PA n (λp hp=>⟨t.free (so p hp).2.1,(so p hp).2.2.1⟩) ⟨by rw[em];exact SP,λp hp=>(so p hp).1⟩
def qNA:FnScope ["net","work"] ["net","work"] (qAC qET):=qCF
theorem ok_cut_bound (F:Fun K "cut_bound" "cut_bound" qET f fd) (qBS:FnOk P w K mg base (CX1 P w) 4 qBD qC7 ["net","work"] (qJ9 qAE)) (qBR:Binds K qC7 ["net","work"] []) (qC6:J1 K (.ref qBD)=true) (qBP:mg "cut_paper" = some (.ref qBD)) (qB5:mg "len" = none) (qH3:mg "min" = none):FnOk P w K mg base (CX1 P w) 5 f fd ["net","work"] (qJA qAE):=by
 refine F.okX qNA (λvs H Q E h=>?_) (λad A a8 s H vs Q E hr h=>?_)
 ·obtain⟨a,d,b,rfl,_⟩:=h
  rfl
 obtain⟨a,d,b,rfl,hN,wf,a4,y,w1,nb,q,qE⟩:=h;have a2:Room 4 _:=hr.mono (by decide)
 refine⟨_,(qA4 (qB6 (qC2 (qE7 (qB7 qBB (pv 0) (pv 1) (λ_ _=>rfl)) (λ_=>rfl))) (qA5 (qAG qA6)) qAI) (qA5 (qAG (qAN qCG qA6 (qA7 (qKH rfl) rfl qH3 qKJ (qA0 (qDA rfl (lcs (own:=["pair"]) (fv:=[]) (by kernel_rfl)) (qBV (qDR qBS a2 rfl qBP qC6 qBR .nil qTG (qA0 (pv 0) (qA0 (pv 1) qA2)))) (λz2=>qCH 0) (λz2=>qAW) (λz2=>(qA7 (qEM (K:=K) rfl) rfl qB5 qBA (qA0 (qB7 (qP4 (K:=K) rfl) (pv 0) qA6 (λ_ _=>rfl)) qA2)))) qA2)))))),cut λN0 a0=>?_⟩
 obtain⟨zs,ez⟩:∃zs,d[b.toNat]?=some zs:=⟨_,A5 (by lia)⟩
 have en:=qBI ez;obtain⟨ra,r,hA,ab,er,a5⟩:=hN.get ez;refine⟨_,rfl,_,rfl,a,_,_,_,rfl,rfl,Ac0 hA,qBK y er,_,.inr (.inl ⟨_,Ac0 a5,rfl⟩),?_⟩;cases zs with
 |nil=>
  have c:cn d b<=300:=by
   apply L9;intro z;exact nb (by lia) en
  exact iteT (q c 1 H (.refl _) (.inl ⟨en,rfl⟩))
 |cons z0 zr=>
  have a6:nd d b≠[]:=by rw[en];exactλz=>nomatch z
  refine iteF (a0 _ _ ⟨_,rfl,_,rfl,a,d,b,rfl,hN,wf,a4,y,w1,λc l rs ps H1 s1 fl gl PA ac fr ok=>?_,λa3 H1 s1=>qE a3 H1 s1⟩);have a9:=B4 PA;obtain⟨p1,_⟩:=ok.1.some wf y w1;rw[A0] at p1;have aa:ps.length<=300:=by
   have al:((aP d [b]).length:Int)=cn d b:=qOE wf _ [b] rfl y;have:=ok.1.1.length_eq;rw[A0] at this
   lia
  refine⟨l,rfl,⟨_,Ab2 gl⟩,λpx g=>qDT (p:=px) (a:=l) (xs:=rs.map V.ref) (λj σ e=>∃(v:Option V),σ=[v]/\Same H1 e/\e px=some (.lst (((ps.take j).map λq=>(q.2.2.length:Int)).map V.int))) ?_ ?_ ?_ ?_⟩
  ·exact⟨none,rfl,qA3 g _,qA1⟩
  ·rintro j σ e hj ⟨v,rfl,sd,_⟩;exact Ab2 (sd _ _ gl)
  ·refineλj x σ e hx o=>opq λag i=>?_;obtain⟨v,rfl,sd,u⟩:=o;obtain⟨r1,k,rfl⟩:=qB8 hx;refine i ?_;have hj:=(A3.mp k).1;obtain⟨p,ep,tp,af,g1,g2,g3,TT⟩:=qAH PA k;have lr:=B4 TT;refine⟨_,rfl,r1,_,_,_,rfl,rfl,Ac0 (sd _ _ g1),rfl,p.1,_,rfl,.inl (Ab2 (sd _ _ g3)),_,u,qAL (by rw[A0,A0,D3];lia),_,rfl,qAB sd g,?_⟩
   rw[qA1,C5,ep,D8,B2,B2,A0,lr]
   rfl
  refineλσ e n=>opq λae t=>?_;obtain⟨v,rfl,sd,u⟩:=n;refine t ?_;rw[A0,a9,F8] at u;obtain⟨m,em⟩:=qU0 (l:=ps.map λq=>(q.2.2.length:Int)) (λz=>by have:=congrArg Y7 z;rw[A0,O4] at this;lia)
  obtain⟨a1,a7⟩:=qQK em;exact⟨px,_,m,rfl,Ab2 u,em,_,_,rfl,rfl,q c _ e (s1.trans sd) (ok.bnd a6 a1 a7)⟩
def qLY:FnScope ["net","work","many","thing"] ["net","work","many","thing"] (qAC qE4):=qCF
theorem ok_shows_pair (F:Fun K "shows_pair" "shows_pair" qE4 f fd) (x:Clb P w K mg base 3 qHR qLM "is_path" ["net","thing"] qJP) (a1:Clb P w K mg base 4 qF6 qKV "shows_sides" ["net","path","thing"] qJ8) (qAA:mg "isinstance" = none) (qAU:mg "tuple" = none) (qB5:mg "len" = none):FnOk P w K mg base CX0 5 f fd ["net","work","many","thing"] qSQ:=by
 refine F.okA qLY λa9 A a4 s H vs Q E t h=>?_;obtain⟨a,r,Ae,l,a7,qq,rfl,hN,wf,a8,⟨u,a6,g,p,g3,TT⟩,d,hp,b,o,SO,q⟩:=h;have hu:=qGT t;have aa:=t.units0;refine⟨_,(qA4 (qB6 (PW.pt (qHB (qC2 (qC1 (qA7 qAP rfl qAA qAF (qA0 (pv 3) (qA0 (qBH (v:=.ty "tuple") rfl qAU qB9 rfl) qA2))))) (qEG (qAM qKS (qA7 qAD rfl qB5 qBA (qA0 (pv 3) qA2)) qA6 (qAQ _))))) (qA5 (qAG qCJ)) qAI) (qA4 (qB6 (PW.pt (qHB (qC2 (qC1 (qB4 x t rfl (qA0 (pv 0) (qA0 (qB7 qBB (pv 3) qA6 (λ_ _=>rfl)) qA2))))) (qEG (qAM qKS (qB7 qBB (qB7 qBB (pv 3) qA6 (λ_ _=>rfl)) (qTC qMV qA6) (λ_ _=>rfl)) (pv 1) (qAQ _))))) (qA5 (qAG qCJ)) qAI) (qA5 (qAG (qGD (qB4 a1 t rfl (qA0 (pv 0) (qA0 (qB7 qBB (pv 3) qA6 (λ_ _=>rfl)) (qA0 (qB7 qBB (pv 3) qA6 (λ_ _=>rfl)) qA2)))) (qIN (qCI qWE (qA7 qAD rfl qB5 qBA (qA0 (qB7 qBB (pv 3) qA6 (λ_ _=>rfl)) qA2)) (pv 2) (qAQ _)))))))),?_⟩;obtain⟨ls,n,ss⟩:=qq;dsimp only at g p g3 TT d hp b o SO q;have lz:=o.len;obtain⟨a0,a3,k⟩:=SO.sdT wf;refine cut λN0 z=>⟨_,rfl,_,"tuple",_,true,rfl,TyOf.tup g,qHH true,_,rfl,_,rfl,r,_,rfl,.inr (Ac0 g),rfl,_,rfl,?_⟩;rw[decide_eq_true (show V.int ((([V.ref u,V.ref ls].length:Nat)):Int)=V.int 2 from rfl)];refine z _ _ (cut λN1 a5=>⟨_,rfl,_,rfl,r,_,_,_,rfl,rfl,Ac0 g,qBK (J9 0) rfl,a,u,Ae,n,rfl,hN,wf,by lia,p,d,by lia,o.in_,hp,λH1 c=>⟨_,rfl,?_⟩⟩)
 obtain⟨j,m⟩:∃j,n.getLast?=some j:=⟨_,Z3 d⟩;have a2:(n.map V.int).getLast?=some (.int j):=by rw[A38,m];rfl
 have y:j=l:=by rw[<- b];show j=n.getLastD 0;rw[J2,m];rfl
 subst y;refine⟨_,rfl,r,_,_,_,rfl,rfl,Ac0 (c _ _ g),qBK (J9 0) rfl,_,rfl,u,_,_,_,rfl,rfl,Ac0 (c _ _ p),qH1 a2,_,rfl,rfl,_,rfl,?_⟩;rw[decide_eq_true (show V.int j=V.int j from rfl)];refine a5 _ _ ⟨_,rfl,_,rfl,r,_,_,_,rfl,rfl,Ac0 (c _ _ g),qBK (J9 0) rfl,_,rfl,r,_,_,_,rfl,rfl,Ac0 (c _ _ g),qBK (by decide) rfl,a,u,ls,Ae,n,a6,ss,rfl,⟨hN.same c,wf,by lia,c _ _ p,d,by lia,o.in_⟩,by lia,by lia,c _ _ g3,Paired.mapP TT (λ_ _ e=>c _ _ e),a0,a3,k,λH2 s2=>⟨_,rfl,?_⟩⟩
 have i:=c.trans s2;refine iteT ⟨_,rfl,r,_,_,_,rfl,rfl,Ac0 (i _ _ g),qBK (by decide) rfl,ls,_,rfl,.inl (Ab2 (i _ _ g3)),_,rfl,_,_,rfl,rfl,?_⟩
 rw[A0,B4 TT];exact q H2 i
def kS (s:List Int):List Key:=s.map E9
theorem qcF (s:List Int):(kS s).map kV=s.map V.int:=by unfold kS;rw[Q1];rfl
theorem qXY:∀{s s':List Int},kS s=kS s'->s=s'
 |[],[],_=>rfl
 |[],_::_,h=>by cases h
 |_::_,[],h=>by cases h
 |a::s,b::s',h=>by
  unfold kS at h;rw[D4,D4] at h
  injection h with h1 h2
  injection h1 with h1
  rw[h1,qXY h2]
def sc_shows_cut:FnScope ["net","work","rooms","thing","paths","seen","pair"] ["net","work","rooms","thing"] (qAC qEP):=qCF
theorem ok_shows_cut (F:Fun K "shows_cut" "shows_cut" qEP f fd) (qCE:FnOk P w K mg base (CX1 P w) 2 qCA qD7 ["net","work"] (qOM qAE)) (qCC:Binds K qD7 ["net","work"] []) (qD2:J1 K (.ref qCA)=true) (qC4:mg "all_paths" = some (.ref qCA)) (qEA:Clb P w K mg base 5 qFM qME "shows_pair" ["net","work","many","thing"] qSQ) (qAA:mg "isinstance" = none) (qC0:mg "list" = none) (qB5:mg "len" = none):FnOk P w K mg base (CX1 P w) 6 f fd ["net","work","rooms","thing"] (qSV qAE):=by
 refine F.okX sc_shows_cut (λvs H Q E h=>?_) (λaw A aq s H vs Q E hr h=>?_)
 ·obtain⟨a,Ae,b,d,x,rfl,_⟩:=h
  rfl
 obtain⟨a,Ae,b,d,x,rfl,hN,wf,an,w0,w1,q,qE⟩:=h;have ac:Room 2 _:=hr.mono (by decide)
 have hu:=qGT hr;have ax:=hr.units0;refine⟨_,(qA4 (qAK (i:=4) sc_shows_cut.nd rfl (G2 rfl) (qDR qCE ac rfl qC4 qD2 qCC .nil qTG (qA0 (pv 0) (qA0 (pv 1) qA2)))) (qA4 (qB6 (PW.pt (qHB (qC2 (qC1 (qA7 qAP rfl qAA qAF (qA0 (pv 3) (qA0 (qBH (v:=.ty "list") rfl qC0 qDB rfl) qA2))))) (qEG (qAM qKS (qA7 qAD rfl qB5 qBA (qA0 (pv 3) qA2)) (qA7 qAD rfl qB5 qBA (qA0 (pv 4) qA2)) (qAQ _))))) (qA5 (qAG qCJ)) qAI) (qA4 (qB6 (PW.pt (qQ8 (qC2 (qE7 (qB7 qBB (pv 0) (pv 1) (λ_ _=>rfl)) (λ_=>rfl))) (qM2 (qAM qKS (pv 2) qA6 (qAQ _))))) (qA5 (qAG qCJ)) qAI) (qA4 (qAK (i:=5) sc_shows_cut.nd rfl (G2 rfl) qWC) (qA4 (qBU own1 rfl (qBV (pv 3)) (qAS (i:=6) sc_shows_cut.nd rfl (G2 rfl)) (qA4 (qB6 (PW.pt (qHB (qC2 (qC1 (qB4 qEA hr rfl (qA0 (pv 0) (qA0 (pv 1) (qA0 (qAN qCY (pv 2) qA6) (qA0 (pv 6) qA2))))))) (qEG (qIM (qTE hu (qB7 qBB (pv 6) qA6 (λ_ _=>rfl)) (pv 5)))))) (qA5 (qAG qCJ)) qAI) (qA5 (qEX hu (pv 5) (qB7 qBB (pv 6) qA6 (λ_ _=>rfl)) qCJ rfl)))) (qA5 (qAG qCJ))))))),cut λN0 af=>⟨_,rfl,_,rfl,a,Ae,b,rfl,hN,wf,by lia,w0,w1,λab lp ts H1 j au TL SP ar av=>?_,λaa H1 j=>qE aa H1 j⟩⟩
 obtain⟨l,rs,g,rfl,gl,PA,ok,q⟩:=q ab;obtain⟨rp,gp,TP⟩:=TL;have a6:rs.length=g.length:=B4 PA;have ai:=SP.one ok.1;have lq:g.length=rp.length:=by rw[B4 TP,ai,A0]
 have as:=B4 TP;refine af _ _ (cut λN1 aj=>⟨_,rfl,_,"list",_,true,rfl,TyOf.lst (j _ _ gl),rfl,_,rfl,_,rfl,l,_,rfl,.inl (Ab2 (j _ _ gl)),_,rfl,lp,_,rfl,.inl (Ab2 gp),rfl,_,rfl,?_⟩);rw[A0,A0,a6,lq,decide_eq_true (show V.int ((rp.length:Nat):Int)=V.int ((rp.length:Nat):Int) from rfl)];refine aj _ _ (cut λN2 ad=>?_);have n:(nd Ae b=[]->d=1)->N2 [some (.ref a),some (.int b),some (.int d),some (.ref l),some (.ref lp),none,none] H1:=by
  intro c1;refine ad _ _ (cut λN3 am=>?_);intro m a3;have s2:=qA3 a3 (.dT []);have g2:(Ag H1 m (.dT [])) m=some (.dT []):=qA1;have ak:H m=none:=j.free a3;have o:=j.trans s2;generalize Ag H1 m (.dT [])=H2 at s2 g2 o ⊢;refine am _ _ (cut λN4 ag=>?_);refine⟨_,rfl,l,rfl,⟨_,Ab2 (o _ _ gl)⟩,qF4 (a:=l) (xs:=rs.map V.ref) (λi σ Hd=>E2 λ(Af:List (List Key×V)) (v6:Option V)=>σ=[some (.ref a),some (.int b),some (.int d),some (.ref l),some (.ref lp),some (.ref m),v6]/\Same H Hd/\Hd m=some (.dT Af)/\Af.length<=i/\(∀z,(valV Af (kS z)).isSome=decide (z∈(g.take i).map λq=>q.2.1))/\∀q∈g.take i,d-2<=(q.2.2.length:Int))
   ⟨[],none,rfl,o,g2,A9 _,λz=>by simp[valV],λq hq=>by simp at hq⟩ (λi σ Hd _ hP=>by obtain⟨_,_,_,sd,_⟩:=hP;exact Ab2 (sd _ _ gl)) ?_ ?_⟩
  ·refineλi x' σ Hd hx a8=>opq λay a4=>?_;obtain⟨Af,v6,rfl,sd,gk,lk,hv,al⟩:=a8;obtain⟨r,er,rfl⟩:=qB8 hx;obtain⟨p,ep,R3⟩:=qAH PA er;refine a4 ?_;have hi:=(A3.mp ep).1;have c:=B3 ep;have et:g.take (i+1)=g.take i++[p]:=by rw[C5,ep];rfl
   obtain⟨ah,pI,pl⟩:=(qM5 wf ok.1 w0 p.2.1).mp (C3.mpr ⟨p,c,rfl⟩);have a0:=(ok.1.some wf w0 w1).2 p.2.1 (C3.mpr ⟨p,c,rfl⟩);refine nmD λD1 dn dr=>cut λM1 ap=>⟨_,rfl,_,rfl,_,rfl,_,_,rfl,rfl,_,rfl,a,r,Ae,b,d-2,p,rfl,hN.same sd,wf,an,R3.same sd,ah,pI,pl,a0.2,ok.2 p c,λH3 s3=>⟨_,rfl,?_⟩⟩;have a1:=sd.trans s3;by_cases cm:d-2<=(p.2.2.length:Int)
   ·rw[decide_eq_true cm];obtain⟨tp,b1,h1,h2,h3,h4⟩:=R3.same a1;have a2:=s3 _ _ gk;refine iteF ⟨_,rfl,r,_,_,_,rfl,rfl,Ac0 h1,qBK (J9 0) rfl,_,rfl,m,_,rfl,.inr ⟨Af,kS p.2.1,tp,.inl a2,rfl,by rw[qcF];exact h2,rfl⟩,_,rfl,?_⟩
    have ao:p.2.1∉(g.take i).map λq=>q.2.1:=λy=>by
     have a9:=SortP.nodup wf ok.1 w0;rw[<- S0 (i+1) g,B2,et,B2] at a9;exact(O3.mp (O3.mp a9).1).2.2 _ y _ (A6.mpr rfl) rfl
    rw[hv p.2.1,decide_eq_false ao];refine iteF (ap _ _ ⟨_,rfl,_,rfl,r,_,_,_,rfl,rfl,Ac0 h1,qBK (J9 0) rfl,m,_,rfl,DPut.t (k:=kS p.2.1) a2 (by rw[qcF];exact h2) (qAL (by lia)),dn _ _ ⟨_,_,rfl,qAB a1 ak,qA1,L5 (qC5 _ _ _) (by lia),λz=>?_,λq hq=>?_⟩⟩)
    ·rw[qFV,et,B2];by_cases e:z=p.2.1
     ·rw[e,if_pos rfl];simp
     ·rw[if_neg λu=>e (qXY u),hv z];simp[e]
    ·rw[et] at hq;rcases C1.mp hq with h|h
     ·exact al q h
     ·rw[A6.mp h];exact cm
   ·rw[decide_eq_false cm];exact iteT (iteT (dr _ _ (q _ _ a1 ⟨λz=>(by cases z),λz=>absurd (z.2 p c) cm⟩)))
  ·refineλσ Hd a7=>opq λb0 a5=>?_;obtain⟨Af,v6,rfl,sd,gk,lk,hv,al⟩:=a7;refine a5 ?_;rw[A0,a6,F8] at al;exact ag _ _ (q _ _ sd ⟨λ_=>⟨c1,al⟩,λ_=>rfl⟩)
 obtain⟨zs,ez⟩:∃zs,Ae[b.toNat]?=some zs:=⟨_,A5 (by lia)⟩
 have en:=qBI ez;obtain⟨ra,r,hA,az,er,ae⟩:=(hN.same j).get ez;refine⟨_,rfl,_,rfl,a,_,_,_,rfl,rfl,Ac0 hA,qBK w0 er,_,.inr (.inl ⟨_,Ac0 ae,rfl⟩),?_⟩;cases zs with
 |nil=>
  refine iteT ⟨_,rfl,rfl,_,rfl,?_⟩;by_cases c1:d=1
  ·rw[decide_eq_true (show V.int d=V.int 1 by rw[c1])]
   exact n λ_=>c1
  ·rw[decide_eq_false (show¬V.int d=V.int 1 fromλz=>c1 (V.int.inj z))];exact q _ _ j ⟨λz=>(by cases z),λz=>absurd (z.1 en) c1⟩
 |cons z0 zr=>
  exact iteF (n λz=>by rw[en] at z;cases z)
def qYW:FnScope ["_law_net_here","_law_work"] ["_law_net_here","_law_work"] (qAC qQ3):=qCF
theorem ok_Ldue (F:Fun K "_law_due" "_law_due" qQ3 f fd) (af:Clb P w K mg base 2 qFA qKZ "_law_most_sides" ["_law_net_here","_law_path"] qSR) (qCX:Clb P w K mg base 1 qG7 qHQ "_law_paths" ["_law_net_here","_law_work"] qH7) (qDP:Clb P w K mg base 3 qG6 qKA "sides_of" ["net","path"] qOL) (qB5:mg "len" = none) (qH3:mg "min" = none):FnOk P w K mg base CX0 4 f fd ["_law_net_here","_law_work"] qSU:=by
 refine F.okA qYW λav A ap s H c Q E hr h=>?_;obtain⟨a,k,g,rfl,hN,wf,ar,w0,w1,a6,q⟩:=h;have ai:=hr.units0;refine⟨_,(qA4 (qB6 (qAM (qI9 ai) (qB7 qBB (pv 0) (pv 1) (λ_ _=>rfl)) (qDQ qA2) (qAQ _)) (qA5 (qAG qA6)) qAI) (qA4 (qB6 (qAM qRJ (qA7 qAD rfl qB5 qBA (qA0 (pv 0) qA2)) qA6 (qAQ _)) (qA5 (qAG (qAN qCG qA6 (qA7 (qKH rfl) rfl qH3 qKJ (qA0 (qDA rfl (lcs (own:=["_law_path"]) (fv:=[0]) (by kernel_rfl)) (qBV (qB4 qCX hr rfl (qA0 (pv 0) (qA0 (pv 1) qA2)))) (λz1=>qCH 0) (λz1=>qAW) (λz1=>(qB4 af hr rfl (qA0 (pv 1) (qA0 (pv 0) qA2))))) qA2))))) qAI) (qA5 (qAG (qAN qCG qA6 (qA7 (qKH rfl) rfl qH3 qKJ (qA0 (qDA rfl (lcs (own:=["_law_path"]) (fv:=[0]) (by kernel_rfl)) (qBV (qB4 qCX hr rfl (qA0 (pv 0) (qA0 (pv 1) qA2)))) (λz2=>qCH 0) (λz2=>qAW) (λz2=>(qA7 (qEM (K:=K) rfl) rfl qB5 qBA (qA0 (qB4 qDP hr rfl (qA0 (pv 1) (qA0 (pv 0) qA2))) qA2)))) qA2))))))),?_⟩
 obtain⟨zs,ez⟩:∃zs,k[g.toNat]?=some zs:=⟨_,A5 (by lia)⟩
 have en:=qBI ez;obtain⟨ra,r,hA,ak,er,ah⟩:=hN.get ez;refine cut λN0 aj=>⟨_,rfl,_,rfl,a,_,_,_,rfl,rfl,Ac0 hA,qBK w0 er,(by show 0<=B89;decide),λe he=>?_⟩
 have s1:=qA3 he (.tup []);have ge:(Ag H e (.tup [])) e=some (.tup []):=qA1;generalize Ag H e (.tup [])=H1 at s1 ge ⊢;refine⟨r,e,_,rfl,rfl,Ac0 (s1 _ _ ah),Ac0 ge,_,rfl,?_⟩;cases zs with
 |nil=>exact q 1 _ s1 (.inl ⟨en,rfl⟩)
 |cons z0 zr=>
  have al:nd k g≠[]:=by rw[en];exactλz=>nomatch z
  refine aj _ _ (cut λN1 am=>?_);have i:=hN.same s1;have ad:∀(ts:Aa0) (c:List Int) (Hd:Hp),Same H1 Hd->SortP k g ts->1<=ts.length->Paired (λ(t:List Int) (v:Int)=>∀ss,SidesOf k t ss->v=(ss.length:Int)) ts c->∃m,lowD none c=some m/\Q (.int (2+m)) Hd:=λts c Hd d u as hm=>by
   have lv:=B4 hm;obtain⟨m,em⟩:=qU0 (l:=c) (λz=>by rw[z,O4] at lv;lia)
   obtain⟨h1,h2⟩:=qQK em;exact⟨m,em,q _ Hd (s1.trans d) (.inr ⟨al,ts,c,m,u,hm,h1,h2,rfl⟩)⟩
  refine⟨_,rfl,a,_,rfl,.inr (Ac0 (s1 _ _ hA)),_,_,rfl,rfl,_,rfl,ite2 (λc9=>?_) (λc9=>?_)⟩
  ·have n9:k.length<10:=by
    have:=of_decide_eq_true c9;rw[A0,ak] at this
    lia
   refine⟨_,rfl,_,rfl,a,k,g,rfl,i,wf,by lia,w0,w1,a6,λlP ts H2 s2 an TL u a4 ag=>?_⟩
   obtain⟨rp,gP,NP⟩:=TL;have a3:=B4 NP;obtain⟨t1,pr⟩:=u.some wf w0 w1;have a0:=i.same s2;refine⟨lP,rfl,⟨_,Ab2 gP⟩,λpx n=>qDT (p:=px) (a:=lP) (xs:=rp.map V.ref) (λj σ Hd=>E2 λ(v:Option V) (c:List Int)=>σ=[v,some (.ref a)]/\Same H2 Hd/\Hd px=some (.lst (c.map V.int))/\Paired (λ(t:List Int) (v:Int)=>∀ss,SidesOf k t ss->v=(ss.length:Int)) (ts.take j) c) ?_ ?_ ?_ ?_⟩
   ·exact⟨none,[],rfl,qA3 n _,qA1,by rw[A94];exact .nil⟩
   ·rintro j σ Hd hj ⟨v,c,rfl,d,_⟩;exact Ab2 (d _ _ gP)
   ·refineλj x σ Hd hx a9=>opq λaw a8=>?_;obtain⟨v,c,rfl,d,y,o⟩:=a9;obtain⟨tp,a1,rfl⟩:=qB8 hx;obtain⟨b,ep,gt⟩:=qAH NP a1;obtain⟨a2,R⟩:=pr b (B3 ep);refine a8 ?_;have ao:=R.len;have hj:=(A3.mp ep).1;have lv:=B4 o;rw[D3] at lv;have et:ts.take (j+1)=ts.take j++[b]:=by rw[C5,ep];rfl
    have PI:qFU Hd a tp k b:=⟨a0.same d,wf,by lia,d _ _ gt,a2,by lia,R.in_⟩
    refine⟨_,rfl,_,rfl,a,tp,k,b,rfl,PI,by lia,by lia,λm H3 s3 hm=>?_⟩
    refine⟨_,s3 _ _ y,qAL (by rw[A0];lia),_,c++[m],rfl,qAB (d.trans s3) n,by rw[qA1,B2];rfl,?_⟩
    rw[et];exact qB3 o hm
   refineλσ Hd a7=>opq λau ab=>?_;obtain⟨v,c,rfl,d,y,o⟩:=a7;refine ab ?_;rw[A0,a3,F8] at o;obtain⟨m,em,qq⟩:=ad ts c Hd (s2.trans d) u t1 o;exact⟨px,c,m,rfl,Ab2 y,em,_,_,rfl,rfl,qq⟩
  ·refine am _ _ ⟨_,rfl,_,rfl,a,k,g,rfl,i,wf,by lia,w0,w1,a6,λlP ts H2 s2 an TL u a4 ag=>?_⟩
   obtain⟨rp,gP,NP⟩:=TL;have a3:=B4 NP;obtain⟨t1,pr⟩:=u.some wf w0 w1;have a0:=i.same s2;refine⟨lP,rfl,⟨_,Ab2 gP⟩,λpx n=>qDT (p:=px) (a:=lP) (xs:=rp.map V.ref) (λj σ Hd=>E2 λ(v:Option V) (c:List Int)=>σ=[v,some (.ref a)]/\Same H2 Hd/\Hd px=some (.lst (c.map V.int))/\Paired (λ(t:List Int) (v:Int)=>∀ss,SidesOf k t ss->v=(ss.length:Int)) (ts.take j) c) ?_ ?_ ?_ ?_⟩
   ·exact⟨none,[],rfl,qA3 n _,qA1,by rw[A94];exact .nil⟩
   ·rintro j σ Hd hj ⟨v,c,rfl,d,_⟩;exact Ab2 (d _ _ gP)
   ·refineλj x σ Hd hx ae=>opq λay aa=>?_;obtain⟨v,c,rfl,d,y,o⟩:=ae;obtain⟨tp,a1,rfl⟩:=qB8 hx;obtain⟨b,ep,gt⟩:=qAH NP a1;obtain⟨a2,R⟩:=pr b (B3 ep);refine aa ?_;have ao:=R.len;have hj:=(A3.mp ep).1;have lv:=B4 o;rw[D3] at lv;have et:ts.take (j+1)=ts.take j++[b]:=by rw[C5,ep];rfl
    have PI:qFU Hd a tp k b:=⟨a0.same d,wf,by lia,d _ _ gt,a2,by lia,R.in_⟩
    refine⟨_,rfl,_,rfl,a,tp,k,b,rfl,PI,by lia,λls ax ss H3 s3 fl gl TT SO=>?_⟩
    refine⟨ls,_,rfl,.inl (Ab2 gl),?_⟩;rw[A0,B4 TT];refine⟨_,s3 _ _ y,qAL (by rw[A0];lia),_,c++[(ss.length:Int)],rfl,qAB (d.trans s3) n,by rw[qA1,B2];rfl,?_⟩
    rw[et];exact qB3 o λs' h'=>by rw[SidesOf.one h' SO]
   refineλσ Hd a5=>opq λaq ac=>?_;obtain⟨v,c,rfl,d,y,o⟩:=a5;refine ac ?_;rw[A0,a3,F8] at o;obtain⟨m,em,qq⟩:=ad ts c Hd (s2.trans d) u t1 o;exact⟨px,c,m,rfl,Ab2 y,em,_,_,rfl,rfl,qq⟩
def sc_Lrefused:FnScope ["_law_net_here","_law_work","_law_told","_law_which"] ["_law_net_here","_law_work"] (qAC qFZ):=qCF
theorem ok_Lrefused (F:Fun K "_law_refused" "_law_refused" qFZ f fd) (qEK:mg "TooMany" = some (.ref qAE)) (p:A93 K (.ref qAE) (.ref qAE)=some true) (qCD:FnOk P w K mg base (CX1 P w) 5 qBE qC8 ["net","work"] (qJA qAE)) (qCB:Binds K qC8 ["net","work"] []) (qCP:J1 K (.ref qBE)=true) (qC3:mg "cut_bound" = some (.ref qBE)) (qBS:FnOk P w K mg base (CX1 P w) 4 qBD qC7 ["net","work"] (qJ9 qAE)) (qBR:Binds K qC7 ["net","work"] []) (qC6:J1 K (.ref qBD)=true) (qBP:mg "cut_paper" = some (.ref qBD)) (a7:FnOk P w K mg base (CX1 P w) 6 qC9 qD6 ["net","work","rooms","thing"] (qSV qAE)) (a5:Binds K qD6 ["net","work","rooms","thing"] []) (ad:J1 K (.ref qC9)=true) (aa:mg "shows_cut" = some (.ref qC9)) (qBZ:mg "range" = none):FnOk P w K mg base CX0 7 f fd ["_law_net_here","_law_work"] qSP:=by
 refine F.okA sc_Lrefused λah A ae s H vs Q E hr h=>?_;obtain⟨a,Ae,b,rfl,hN,wf,ag,w0,w1,af,ab,q⟩:=h;have a3:Room 5 _:=hr.mono (by decide)
 have a4:Room 4 _:=hr.mono (by decide)
 have a8:Room 6 _:=hr.mono (by decide)
 have a9:=hr.units0;refine⟨_,(qA4 (qAK (i:=2) sc_Lrefused.nd rfl (G2 rfl) (qAY qA2)) (qA4 (qBU F0 rfl (qD3 rfl qBZ (qA0 qA6 qA2)) (qAS (i:=3) sc_Lrefused.nd rfl (G2 rfl)) (qA5 (qZ2 (j:=none) rfl rfl sc_Lrefused.nd (qbP (qAM qGB (pv 3) qA6 (qAQ _)) (qTF qCD a3 rfl qC3 qCP qCB (qA0 (pv 0) (qA0 (pv 1) qA2))) (qbP (qAM qGB (pv 3) qA6 (qAQ _)) (qTF qBS a4 rfl qBP qC6 qBR (qA0 (pv 0) (qA0 (pv 1) qA2))) (qTF a7 a8 rfl aa ad a5 (qA0 (pv 0) (qA0 (pv 1) (qA0 qA6 (qA0 (qAY qA2) qA2))))))) rfl qEK trivial (λev=>(qA5 (qBG (qbO (K:=K) rfl C8 F2 F3 qB0 (pv 2) (qA0 (pv 3) qA2)))))))) (qA5 (qAG (qCI (qOX a9) (pv 2) (qAY (qA0 qA6 (qA0 qA6 (qA0 qA6 qA2)))) (qAQ _)))))),cut λN0 a2=>⟨(by show 0<=B89;decide),λl hl=>?_⟩⟩
 have gl:(Ag H l (.lst [])) l=some (.lst ((qAJ 0 0).map V.int)):=qA1;have s0:=qA3 hl (.lst []);generalize Ag H l (.lst [])=H1 at gl s0 ⊢;refine a2 _ _ (cut λN1 ac=>?_);refine⟨3,rfl,by decide,by decide,qHN (lo:=0) (n:=3) (λi σ Hd=>∃(v3:Option V),σ=[some (.ref a),some (.int b),some (.ref l),v3]/\Same H Hd/\Hd l=some (.lst ((qAJ 0 i).map V.int)))
  ⟨none,rfl,s0,gl⟩ ?_ ?_⟩
 ·refineλi σ Hd hi x=>opq λaj v=>?_;obtain⟨v3,rfl,sd,g⟩:=x;refine v ?_;have o:=hN.same sd;have r:∀(H2:Hp),Same Hd H2->∀e,H2 e=none->Same H (Ag (Ag H2 e (ExcO e (.ref qAE) none)) l (.lst ((qAJ 0 i).map V.int++[.int (0+(i:Int))])))/\(Ag (Ag H2 e (ExcO e (.ref qAE) none)) l (.lst ((qAJ 0 i).map V.int++[.int (0+(i:Int))]))) l=some (.lst ((qAJ 0 (i+1:Nat)).map V.int))/\(Ag H2 e (ExcO e (.ref qAE) none)) l=some (.lst ((qAJ 0 i).map V.int)):=λH2 m e d=>by
   have s3:=m.trans (qA3 d (ExcO e (.ref qAE) none));refine⟨qAB (sd.trans s3) hl,?_,s3 _ _ g⟩;rw[qA1,qW4 i,B2,A21]
   rfl
  have lr:((qAJ 0 (i:Int)).map V.int).length<=3:=by rw[A0,qD0];lia
  refine⟨_,rfl,rfl,_,rfl,?_⟩;by_cases c0:(0:Int)+(i:Int)=0
  ·rw[decide_eq_true (show V.int (0+(i:Int))=V.int 0 by rw[c0])]
   refine⟨_,rfl,_,rfl,a,Ae,b,rfl,o,wf,(by lia),w0,w1,λ_=>ab,λc=>absurd c (by lia),λ_ H2 m=>⟨p,λe d=>?_⟩⟩
   obtain⟨t,u,k⟩:=r H2 m e d;exact⟨_,rfl,.inl ⟨rfl,_,Ab2 k⟩,_,rfl,l,_,_,rfl,rfl,k,qAL (by lia),_,rfl,t,u⟩
  ·rw[decide_eq_false (show¬V.int (0+(i:Int))=V.int 0 fromλz=>c0 (V.int.inj z))];refine⟨_,rfl,rfl,_,rfl,?_⟩;by_cases c1:(0:Int)+(i:Int)=1
   ·rw[decide_eq_true (show V.int (0+(i:Int))=V.int 1 by rw[c1])]
    refine⟨_,rfl,_,rfl,a,Ae,b,rfl,o,wf,(by lia),w0,w1,λc=>absurd c (by lia),λ_ H2 m=>⟨p,λe d=>?_⟩⟩
    obtain⟨t,u,k⟩:=r H2 m e d;exact⟨_,rfl,.inl ⟨rfl,_,Ab2 k⟩,_,rfl,l,_,_,rfl,rfl,k,qAL (by lia),_,rfl,t,u⟩
   ·rw[decide_eq_false (show¬V.int (0+(i:Int))=V.int 1 fromλz=>c1 (V.int.inj z))];refine⟨_,rfl,_,rfl,(by show 0<=B89;decide),λe5 a6=>?_⟩
    have y:=qA3 a6 (.lst []);refine⟨a,Ae,b,2,.ref e5,rfl,o.same y,wf,(by lia),w0,w1,λc=>absurd c (by lia),λ_ H2 m=>⟨p,λe d=>?_⟩⟩
    obtain⟨t,u,k⟩:=r H2 (y.trans m) e d;exact⟨_,rfl,.inl ⟨rfl,_,Ab2 k⟩,_,rfl,l,_,_,rfl,rfl,k,qAL (by lia),_,rfl,t,u⟩
 refineλσ Hd a1=>opq λai a0=>?_;obtain⟨v3,rfl,sd,g⟩:=a1;refine a0 (ac _ _ ⟨_,rfl,(by show 3<=B89;decide),λe d=>?_⟩)
 have y:=qA3 d (.lst [.int 0,.int 1,.int 2]);exact⟨l,e,[0,1,2],rfl,rfl,Ab2 (y _ _ g),Ab2 qA1,q _ (sd.trans y)⟩
def sc_Lright:FnScope ["_law_net_here","_law_work","_law_due_here","_law_paper","_law_kept","_law_row","_law_other"] ["_law_net_here","_law_work"] (qAC qJB):=qCF
theorem ok_Lright (F:Fun K "_law_right" "_law_right" qJB f fd) (cu:Clb P w K mg base 4 qUU qa4 "_law_due" ["_law_net_here","_law_work"] qSU) (qBS:FnOk P w K mg base (CX1 P w) 4 qBD qC7 ["net","work"] (qJ9 qAE)) (qBR:Binds K qC7 ["net","work"] []) (qC6:J1 K (.ref qBD)=true) (qBP:mg "cut_paper" = some (.ref qBD)) (c7:Clb P w K mg base 5 qGZ qHP "_law_same" ["_law_found","_law_due_here"] (spS 5)) (qCD:FnOk P w K mg base (CX1 P w) 5 qBE qC8 ["net","work"] (qJA qAE)) (qCB:Binds K qC8 ["net","work"] []) (qCP:J1 K (.ref qBE)=true) (qC3:mg "cut_bound" = some (.ref qBE)) (qCX:Clb P w K mg base 1 qG7 qHQ "_law_paths" ["_law_net_here","_law_work"] qH7) (dp:Clb P w K mg base 3 qFO qMG "_law_are_sides" ["_law_net_here","_law_path","_law_thing"] qJ8) (c2:FnOk P w K mg base (CX1 P w) 6 qC9 qD6 ["net","work","rooms","thing"] (qSV qAE)) (cf:Binds K qD6 ["net","work","rooms","thing"] []) (bq:J1 K (.ref qC9)=true) (ci:mg "shows_cut" = some (.ref qC9)) (qAA:mg "isinstance" = none) (qC0:mg "list" = none) (qAU:mg "tuple" = none) (qB5:mg "len" = none) (qH4:mg "all" = none) (qBW:mg "sorted" = none) (qIX:mg "zip" = none):FnOk P w K mg base CX0 7 f fd ["_law_net_here","_law_work"] qN0:=by
 refine F.okA sc_Lright λea A ds s H vs Q E hr h=>?_;obtain⟨a,Ae,c,rfl,hN,wf,d3,w0,w1,bn,q⟩:=h;have bu:Room 4 _:=hr.mono (by decide)
 have de:Room 5 _:=hr.mono (by decide)
 have c4:Room 6 _:=hr.mono (by decide)
 have hu:=qGT hr;have as:=hr.units;have eg:=hr.units0;refine⟨_,(qA4 (qAK (i:=2) sc_Lright.nd rfl (A90 rfl) (qB4 cu hr rfl (qA0 (pv 0) (qA0 (pv 1) qA2)))) (qA4 (qAK (i:=3) sc_Lright.nd rfl (G2 rfl) (qDR qBS bu rfl qBP qC6 qBR .nil qRH (qA0 (pv 0) (qA0 (pv 1) qA2)))) (qA4 (qB6 (PW.pt (qHB (qC2 (qC1 (qB4 c7 hr rfl (qA0 (qDR qCD de rfl qC3 qCP qCB .nil qRH (qA0 (pv 0) (qA0 (pv 1) qA2))) (qA0 (pv 2) qA2))))) (qEG (qC2 (qC1 (qA7 qAP rfl qAA qAF (qA0 (pv 3) (qA0 (qBH (v:=.ty "list") rfl qC0 qDB rfl) qA2)))))))) (qA5 (qAG qCJ)) qAI) (qA4 (qB6 (qC2 (qC1 (qA7 (qFB rfl) rfl qH4 qKL (qA0 (qDA rfl (lcs (own:=["_law_row"]) (fv:=[]) (by kernel_rfl)) (qBV (pv 3)) (λz1=>qCH 0) (λz1=>qAW) (λz1=>(qGD (qA7 (qFT (K:=K) rfl) rfl qAA qAF (qA0 (pv 0) (qA0 (qBH (v:=.ty "tuple") rfl qAU qB9 rfl) qA2))) (qIN (qCI qGB (qA7 (qEM (K:=K) rfl) rfl qB5 qBA (qA0 (pv 0) qA2)) qA6 (qAQ _)))))) qA2)))) (qA5 (qAG qCJ)) qAI) (qA4 (qB6 (qAM (qOW as) (qA7 (L2.G.call_sortedTL rfl as) rfl qBW qE0 (qA0 (qDA rfl (lcs (own:=["_law_row"]) (fv:=[]) (by kernel_rfl)) (qBV (pv 3)) (λz2=>qCH 0) (λz2=>qAW) (λz2=>(qB7 (qP4 (K:=K) rfl) (pv 0) qA6 (λ_ _=>rfl)))) qA2)) (qB4 qCX hr rfl (qA0 (pv 0) (qA0 (pv 1) qA2))) (qAQ _)) (qA5 (qAG qCJ)) qAI) (qA4 (qB6 (qC2 (qC1 (qA7 (qFB rfl) rfl qH4 qKL (qA0 (qDA rfl (lcs (own:=["_law_path","_law_sides"]) (fv:=[0,2]) (by kernel_rfl)) (qBV (pv 3)) (λz3=>qJU (K:=K) (n:=2) rfl rfl (qB2 (qCH 0) (qB2 (qCH 1) qEE)) rfl rfl) (λz3=>qAW) (λz3=>(qGD (qB4 dp hr rfl (qA0 (pv 2) (qA0 (pv 0) (qA0 (pv 1) qA2)))) (qIN (qCI qWE (qA7 (qEM (K:=K) rfl) rfl qB5 qBA (qA0 (pv 1) qA2)) (qAN qCY (pv 3) qA6) (qAQ _)))))) qA2)))) (qA5 (qAG qCJ)) qAI) (qA4 (qB6 (PW.pt (qHB (qAM qNJ (qDR c2 c4 rfl ci bq cf .nil qRH (qA0 (pv 0) (qA0 (pv 1) (qA0 (pv 2) (qA0 (pv 3) qA2))))) qCJ (qAQ _)) (qEG (qAM qNJ (qDR c2 c4 rfl ci bq cf .nil qRH (qA0 (pv 0) (qA0 (pv 1) (qA0 (qAN qCG (pv 2) qA6) (qA0 (pv 3) qA2))))) qCJ (qAQ _))))) (qA5 (qAG qCJ)) qAI) (qA4 (qZ3 (i:=4) sc_Lright.nd rfl rfl rfl (lcs (own:=["_law_path","_law_sides"]) (fv:=[]) (by kernel_rfl)) (qBV (pv 3)) (λz4=>qJU (K:=K) (n:=2) rfl rfl (qB2 (qCH 0) (qB2 (qCH 1) qEE)) rfl rfl) (λz4=>qAW) (λz4=>(qDQ (qA0 (pv 0) (qA0 (qAO (qS4 (K:=K) rfl) rfl qC0 qDB (qA0 (pv 1) qA2)) qA2)))) (by kernel_rfl)) (qA4 (qBU F0 rfl (qNG rfl qIX qO7 (qA0 (pv 3) (qA0 (pv 4) qA2))) (qL9 rfl (qB2 (qAS (i:=5) sc_Lright.nd rfl (G2 rfl)) (qB2 (qAS (i:=6) sc_Lright.nd rfl (G2 rfl)) qEE))) (qA4 (qBG (qEH C8 F2 F3 qB0 (qB7 qBB (pv 5) qA6 (λ_ _=>rfl)) (qA0 (qDQ qA2) qA2))) (qA5 (qB6 (qAM qKS (qA7 qAD rfl qB5 qBA (qA0 (qB7 qBB (pv 5) qA6 (λ_ _=>rfl)) qA2)) (qAN qCG (qA7 qAD rfl qB5 qBA (qA0 (qB7 qBB (pv 6) qA6 (λ_ _=>rfl)) qA2)) qA6) (qAQ _)) (qA5 (qAG qCJ)) qAI)))) (qA4 (qBG (qNH C8 PySem.F.slot_list_reverse PySem.F.type_list_reverse qRM (pv 3))) (qA5 (qAG (qB4 c7 hr rfl (qA0 (qDR qBS bu rfl qBP qC6 qBR .nil qRH (qA0 (pv 0) (qA0 (pv 1) qA2))) (qA0 (pv 4) qA2))))))))))))))),?_⟩
 have a1:¬300<cn Ae c:=by lia
 refine cut λN0 d7=>⟨_,rfl,_,rfl,a,Ae,c,rfl,hN,wf,d3,w0,w1,bn,λe7 H1 s1 DM=>?_⟩;have bd:=hN.same s1;refine d7 _ _ (cut λN1 bm=>⟨_,rfl,_,rfl,a,Ae,c,rfl,bd,wf,by lia,w0,w1,λ_ l rs qs H2 s2 fl gl PA dk br ok=>?_,λb=>absurd b a1⟩)
 have BD:=DM.bnd ok;have bc:=bd.same s2;refine bm _ _ (cut λN2 cm=>⟨_,rfl,_,rfl,a,Ae,c,rfl,bc,wf,by lia,w0,w1,λb=>absurd b a1,λ_ b H3 s3 bw=>?_,λb=>absurd b a1⟩)
 have eb:=bw.one BD;subst eb;refine⟨_,rfl,.int b,.int b,rfl,.inl ⟨rfl,.inr (.inl ⟨b,rfl⟩)⟩,λH4 s4=>⟨_,rfl,?_⟩⟩;have af:=s3.trans s4;have ax:Paired (Row3 H4) rs qs:=Paired.mapP PA λ_ _ e=>e.same af;have a9:=af _ _ gl;have c3:=bc.same af;have S4:=s1.trans (s2.trans af);have cb:rs.length=qs.length:=B4 PA;have dv:qs.length<=300:=by
  have al:((aP Ae [c]).length:Int)=cn Ae c:=qOE wf _ [c] rfl w0;have:=ok.1.1.length_eq;rw[A0] at this
  lia
 clear af s4 s3 bw bc DM bd gl;refine⟨_,rfl,_,"list",_,true,rfl,TyOf.lst a9,rfl,_,rfl,cm _ _ (cut λN3 dh=>⟨_,rfl,l,rfl,⟨_,Ab2 a9⟩,λpa bi=>qDT (p:=pa) (a:=l) (xs:=rs.map V.ref) (λj σ u=>∃(v:Option V),σ=[v]/\Same H4 u/\u pa=some (.lst ((C7 j true).map V.bl))) ?_ ?_ ?_ ?_⟩)⟩
 ·exact⟨none,rfl,qA3 bi _,qA1⟩
 ·rintro j σ u hj ⟨v,rfl,sd,_⟩;exact Ab2 (sd _ _ a9)
 ·refineλj x σ u hx co=>opq λe9 bp=>?_;obtain⟨v,rfl,sd,gp⟩:=co;obtain⟨r,er,rfl⟩:=qB8 hx;obtain⟨p,ep,R3⟩:=qAH ax er;refine bp ?_;have hj:=(A3.mp er).1;obtain⟨tp,d,g1,g2,g3,TT⟩:=R3.same sd;refine⟨_,rfl,_,"tuple",_,true,rfl,TyOf.tup g1,qHH true,true,rfl,?_⟩;rw[if_pos rfl];refine⟨_,rfl,r,_,rfl,.inr (Ac0 g1),rfl,_,gp,qAL (by rw[A0,L8];lia),_,rfl,qAB sd bi,?_⟩
  rw[qA1,Q0,B2]
  rfl
 refineλσ H5 bo=>opq λel bs=>?_;obtain⟨v,rfl,s5,gp⟩:=bo;refine bs ⟨pa,_,rfl,Ab2 gp,?_⟩;rw[show(C7 (rs.map V.ref).length true).all id=true by simp]
 refine⟨_,rfl,dh _ _ (cut λN4 c6=>?_)⟩;have S5:=S4.trans s5;have b8:Paired (Row3 H5) rs qs:=Paired.mapP ax λ_ _ e=>e.same s5;have ak:=s5 _ _ a9;have ay:=c3.same s5;clear gp ax a9 c3;refine⟨_,rfl,l,rfl,⟨_,Ab2 ak⟩,λpb cr=>qDT (p:=pb) (a:=l) (xs:=rs.map V.ref) (λj σ u=>E2 λ(v:Option V) (ps:List Addr)=>σ=[v]/\Same H5 u/\u pb=some (.lst (ps.map V.ref))/\L2.G.TupsAt u ps ((qs.take j).map λq=>q.2.1)) ?_ ?_ ?_ ?_⟩
 ·exact⟨none,[],rfl,qA3 cr _,qA1,by rw[A94];exact .nil⟩
 ·rintro j σ u hj ⟨v,ps,rfl,sd,_⟩;exact Ab2 (sd _ _ ak)
 ·refineλj x σ u hx cs=>opq λei cp=>?_;obtain⟨v,ps,rfl,sd,gp,TP⟩:=cs;obtain⟨r,er,rfl⟩:=qB8 hx;obtain⟨p,ep,R3⟩:=qAH b8 er;refine cp ?_;have hj:=(A3.mp ep).1;obtain⟨tp,d,g1,g2,g3,TT⟩:=R3.same sd;have lp:ps.length<=j:=by have:=B4 TP;rw[this,A0,D3];lia
  refine⟨_,rfl,r,_,_,_,rfl,rfl,Ac0 g1,rfl,_,gp,qAL (by rw[A0];lia),?_⟩
  rw[qBO];have au:∀{b:Addr} {xs:List V},u b=some (.tup xs)->(Ag u pb (.lst ((ps++[tp]).map V.ref))) b=some (.tup xs):=λ{b xs} e=>by rw[qA8 (qCK e gp (λz=>nomatch z))];exact e
  refine⟨_,ps++[tp],rfl,qAB sd cr,qA1,?_⟩;rw[show(qs.take (j+1)).map (λq=>q.2.1)=(qs.take j).map (λq=>q.2.1)++[p.2.1] by rw[C5,ep,D8,B2];rfl]
  exact qB3 (Paired.mapP TP λ_ _ e=>au e) (au g2)
 refineλσ H6 bj=>opq λe0 bt=>?_;obtain⟨v,ps,rfl,s6,gp,TP⟩:=bj;refine bt ?_;rw[A0,cb,F8] at TP;have d6:∀t∈qs.map (λq=>q.2.1),t≠[]:=λt ht=>((ok.1.some wf w0 w1).2 t ht).1;refine⟨pb,ps,_,rfl,Ab2 gp,TP,d6,λsa a2 cl d4 en bk d9 so=>?_⟩;have f6:=qA3 d4 (.lst (a2.map V.ref));have bf:(Ag H6 sa (.lst (a2.map V.ref))) sa=some (.lst (a2.map V.ref)):=qA1;have b5:L2.G.TupsAt (Ag H6 sa (.lst (a2.map V.ref))) a2 cl:=Paired.mapP bk λ_ _ e=>f6 _ _ e;have an:=s6.trans f6;generalize Ag H6 sa (.lst (a2.map V.ref))=H7 at bf b5 an ⊢;have dg:SortP Ae c cl:=⟨d9.trans ok.1.1,so⟩;refine⟨_,rfl,_,rfl,a,Ae,c,rfl,ay.same an,wf,by lia,w0,w1,bn,λlP ts H8 s8 eh TL SP _ _=>?_⟩
 have db:=SP.one dg;subst db;obtain⟨rp,gP,NP⟩:=TL;refine⟨sa,lP,a2,rp,ts,ts,rfl,rfl,Ab2 (s8 _ _ bf),Ab2 gP,Paired.mapP b5 λ_ _ e=>s8 _ _ e,NP,_,rfl,?_⟩;rw[decide_eq_false (λh=>h rfl)];have ap:=an.trans s8;have S8:=S5.trans ap;have av:Paired (Row3 H8) rs qs:=Paired.mapP b8 λ_ _ e=>e.same ap;have ai:=ap _ _ ak;have ab:=ay.same ap;clear gp b8 ak ay s6 an s8 bf b5 gP NP TP bk f6;refine c6 _ _ (cut λN5 cg=>?_);have mP:∀q∈qs,q.2.1∈aP Ae [c]:=λq hq=>ok.1.1.mem_iff.mp (C3.mpr ⟨q,hq,rfl⟩);have ge:∀q∈qs,b-2<=(q.2.2.length:Int):=λq hq=>by
  rcases BD with⟨_,e⟩|⟨_,_,le⟩
  ·lia
  ·have:=le _ _ (mP q hq) (ok.2 q hq)
   lia
 have aw:∀q∈qs,q.2.1≠[]/\Rise (Ae.length:Int) q.2.1:=λq hq=>(ok.1.some wf w0 w1).2 _ (C3.mpr ⟨q,hq,rfl⟩);refine⟨_,rfl,l,rfl,⟨_,Ab2 ai⟩,λpc cq=>qDT (p:=pc) (a:=l) (xs:=rs.map V.ref) (λj σ u=>E2 λ(v0 v1:Option V)=>σ=[v0,v1,some (.ref a),some (.int b)]/\Same H8 u/\u pc=some (.lst ((C7 j true).map V.bl))) ?_ ?_ ?_ ?_⟩
 ·exact⟨none,none,rfl,qA3 cq _,qA1⟩
 ·rintro j σ u hj ⟨v0,v1,rfl,sd,_⟩;exact Ab2 (sd _ _ ai)
 ·refineλj x σ u hx cc=>opq λe5 c1=>?_;obtain⟨v0,v1,rfl,sd,gp⟩:=cc;obtain⟨r,er,rfl⟩:=qB8 hx;obtain⟨p,ep,R3⟩:=qAH av er;refine c1 ?_;have hj:=(A3.mp ep).1;have ae:=B3 ep;obtain⟨tp,d,g1,g2,g3,TT⟩:=R3.same sd;obtain⟨dn,pR⟩:=aw p ae;have ef:=pR.len;obtain⟨d2,da,ar⟩:=(ok.2 p ae).sdT wf;refine⟨r,_,rfl,Ac0 g1,rfl,_,_,rfl,_,_,rfl,rfl,_,rfl,_,rfl,_,rfl,a,tp,p.1,Ae,p.2.1,d,p.2.2,rfl,⟨ab.same sd,wf,by lia,g2,dn,by lia,pR.in_⟩,by lia,by lia,g3,TT,d2,da,ar,λH9 s9=>⟨true,rfl,?_⟩⟩
  rw[if_pos rfl];refine⟨_,rfl,p.1,_,rfl,.inl (Ab2 (s9 _ _ g3)),_,rfl,_,_,rfl,rfl,_,_,rfl,rfl,_,s9 _ _ gp,qAL (by rw[A0,L8];lia),_,_,rfl,qAB (sd.trans s9) cq,?_⟩
  dsimp only;rw[qA1,Q0,B2,A0,B4 TT,decide_eq_true (ge p ae)]
  rfl
 refineλσ H9 cd=>opq λem bz=>?_;obtain⟨v0,v1,rfl,s9,gp⟩:=cd;refine bz ⟨pc,_,rfl,Ab2 gp,?_⟩;rw[show(C7 (rs.map V.ref).length true).all id=true by simp]
 refine⟨_,rfl,?_⟩;have S9:=S8.trans s9;have ao:Paired (Row3 H9) rs qs:=Paired.mapP av λ_ _ e=>e.same s9;have am:=s9 _ _ ai;have a4:=ab.same s9;clear gp av ai ab;refine cg _ _ (cut λN6 dm=>?_);have one:nd Ae c=[]->b=1:=λz=>by
  rcases BD with⟨_,e⟩|⟨n,_⟩
  ·exact e
  ·exact absurd z n
 refine⟨_,rfl,_,rfl,_,rfl,_,rfl,a,Ae,c,b,.ref l,rfl,a4,wf,by lia,w0,w1,λ_=>⟨l,rs,qs,rfl,am,ao,ok,λt1 HA sA h1=>?_⟩,λz=>absurd z a1⟩
 have e1:t1=true:=h1.mpr ⟨one,ge⟩;subst e1;refine⟨true,true,rfl,rfl,_,rfl,iteF ⟨_,rfl,_,rfl,_,rfl,_,_,rfl,rfl,_,rfl,a,Ae,c,b+1,.ref l,rfl,a4.same sA,wf,by lia,w0,w1,λ_=>⟨l,rs,qs,rfl,sA _ _ am,Paired.mapP ao λ_ _ e=>e.same sA,ok,λt2 HB sB h2=>?_⟩,λz=>absurd z a1⟩⟩
 have e2:t2=false:=by
  cases t2 with
  |false=>rfl
  |true=>
   exfalso
   obtain⟨k1,k2⟩:=h2.mp rfl;rcases BD with⟨n,e⟩|⟨n,⟨t,ss,ht,hs,e⟩,_⟩
   ·have:=k1 n
    lia
   ·obtain⟨p,hp,e3⟩:=C3.mp (ok.1.1.mem_iff.mpr ht);have e4:=SidesOf.one hs (by have:=ok.2 p hp;rw[e3] at this;exact this)
    have:=k2 p hp;rw[e4] at e
    lia
 subst e2;refine⟨false,false,rfl,rfl,_,rfl,?_⟩;have ac:=sA.trans sB;have SB:=S9.trans ac;have aj:Paired (Row3 HB) rs qs:=Paired.mapP ao λ_ _ e=>e.same ac;have a5:=ac _ _ am;have ce:=a4.same ac;clear ao am a4 sA sB ac h1 h2;refine dm _ _ (cut λN7 d0=>⟨_,rfl,l,rfl,⟨_,Ab2 a5⟩,λpk a6=>qDT (p:=pk) (a:=l) (xs:=rs.map V.ref) (λj σ u=>E4 λ(v0 v1:Option V) (ks:List Addr) (qk:List (Addr×List Int×Aa0))=>σ=[v0,v1]/\Same HB u/\u pk=some (.lst (ks.map V.ref))/\Paired (Row3 u) ks qk/\qk.map (·.2)=(qs.take j).map (·.2)/\∀q∈qk,HB q.1=none/\q.1≠pk) ?_ ?_ ?_ ?_⟩)
 ·exact⟨none,none,[],[],rfl,qA3 a6 _,qA1,.nil,by simp,λ_ z=>nomatch z⟩
 ·rintro j σ u hj ⟨v0,v1,ks,qk,rfl,sd,_⟩;exact Ab2 (sd _ _ a5)
 ·refineλj x σ u hx b3=>opq λdx b1=>?_;obtain⟨v0,v1,ks,qk,rfl,sd,gp,PK,ek,fk⟩:=b3;obtain⟨r,er,rfl⟩:=qB8 hx;obtain⟨p,ep,R3⟩:=qAH aj er;refine b1 ?_;have hj:=(A3.mp ep).1;have lk:ks.length<=j:=by
   have h1:=B4 PK;have h2:=congrArg Y7 ek;rw[A0,A0,D3] at h2
   lia
  obtain⟨tp,d,g1,g2,g3,TT⟩:=R3.same sd;refine⟨r,_,rfl,Ac0 g1,rfl,_,_,rfl,_,_,rfl,rfl,_,rfl,_,rfl,p.1,_,rfl,.inl (Ab2 g3),λln ah=>?_⟩;have f1:=qA3 ah (.lst (d.map V.ref));refine⟨(by show 2<=B89;decide),λrn cj=>?_⟩
  have f2:=f1.trans (qA3 cj (.tup [.ref tp,.ref ln]));have dq:=(qA3 cj (.tup [.ref tp,.ref ln])) _ _ (qA1 (H:=u) (a:=ln) (o:=.lst (d.map V.ref)));have dl:Row3 (Ag (Ag u ln (.lst (d.map V.ref))) rn (.tup [.ref tp,.ref ln])) rn (ln,p.2):=⟨tp,d,qA1,f2 _ _ g2,dq,Paired.mapP TT λ_ _ e=>f2 _ _ e⟩;have b4:=f2 _ _ gp;have di:ln≠pk:=λz=>by rw[z,gp] at ah;cases ah
  have bh:=qB3 (Paired.mapP PK λ_ _ (e:Row3 u _ _)=>e.same f2) dl;generalize Ag (Ag u ln (.lst (d.map V.ref))) rn (.tup [.ref tp,.ref ln])=He at f2 b4 bh ⊢;have c0:∀q∈qk++[(ln,p.2)],HB q.1=none/\q.1≠pk:=λq hq=>by
   rcases C1.mp hq with h|h
   ·exact fk q h
   ·rw[A6.mp h];exact⟨sd.free ah,di⟩
  refine⟨_,b4,qAL (by rw[A0];lia),?_⟩
  rw[qBO];refine⟨_,_,ks++[rn],qk++[(ln,p.2)],rfl,qAB (sd.trans f2) a6,qA1,qGP bh λr' q' hm e=>e.put b4 (c0 q' hm).2,?_,c0⟩;rw[B2,ek,C5,ep,D8,B2]
  rfl
 refineλσ HC b7=>opq λdw bb=>?_;obtain⟨v0,v1,ks,qk,rfl,sC,gk,PK,ek,fk⟩:=b7;refine bb ?_;rw[A0,cb,F8] at ek;have dz:ks.length=qk.length:=B4 PK;have e6:qk.length=qs.length:=by have:=congrArg Y7 ek;rw[A0,A0] at this;exact this
 have SC:=SB.trans sC;have c8:Paired (Row3 HC) rs qs:=Paired.mapP aj λ_ _ e=>e.same sC;have b9:=sC _ _ a5;have cw:=ce.same sC;have cx:pk≠l:=λz=>by rw[z,a5] at a6;cases a6
 have aa:∀q∈qk,∀p∈qs,q.1≠p.1:=λq hq p hp e=>by
  obtain⟨i,hi⟩:=M8 hp;have c5:=(A3.mp hi).1;obtain⟨p',a0,tp,d,g1,g2,g3,_⟩:=qAH aj (A5 (show i<rs.length by lia))
  rw[hi] at a0;cases a0;have:=(fk q hq).1;rw[e,g3] at this;cases this
 have gB:=a5;clear ce;refine d0 _ _ (cut λN8 ab=>?_);have dj:∀x∈qs.map (·.1),∃ys,HC x=some (.lst ys):=λx hx=>by
  obtain⟨p,hp,rfl⟩:=C3.mp hx;obtain⟨i,hi⟩:=M8 hp;have c5:=(A3.mp hi).1;obtain⟨p',a0,tp,d,g1,g2,g3,_⟩:=qAH c8 (A5 (show i<rs.length by lia))
  rw[hi] at a0;cases a0;exact⟨_,g3⟩
 have a3:∀{u:Hp},KeepL (qs.map (·.1)) HC u->∀{x:Addr} {xs:List V},HC x=some (.tup xs)->u x=some (.tup xs):=λ{u} k {x xs} e=>k _ _ e λz=>by
  obtain⟨ys,ey⟩:=dj x z;rw[e] at ey;cases ey
 have ch:pk∉qs.map (·.1):=λz=>by
  obtain⟨p,hp,e⟩:=C3.mp z;obtain⟨i,hi⟩:=M8 hp;have c5:=(A3.mp hi).1;obtain⟨p',a0,tp,d,g1,g2,g3,_⟩:=qAH aj (A5 (show i<rs.length by lia))
  rw[hi] at a0;cases a0;rw[e,a6] at g3;cases g3
 have bv:l∉qs.map (·.1):=λz=>by
  obtain⟨p,hp,e⟩:=C3.mp z;exact(br p hp).2 e
 refine⟨_,rfl,_,rfl,false,l,pk,rfl,⟨_,Ab2 b9⟩,⟨_,Ab2 gk⟩,qa2 (b:=false) (l:=l) (m:=pk) (xs:=rs.map V.ref) (ys:=ks.map V.ref) (by rw[A0,A0];lia) (λi σ u=>E2 λ(v5 v6:Option V)=>σ=[some (.ref a),some (.int c),some (.int b),some (.ref l),some (.ref pk),v5,v6]/\KeepL (qs.map (·.1)) HC u/\∀j p,qs[j]?=some p->i<=j->∀o,HC p.1=some o->u p.1=some o)
  ⟨none,none,rfl,λ_ _ e _=>e,λ_ _ _ _ _ e=>e⟩ (by rintro i σ u _ ⟨_,_,_,k,_⟩;exact⟨Ab2 (k _ _ b9 bv),Ab2 (k _ _ gk ch)⟩) ?_ ?_⟩
 ·refineλi x y σ u T hx hy b6 hT=>opq λdy az=>?_;obtain⟨v5,v6,rfl,kd,aq⟩:=b6;obtain⟨r,er,rfl⟩:=qB8 hx;obtain⟨ro,d5,rfl⟩:=qB8 hy;obtain⟨p,ep,tp,d,g1,g2,g3,TT⟩:=qAH c8 er;obtain⟨p',a0,ee,du,df,e8,cz,cy⟩:=qAH PK d5;refine az ?_;have hi:=(A3.mp ep).1;have e2:p'.2=p.2:=by
   have h1:(qk.map (·.2))[i]?=some p'.2:=by rw[C0,a0];rfl
   rw[ek,C0,ep] at h1;exact(G0 h1).symm
  have lr:=B4 TT;have ck:=B4 cy;rw[e2] at ck;have sT:=qA3 hT (.tup [.ref r,.ref ro]);have kT:KeepL (qs.map (·.1)) HC (Ag u T (.tup [.ref r,.ref ro])):=kd.trans (.of_same sT);have be:(Ag u T (.tup [.ref r,.ref ro])) p.1=some (.lst (d.map V.ref)):=sT _ _ (aq i p ep (A9 _) _ g3);have ad:∀j p,qs[j]?=some p->i<=j->∀o,HC p.1=some o->(Ag u T (.tup [.ref r,.ref ro])) p.1=some o:=λj p e le o g=>sT _ _ (aq j p e le o g);refine⟨T,_,rfl,Ac0 qA1,rfl,_,_,rfl,_,_,rfl,rfl,?_⟩;generalize Ag u T (.tup [.ref r,.ref ro])=He at kT be ad ⊢;refine nmT λD1 d1 dr=>cut λM0 dd=>⟨_,rfl,r,_,_,_,rfl,rfl,Ac0 (a3 kT g1),rfl,.inl ⟨rfl,_,Ab2 be⟩,(by show 0<=B89;decide),λe he=>?_⟩
  have sE:=qA3 he (.tup []);have bg:=sE _ _ be;have ar:=((ok.2 p (B3 ep)).are wf).2.2;refine⟨p.1,_,.ref e,rfl,rfl,bg,qAL (by rw[A0];lia),?_⟩
  have d8:p.1∈qs.map (·.1):=C3.mpr ⟨p,B3 ep,rfl⟩;have kF:KeepL (qs.map (·.1)) HC (Ag (Ag He e (.tup [])) p.1 (.lst (d.map V.ref++[.ref e]))):=λx o g n=>by
   rw[qA8 (λz=>n (by rw[z];exact d8))]
   exact sE _ _ (kT _ _ g n)
  have a7:∀j p',qs[j]?=some p'->i+1<=j->∀o,HC p'.1=some o->(Ag (Ag He e (.tup [])) p.1 (.lst (d.map V.ref++[.ref e]))) p'.1=some o:=λj p2 e2 le o g=>by
   have ne:p2.1≠p.1:=λz=>by
    have h1:(qs.map (·.1))[j]?=some p2.1:=by rw[C0,e2];rfl
    have h2:(qs.map (·.1))[i]?=some p.1:=by rw[C0,ep];rfl
    obtain⟨k1,e3⟩:=A3.mp h1;obtain⟨k2,e4⟩:=A3.mp h2;exact P2.mp dk i j k2 k1 (by lia) (by rw[e3,e4,z])
   rw[qA8 ne];exact sE _ _ (ad j p2 e2 (by lia) o g)
  have gF:(Ag (Ag He e (.tup [])) p.1 (.lst (d.map V.ref++[.ref e]))) p.1=some (.lst (d.map V.ref++[.ref e])):=qA1;generalize Ag (Ag He e (.tup [])) p.1 (.lst (d.map V.ref++[.ref e]))=Hf at kF a7 gF ⊢;have dc:=kF _ _ cz λz=>by
   obtain⟨p2,a8,e2⟩:=C3.mp z;exact aa p' (B3 a0) p2 a8 e2.symm
  refine dd _ _ ⟨_,rfl,r,_,_,_,rfl,rfl,Ac0 (a3 kF g1),rfl,p.1,_,rfl,.inl (Ab2 gF),_,rfl,ro,_,_,_,rfl,rfl,Ac0 (a3 kF df),rfl,p'.1,_,rfl,.inl (Ab2 dc),_,_,rfl,rfl,rfl,_,rfl,?_⟩;dsimp only;rw[B0,A0,A0,lr,ck,decide_eq_true (show V.int (((p.2.2.length+[V.ref e].length:Nat)):Int)=V.int ((p.2.2.length:Int)+1) from rfl)];exact d1 _ _ ⟨_,_,rfl,kF,a7⟩
 refineλσ HD b2=>opq λdt b0=>?_;obtain⟨v5,v6,rfl,kd,_⟩:=b2;refine b0 (ab _ _ (cut λN9 a4=>?_));have ba:=kd _ _ b9 bv;refine⟨_,rfl,.inl ⟨rfl,_,Ab2 ba⟩,l,_,rfl,rfl,ba,?_⟩;have tE:∀{x:Addr} {xs:List V},HC x=some (.tup xs)->(Ag HD l (.lst (rs.map V.ref).reverse)) x=some (.tup xs):=λ{x xs} e=>by
  have:=a3 kd e;rw[qA8 (qCK this ba (λz=>nomatch z))];exact this
 have bx:NetAt (Ag HD l (.lst (rs.map V.ref).reverse)) a Ae:=by
  obtain⟨ra,hA,NL⟩:=cw;exact⟨ra,tE hA,NL.same λr zs e=>tE e⟩
 have ca:(Ag HD l (.lst (rs.map V.ref).reverse)) pk=some (.lst (ks.map V.ref)):=by
  rw[qA8 cx];exact kd _ _ gk ch
 have c9:Paired (Row3 (Ag HD l (.lst (rs.map V.ref).reverse))) ks qk:=qGP PK λr p hm R=>by
  obtain⟨tp,d,g1,g2,g3,TT⟩:=R;refine⟨tp,d,tE g1,tE g2,?_,Paired.mapP TT λ_ _ e=>tE e⟩;have nl:p.1≠l:=λz=>by
   have:=(fk p hm).1;rw[z,gB] at this;cases this
  rw[qA8 nl];exact kd _ _ g3 λz=>by
   obtain⟨p2,a8,e2⟩:=C3.mp z;exact aa p hm p2 a8 e2.symm
 have SE:Same H (Ag HD l (.lst (rs.map V.ref).reverse)):=λx o e=>by
  have n1:x≠l:=λz=>by rw[z,s1.free fl] at e;cases e
  rw[qA8 n1];refine kd _ _ (SC _ _ e) λz=>?_;obtain⟨p2,a8,e2⟩:=C3.mp z;rw[<- e2,s1.free (br p2 a8).1] at e;cases e
 generalize Ag HD l (.lst (rs.map V.ref).reverse)=HE at bx ca c9 SE ⊢;refine a4 _ _ ⟨_,rfl,_,rfl,a,Ae,c,rfl,bx,wf,by lia,w0,w1,λ_ l2 ed ej HG sG ec bg cv _ _ ag=>?_,λz=>absurd z a1⟩
 refine⟨_,rfl,.ref l2,.ref pk,rfl,?_,λHH sH=>q _ (SE.trans (sG.trans sH))⟩;refine qRD bg (sG _ _ ca) cv (Paired.mapP c9 λ_ _ e=>e.same sG) ((qZA ag ok).trans ek.symm) ?_ λp hp=>?_
 ·have:=ag.1.1.length_eq;have h2:=ok.1.1.length_eq;rw[A0] at this h2
  lia
 ·have R:=(ag.1.some wf w0 w1).2 _ (C3.mpr ⟨p,hp,rfl⟩);have:=R.2.len;obtain⟨_,ct,sl⟩:=(ag.2 p hp).are wf;exact⟨by lia,by lia,λs hs=>by have:=(ct s hs).2.1;lia⟩
theorem qZ4 (b:Bool):∃m,atI [V.int 9,V.int 30] (if b=true then(1:Int) else 0)=some (.int m)/\9<=m/\m<=30:=by
 cases b
 ·exact⟨9,rfl,by decide,by decide⟩
 ·exact⟨30,rfl,by decide,by decide⟩
theorem qZ5 (b:Bool):∃m,atI [V.int 60,V.int 300] (if b=true then(1:Int) else 0)=some (.int m)/\m<=300:=by
 cases b
 ·exact⟨60,rfl,by decide⟩
 ·exact⟨300,rfl,by decide⟩
def sc_law:FnScope ["_law_script","_law_state","_law_turn","_law_net_here","_law_work","_law_many_here"] ["_law_script"] (qAC qKR):=qCF
theorem ok_law (F:Fun K "law" "law" qKR f fd) (qJJ:Clb P w K mg base 1 qMI qUS "_law_begin" ["_law_script"] (qSX K)) (qBT:Clb P w K mg base 1 qGY qHO "_law_take" ["_law_state","_law_many_here"] qL5) (qR6:Clb P w K mg base 3 qUT qa3 "_law_net" ["_law_state","_law_many_here"] qb5) (qMS:Clb P w K mg base 2 qPD qX2 "_law_many" ["_law_state","_law_most"] qXK) (qDM:Clb P w K mg base 1 qF9 qKY "_law_path_count" ["_law_net_here","_law_work"] qPX) (qG9:Clb P w K mg base 7 qID qPA "_law_refused" ["_law_net_here","_law_work"] qSP) (qJI:Clb P w K mg base 7 qMH qUR "_law_right" ["_law_net_here","_law_work"] qN0) (qEB:Clb P w K mg base 1 qFN qMF "_law_full_tree" ["_law_deep"] qST) (qCD:FnOk P w K mg base (CX1 P w) 5 qBE qC8 ["net","work"] (qJA qAE)) (qCB:Binds K qC8 ["net","work"] []) (qCP:J1 K (.ref qBE)=true) (qC3:mg "cut_bound" = some (.ref qBE)) (qCX:Clb P w K mg base 1 qG7 qHQ "_law_paths" ["_law_net_here","_law_work"] qH7) (qBZ:mg "range" = none) (qB5:mg "len" = none) (qH3:mg "min" = none) (qGF:mg "int" = none):FnOk P w K mg base CX0 8 f fd ["_law_script"] (qW0 K):=by
 refine F.okA sc_law λb9 A b3 s H vs Q E l h=>?_;obtain⟨sc,ns,rfl,hS,ak,q⟩:=h;have ai:Room 5 _:=l.mono (by decide)
 refine⟨_,(qA4 (qAK (i:=1) sc_law.nd rfl (G2 rfl) (qB4 qJJ l rfl (qA0 (pv 0) qA2))) (qA4 (qBU F0 rfl (qD3 rfl qBZ (qA0 qA6 qA2)) (qAS (i:=2) sc_law.nd rfl (G2 rfl)) (qA4 (qAK (i:=3) sc_law.nd rfl (G2 rfl) (qB4 qR6 l rfl (qA0 (pv 1) (qA0 (qB4 qMS l rfl (qA0 (pv 1) (qA0 (qB7 qCL (qAY (qA0 qA6 (qA0 qA6 qA2))) (qAO qHV rfl qGF qKK (qA0 (qCI qGB (pv 2) qA6 (qAQ _)) qA2)) (λ_ _=>rfl)) qA2))) qA2)))) (qA4 (qAK (i:=4) sc_law.nd rfl (G2 rfl) (qAN qCY (qAN qCY (qA7 qAD rfl qB5 qBA (qA0 (pv 3) qA2)) qA6) (qB4 qBT l rfl (qA0 (pv 1) (qA0 (qA7 (qHU rfl) rfl qH3 qKJ (qA0 (qA7 qAD rfl qB5 qBA (qA0 (pv 3) qA2)) (qA0 qA6 qA2))) qA2))))) (qA4 (qAK (i:=5) sc_law.nd rfl (G2 rfl) (qB4 qDM l rfl (qA0 (pv 3) (qA0 (pv 4) qA2)))) (qA4 (qB6 (PW.pt (qQ8 (qAM qTO (pv 5) qA6 (qAQ _)) (qM2 (qC2 (qC1 (qB4 qG9 l rfl (qA0 (pv 3) (qA0 (pv 4) qA2)))))))) (qA5 (qAG qCJ)) qAI) (qA5 (qB6 (PW.pt (qQ8 (qAM qZC (pv 5) (qB7 qCL (qAY (qA0 qA6 (qA0 qA6 qA2))) (qAO qHV rfl qGF qKK (qA0 (qCI qRJ (qA7 qAD rfl qB5 qBA (qA0 (pv 3) qA2)) qA6 (qAQ _)) qA2)) (λ_ _=>rfl)) (qAQ _)) (qM2 (qC2 (qC1 (qB4 qJI l rfl (qA0 (pv 3) (qA0 (pv 4) qA2)))))))) (qA5 (qAG qCJ)) qAI))))))) (qA4 (qAK (i:=3) sc_law.nd rfl (G2 rfl) (qB4 qEB l rfl (qA0 (qAN qCG qA6 (qB4 qBT l rfl (qA0 (pv 1) (qA0 qA6 qA2)))) qA2))) (qA5 (qAG (qCI qGB (qDR qCD ai rfl qC3 qCP qCB .nil qRH (qA0 (pv 3) (qA0 (qAN qCY (qA7 qAD rfl qB5 qBA (qA0 (pv 3) qA2)) qA6) qA2))) (qAN qCY (qAN qCG qA6 (qA7 qAD rfl qB5 qBA (qA0 (qB7 qCL (qB4 qCX l rfl (qA0 (pv 3) (qA0 (qAN qCY (qA7 qAD rfl qB5 qBA (qA0 (pv 3) qA2)) qA6) qA2))) qA6 (λ_ _=>rfl)) qA2))) qA6) (qAQ _))))))),cut λN0 ar=>⟨_,rfl,sc,ns,rfl,hS,ak,λd c ag H1 S1 b7 bb be=>ar _ _ (cut λN1 av=>?_)⟩⟩;refine⟨4,rfl,by decide,by decide,qHN (lo:=0) (n:=4) (λi σ Hc=>E6 λ(t:Int) (ms:List Int) (v2 v3 v4 v5:Option V)=>σ=[some (.ref sc),some (.ref d),v2,v3,v4,v5]/\StAt Hc d c t ms/\t<=20000*i)
  ⟨0,ag,none,none,none,none,rfl,S1,by lia⟩ ?_ ?_⟩
 ·refineλi σ Hc hi ac=>opq λba a4=>?_;obtain⟨t,ms,v2,v3,v4,v5,rfl,S2,t1⟩:=ac;refine a4 (nmD λD1 u dr=>cut λM0 aw=>⟨_,rfl,_,rfl,(by show 2<=B89;decide),λp hp=>?_⟩)
  have sp:=qA3 hp (.lst [.int 9,.int 30]);refine⟨_,rfl,rfl,.inr ⟨_,rfl,?_⟩⟩;obtain⟨m,hm,m9,bd⟩:=qZ4 (decide (V.int (0+(i:Int))=V.int 0));refine⟨p,_,_,_,rfl,rfl,Ab2 qA1,hm,d,c,t,ms,m,rfl,S2.same sp,(by show t<=1000000000-100;lia),m9,by lia,λk t2 af H2 k1 km S3 g1 g2 K2=>?_⟩
  refine⟨d,c,t2,af,k,rfl,S3,(by show t2<=1000000000-10000;lia),k1,by lia,λa j t3 az H3 S4 g3 g4 K3 hN wf nk=>?_⟩
  obtain⟨ra,hA,NL⟩:=id hN;have r:=B4 NL;refine aw _ _ (cut λM1 ax=>⟨_,rfl,a,_,rfl,.inr (Ac0 hA),_,_,rfl,rfl,_,rfl,_,rfl,a,_,rfl,.inr (Ac0 hA),_,_,rfl,?_⟩);rw[A0,r];obtain⟨mn,a5⟩:∃mn:Int,mn=if(2:Int)<(j.length:Int) then 2 else(j.length:Int):=⟨_,rfl⟩
  rw[<- a5];have mb:1<=mn/\mn<=2/\mn<=(j.length:Int):=by rw[a5];split<;>lia
  refine⟨d,c,t3,az,_,rfl,S4,(by show t3<=1000000000;lia),by lia,by lia,λk2 ae H4 b0 b1 S5 K4=>⟨_,_,rfl,rfl,?_⟩⟩
  obtain⟨o,aq⟩:∃o:Int,o=(j.length:Int)-1-k2:=⟨_,rfl⟩;dsimp only;rw[<- aq];have aa:=hN.keep S4 K4;have w0:0<=o:=by lia
  have w1:o<(j.length:Int):=by lia
  refine ax _ _ (cut λM2 an=>⟨_,rfl,_,rfl,a,j,o,rfl,aa,wf,by lia,w0,w1,λH5 s5=>?_⟩)
  refine an _ _ (cut λM3 au=>?_);have ab:=aa.same s5;have S6:=S5.same s5;have go:∀H6,Same H5 H6->M3 [some (.ref sc),some (.ref d),some (.int (0+(i:Int))),some (.ref a),some (.int o),some (.int (cn j o))] H6:=λH6 s6=>by
   have a7:=ab.same s6;obtain⟨ah,ay,b2⟩:=id a7;have b4:=B4 b2;refine au _ _ ⟨_,rfl,(by show 2<=B89;decide),λp7 am=>?_⟩
   have s7:=qA3 am (.lst [.int 60,.int 300]);obtain⟨m2,ao,b6⟩:=qZ5 (decide (((((ah.map V.ref).length:Nat):Int))<10));refine⟨_,rfl,a,_,rfl,.inr (Ac0 (s7 _ _ ay)),_,_,rfl,rfl,.inr ⟨_,rfl,p7,_,_,_,rfl,rfl,Ab2 qA1,ao,_,_,rfl,rfl,_,rfl,ite2 (λc1=>?_) (λc1=>?_)⟩⟩
   ·have aj:cn j o<=300:=by have:=of_decide_eq_true c1;lia
    refine⟨_,rfl,_,rfl,a,j,o,rfl,a7.same s7,wf,by lia,w0,w1,aj,λH8 s8=>⟨_,rfl,?_⟩⟩
    exact u _ _ ⟨t3+1,ae,_,_,_,_,rfl,S6.same (s6.trans (s7.trans s8)),by lia⟩
   ·exact u _ _ ⟨t3+1,ae,_,_,_,_,rfl,S6.same (s6.trans s7),by lia⟩
  refine⟨_,rfl,_,_,rfl,rfl,_,rfl,ite2 (λc1=>?_) (λc1=>?_)⟩
  ·have a3:300<cn j o:=of_decide_eq_true c1;refine⟨_,rfl,_,rfl,a,j,o,rfl,ab,wf,by lia,w0,w1,a3,qcU wf w0 a3,λH6 s6=>⟨_,rfl,?_⟩⟩
   exact go H6 s6
  ·exact go H5 (λ_ _ e=>e)
 refineλσ Hc a8=>opq λbc a6=>?_;obtain⟨t,ms,v2,v3,v4,v5,rfl,S2,t1⟩:=a8;refine a6 (av _ _ (cut λN2 al=>⟨_,rfl,d,c,t,ms,3,rfl,S2,(by show t<=1000000000;lia),by decide,by decide,λk3 bj H8 e0 e1 S8 K8=>⟨_,_,rfl,rfl,?_⟩⟩))
 obtain⟨g,ed⟩:∃g:Nat,1+k3=(g:Int):=⟨(1+k3).toNat,by lia⟩
 dsimp only;rw[ed];have u:1<=g:=by lia
 have d3:g<=3:=by lia
 refine⟨g,rfl,u,by lia,λa2 H9 s9 v=>?_⟩
 have y:=qcL u (by lia:g<=4)
 have p4:2^g<=16:=L5 (X5 (by decide) (by lia:g<=4)) (by decide)
 have p1:1<=2^g:=A22;have l9:(ftN g).length=2^g+(2^g-1):=qP7 g _;have rt:((ftN g).length:Int)-1=(2:Int)^(g+1)-2:=by
  rw[l9,Int.pow_succ,show(2:Int)^g=((2^g:Nat):Int) by simp]
  lia
 obtain⟨ra,hA,NL⟩:=id v;have r:=B4 NL;obtain⟨mp,cl⟩:=qa1 u (by lia:g<=4)
 obtain⟨pl,nn⟩:=qa0 u d3;rw[<- rt] at mp cl nn pl;refine al _ _ ?_;have wl:(0:Int)<=((ftN g).length:Int)-1:=by lia
 refine⟨_,rfl,_,rfl,a2,_,rfl,.inr (Ac0 hA),_,_,rfl,rfl,?_⟩;dsimp only;rw[A0,r];refine⟨a2,_,_,rfl,v,y,by lia,wl,by lia,λ_=>nn,λ_ b bh ad BD=>?_,λz=>absurd z (by lia)⟩
 refine⟨_,rfl,_,rfl,a2,_,rfl,.inr (Ac0 (ad _ _ hA)),_,_,rfl,rfl,?_⟩;dsimp only;rw[A0,r];refine⟨a2,_,_,rfl,v.same ad,y,by lia,wl,by lia,cl,λlP bi b8 bg b5 TL SP _ _=>?_⟩
 obtain⟨rp,gP,NP⟩:=TL;obtain⟨q1,pr⟩:=SP.some y wl (by lia)
 have bf:=B4 NP;obtain⟨tp,a1⟩:∃tp,rp[0]?=some tp:=⟨_,A5 (by lia)⟩
 obtain⟨a9,as,ap⟩:=qAH NP a1;have hp:=SP.1.mem_iff.mp (B3 as);have a0:=pl a9 hp;have eb:b=2+(g:Int):=by
  rcases BD with⟨n,_⟩|⟨_,⟨t,ss,ht,hs,e⟩,_⟩
  ·exact absurd n nn
  ·rw[rt] at ht;rw[e,qWY u (by lia) ht hs]
 refine⟨lP,_,_,_,rfl,rfl,Ab2 gP,qBK (J9 0) (x:=.ref tp) (by show(rp.map V.ref)[0]?=_;rw[C0,a1];rfl),tp,_,rfl,.inr (Ac0 ap),_,_,rfl,rfl,_,_,rfl,rfl,rfl,?_⟩
 dsimp only;rw[A0,a0];have e2:decide (V.int b=V.int (2+((g+1:Nat):Int)-1))=true:=decide_eq_true (by rw[eb];congr 1;lia)
 rw[e2];exact q _
end
theorem all_mk {l:PySem.W.OpenLaw} {K:Ab1} {h:Heap} {mg:Ab0} {fa i bc am ad c0 aj ba bo bt ah bk bf bd af ax au bs av bz bx b6 ai br b7 as bw ar bn aw bv b0 bh b2 b1 x:Addr} (X:K.In h) (G:h.Ns C01 mg) (bj:mg "law" = some (.ref fa))
  {ap a4:Option Addr} {bb:Array (Option Value)} {bi a2 a3 a6 y a8:Value}
  (b3:W5 K C01 "TooMany" = some (some (.ref i)))
  {p:Tok} (t:W5 K C01 "GOAL" = some (some (.int (-2) p)))
  {j:Tok} (k:W5 K C01 "MOST_PATHS" = some (some (.int (300) j)))
  {m:Tok} (o:W5 K C01 "SOURCE" = some (some (.int (-1) m)))
  (T_is_number:Tf K "is_number" qEQ bc)
  (T_is_below:Tf K "is_below" qFY am)
  (T_count_paths:Tf K "count_paths" qDE ad)
  (T_all_paths:Tf K "all_paths" qEU c0)
  (T_side_ends:Tf K "side_ends" qEO aj)
  (T_free_ways:Tf K "free_ways" qER ba)
  (T_way_back:Tf K "way_back" qFW bo)
  (T_turn_round:Tf K "turn_round" qE3 bt)
  (T_side_to:Tf K "side_to" qH8 ah)
  (T_sides_of:Tf K "sides_of" qFX bk)
  (T_is_path:Tf K "is_path" qH9 bf)
  (T_shows_sides:Tf K "shows_sides" qDD bd)
  (T_cut_paper:Tf K "cut_paper" qES af)
  (T_cut_bound:Tf K "cut_bound" qET ax)
  (T_shows_pair:Tf K "shows_pair" qE4 au)
  (T_shows_cut:Tf K "shows_cut" qEP bs)
  (T_Lbegin:Tf K "_law_begin" qJD av)
  (T_Ltake:Tf K "_law_take" qLZ bz)
  (T_Lsame:Tf K "_law_same" qJQ bx)
  (T_Lsome_needs:Tf K "_law_some_needs" qDF b6)
  (T_Ltree_net:Tf K "_law_tree_net" qEV ai)
  (T_Lnet:Tf K "_law_net" qQ1 br)
  (T_Lmany:Tf K "_law_many" qM0 b7)
  (T_Lpath_count:Tf K "_law_path_count" qDG as)
  (T_Lpaths:Tf K "_law_paths" qJC bw)
  (T_Lhit:Tf K "_law_hit" qQ2 ar)
  (T_Lis_side:Tf K "_law_is_side" qG0 bn)
  (T_Lare_sides:Tf K "_law_are_sides" qE6 aw)
  (T_Lmost_sides:Tf K "_law_most_sides" qDH bv)
  (T_Lfull_tree:Tf K "_law_full_tree" qE5 b0)
  (T_Ldue:Tf K "_law_due" qQ3 bh)
  (T_Lrefused:Tf K "_law_refused" qFZ b2)
  (T_Lright:Tf K "_law_right" qJB b1)
  (ac:W5 K C01 "law" = some (some (.ref x))) (bg:K.lookup x=some ⟨bi,ap,.func (W1 "law" "law" (qFQ qKR) (qDY qKR) (qAC qKR) .none a2 a3 a6 a4 y a8),bb⟩) (ak:A23 K y "law" = true) (b5:J1 K (.ref x)=true)
  (aq:xcIn K i none=true)
  (b8:P0 K (.ref i) "__setattr__" = some (some (.builtin "object.__setattr__")))
  (bp:J1 K (.ref i)=true)
  (an:P0 K (.ref i) "__getattribute__" = some (some (.builtin "BaseException.__getattribute__")))
  (aa:P0 K (.ref i) "__getattr__" = some none)
  (al:y8 K i (.type "BaseException")=some true)
  (ab:A29 K i=true)
  (b4:P0 K (.ref i) "__class__" = some (some (.builtin "object.__class__")))
  (az:m8 K (.builtin "object.__class__") "__get__" = some (some (.builtin "getset_descriptor.__get__")))
  (b9:A68 K (.builtin "object.__class__")=some true)
  (be:y8 K i (.type "object")=some true)
  (cj:A93 K (.ref i) (.ref i)=some true)
  (Z:Zs K ["all","any","bool","divmod","enumerate","int","isinstance","len","list","max","min","range","set","sorted","str","sum","tuple","zip"])
  : ∃fd:C02,(∀(s:Shared) (v:Value),BindsTo s fd ⟨[v],[]⟩ [("_law_script",v)])/\∀base:Heap,K.In base->base.Ns C01 mg->FnOk l.prog w K mg base CX0 8 fa fd ["_law_script"] (qW0 K):=by
 have e:=bj.symm.trans (k7 X G ac);cases e;obtain⟨c5,a,qC4⟩:=T_all_paths.use X G;have qCC:=a.binds (ps:=["net","work"]) λ_ _ _ _ _ _ r q=>us2 r q (λ_ _=>rfl);have qD2:=a.kp;obtain⟨cp,b,qBP⟩:=T_cut_paper.use X G;have qBR:=b.binds (ps:=["net","work"]) λ_ _ _ _ _ _ r q=>us2 r q (λ_ _=>rfl);have qC6:=b.kp;obtain⟨c3,d,qC3⟩:=T_cut_bound.use X G;have qCB:=d.binds (ps:=["net","work"]) λ_ _ _ _ _ _ r q=>us2 r q (λ_ _=>rfl);have qCP:=d.kp;obtain⟨cw,f,cx⟩:=T_shows_cut.use X G;have co:=f.binds (ps:=["net","work","rooms","thing"]) λ_ _ _ _ _ _ r q=>us4 r q (λ_ _ _ _=>rfl);have ch:=f.kp;obtain⟨ct,g,qGS⟩:=T_Lsame.use X G;have qH0:=g.binds (ps:=["_law_found","_law_due_here"]) λ_ _ _ _ _ _ r q=>us2 r q (λ_ _=>rfl);have ao:=fun_mk (st:=qKR) bg ak b5;have qEK:=k7 X G b3;have a9:=k7 X G t;have m_MOST_PATHS:=k7 X G k;have z:=k7 X G o;have qH5:XCls K i none:=⟨aq,b8,bp⟩;have ca:XTy K i:=⟨⟨an,aa,al,ab⟩,b4,az,b9,be⟩;obtain⟨ay,cg,bm,c9,cc,a0,a5,u,a7,cf,a1,ag,cu,bl,bu,c6,ae,bq,_⟩:=Z.mg X G;refine⟨W1 "law" "law" (qFQ qKR) (qDY qKR) (qAC qKR) .none a2 a3 a6 a4 y a8,λs v=>.of_eq rfl,λbase _ _=>?_⟩;have B:Bs l.prog w base:=⟨rfl,rfl,rfl⟩;obtain⟨_,cl⟩:=T_is_number.c X G B λ_ F=>by apply ok_is_number<;>assumption
 obtain⟨_,cr⟩:=T_is_below.c X G B λ_ F=>by apply ok_is_below<;>assumption
 obtain⟨_,qDL⟩:=T_count_paths.c X G B λ_ F=>by apply ok_count_paths<;>assumption
 have qCE:=ok_all_paths (P:=l.prog) (w:=w) (mg:=mg) (base:=base) (F:=a) (qDL:=qDL) (qBW:=bl) (m_MOST_PATHS:=m_MOST_PATHS) (qH5:=qH5) (qEK:=qEK);obtain⟨_,c8⟩:=T_side_ends.c X G B λ_ F=>by apply ok_side_ends<;>assumption
 obtain⟨_,ck⟩:=T_free_ways.c X G B λ_ F=>by apply ok_free_ways<;>assumption
 obtain⟨_,c4⟩:=T_way_back.c X G B λ_ F=>by apply ok_way_back<;>assumption
 obtain⟨_,cn⟩:=T_turn_round.c X G B λ_ F=>by apply ok_turn_round<;>assumption
 obtain⟨_,cv⟩:=T_side_to.c X G B λ_ F=>by apply ok_side_to<;>assumption
 obtain⟨_,qDP⟩:=T_sides_of.c X G B λ_ F=>by apply ok_sides_of<;>assumption
 obtain⟨_,ci⟩:=T_is_path.c X G B λ_ F=>by apply ok_is_path<;>assumption
 obtain⟨_,cq⟩:=T_shows_sides.c X G B λ_ F=>by apply ok_shows_sides<;>assumption
 have qBS:=ok_cut_paper (P:=l.prog) (w:=w) (mg:=mg) (base:=base) (F:=b) (qCE:=qCE) (qCC:=qCC) (qD2:=a.kp) (qC4:=qC4) (qDP:=qDP);have qCD:=ok_cut_bound (P:=l.prog) (w:=w) (mg:=mg) (base:=base) (F:=d) (qBS:=qBS) (qBR:=qBR) (qC6:=b.kp) (qBP:=qBP) (qB5:=u) (qH3:=a1);obtain⟨_,qEA⟩:=T_shows_pair.c X G B λ_ F=>by apply ok_shows_pair<;>assumption
 have cd:=ok_shows_cut (P:=l.prog) (w:=w) (mg:=mg) (base:=base) (F:=f) (qCE:=qCE) (qCC:=qCC) (qD2:=a.kp) (qC4:=qC4) (qEA:=qEA) (qAA:=a5) (qB5:=u) (qC0:=a7);obtain⟨_,qJJ⟩:=T_Lbegin.c X G B λ_ F=>by apply ok_Lbegin<;>assumption
 obtain⟨_,qBT⟩:=T_Ltake.c X G B λ_ F=>by apply ok_Ltake<;>assumption
 have c7:=Clb.mk (ok_Lsame (P:=l.prog) (w:=w) (mg:=mg) (base:=base) (F:=g) (qH0:=qH0) (qMA:=g.kp) (qGS:=qGS) (n:=5) (qH4:=ay) (qIJ:=bm) (qGF:=a0) (qAA:=a5) (qB5:=u) (qC0:=a7) (qSD:=bu) (qAU:=ae) (qIX:=bq)) qH0 g.kp qGS;obtain⟨_,cb⟩:=T_Lsome_needs.c X G B λ_ F=>by apply ok_Lsome_needs<;>assumption
 obtain⟨_,c1⟩:=T_Ltree_net.c X G B λ_ F=>by apply ok_Ltree_net<;>assumption
 obtain⟨_,qR6⟩:=T_Lnet.c X G B λ_ F=>by apply ok_Lnet<;>assumption
 obtain⟨_,qMS⟩:=T_Lmany.c X G B λ_ F=>by apply ok_Lmany<;>assumption
 obtain⟨_,qDM⟩:=T_Lpath_count.c X G B λ_ F=>by apply ok_Lpath_count<;>assumption
 obtain⟨_,qCX⟩:=T_Lpaths.c X G B λ_ F=>by apply ok_Lpaths<;>assumption
 obtain⟨_,cs⟩:=T_Lhit.c X G B λ_ F=>by apply ok_Lhit<;>assumption
 obtain⟨_,cm⟩:=T_Lis_side.c X G B λ_ F=>by apply ok_Lis_side<;>assumption
 obtain⟨_,cy⟩:=T_Lare_sides.c X G B λ_ F=>by apply ok_Lare_sides<;>assumption
 obtain⟨_,c2⟩:=T_Lmost_sides.c X G B λ_ F=>by apply ok_Lmost_sides<;>assumption
 obtain⟨_,qEB⟩:=T_Lfull_tree.c X G B λ_ F=>by apply ok_Lfull_tree<;>assumption
 obtain⟨_,ce⟩:=T_Ldue.c X G B λ_ F=>by apply ok_Ldue<;>assumption
 obtain⟨_,qG9⟩:=T_Lrefused.c X G B λ_ F=>by apply ok_Lrefused<;>assumption
 obtain⟨_,qJI⟩:=T_Lright.c X G B λ_ F=>by apply ok_Lright<;>assumption
 exact ok_law (P:=l.prog) (w:=w) (mg:=mg) (base:=base) (F:=ao) (qJJ:=qJJ) (qR6:=qR6) (qMS:=qMS) (qBT:=qBT) (qDM:=qDM) (qG9:=qG9) (qJI:=qJI) (qEB:=qEB) (qCD:=qCD) (qCB:=qCB) (qCP:=d.kp) (qC3:=qC3) (qCX:=qCX) (qGF:=a0) (qB5:=u) (qH3:=a1) (qBZ:=ag)
theorem walk {l:PySem.W.OpenLaw} {b:List Str} {XP:(Ab0)->Heap->Prop} {YP:World->Heap->Prop} {d:DefRec} {K:Params->Ab1} (i:l.most=some 63)(c:d.params.defaults=[])
  (j:∀(w:World) (h:Heap),YP w h->(K w.params).In h)
  (F:∀ (w:World) (mg:Ab0) (fa:Addr) (h:Heap),(K w.params).In h->h.Ns C01 mg->mg d.name=some (.ref fa)->
   ∃fd:C02,(∀(s:Shared) (u:Value),BindsTo s fd ⟨[u],[]⟩ [("_law_script",u)])/\∀base:Heap,(K w.params).In base->base.Ns C01 mg->FnOk l.prog w (K w.params) mg base CX0 8 fa fd ["_law_script"] (qW0 (K w.params))):
  PySem.W.WalkO q b XP YP l.row.toRowW d [] (λf vs=>B62 f vs):=
 L2.walk_of (n:=63) (k:=8) (x:="_law_script") (CX:=λ_=>CX0) (sp:=λw=>qW0 (K w.params)) i (by decide) c ⟨rfl,by decide,by decide,rfl⟩ j F (λ_ _ a m g _ e=>⟨a,m,rfl,e,g,λ_=>rfl⟩) λ_ _ _ _ _ z=>z
end Fw
open PySem PySem.W PyProof.Rows
set_option maxRecDepth 100000 in
set_option maxHeartbeats 0 in
theorem PySem.Challenge.cw_fewrooms_k39_bounds_by_cuts_holds : PySem.Challenge.rw_fewrooms_k39_bounds_by_cuts.Holds := by
 w_on;refine holds_law Fw.hpSaid λsaid=>?_
 refine holds_open (q:=Fw.hpQ) (Xt:=Fw.hpX) (XP:=XL Fw.hpQ []) (YP:=(kHook Fw.hpK Fw.hpA Fw.hpE).says)
  Fw.hpLeft (kHook Fw.hpK Fw.hpA Fw.hpE).of (kHook Fw.hpK Fw.hpA Fw.hpE).keeps (λs e=>xl_of s (A88.mp e).1) XL.keeps
  (by rfl) (by rfl) (by rfl) (λs e=>recFacts_of (A88.mp e).2) (by rfl)
  (by first|assumption|decide +kernel) (by decide +kernel) ⟨rfl,rfl,rfl,rfl,rfl,by decide +kernel⟩ ?hw ?hc
 case hw=>w_witness2
 k_fill
 refine Fw.walk (l:=PySem.Challenge.rw_fewrooms_k39_bounds_by_cuts) rfl rfl (λw h Y=>PySem.W.kIn_of Y) ?F
 case F=>
  intro w mg fa h KX G hmg;refine' Fw.all_mk KX G hmg ?qKN ?_ ?_ ?_ ?_ ?_ ?_ ?_ ?_ ?_ ?_ ?_ ?_ ?_ ?_ ?_ ?_ ?_ ?_ ?_ ?_ ?_ ?_ ?_ ?_ ?_ ?_ ?_ ?_ ?_ ?_ ?_ ?_ ?_ ?_ ?_ ?_ ?_ ?_ ?_ ?_ ?qI1 ?qHZ ?qI0 ?qGJ ?qGI ?qGO ?qGH ?qGN ?qGL ?qGK ?qGM ?qDO ?_
  (case qKN=>k_is)
  (case qI1=>kernel_rfl)
  (case qHZ=>k_is)
  (case qI0=>k_is)
  (case qGJ=>k_is)
  (case qGI=>k_is)
  (case qGO=>k_is)
  (case qGH=>k_is)
  (case qGN=>k_is)
  (case qGL=>k_is)
  (case qGK=>k_is)
  (case qGM=>k_is)
  (case qDO=>kernel_rfl)
  any_goals first|exact⟨by k_is,_,L2.fun_mk (by k_is) (by k_is) (by k_is)⟩|k_is|kernel_rfl
  any_goals (repeat (refine⟨by k_is,?_⟩))
  any_goals exact trivial

