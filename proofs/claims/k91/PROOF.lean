import PyProof.Rows.All
import Wide.All
import OpenK.AllK
import Wide.FinOn
import Lean
import PyProof.EqAt
import PyProof.EqKinds
import PyProof.TupleCall
import PySem.Challenge.RW_fewrooms_k91_whole_trees_by_all_stands
noncomputable section
set_option compiler.extract_closed false
set_option bootstrap.genMatcherCode false
open PyProof.Rows renaming IntsAre→B19,pendingOf→B21,wpS_bind→B22,wpS_pure→B33,pairsOf→B37,listUpdate_at→B39,seqEpoch_at→B61,SortKind→B68,wpS_forRange→B76,wpS_modify→B78,reverseSlice'_eq→B83,oneType'→B84,entry_list_sort→B92
open PySem renaming wpAny_bind→B12,wpAny_pure→B13,sizeLine→B14,Program→B15,sizeLine_eq→B16,starEach→B17,bootBuiltins→B18,wpAny_holding→B20,wpAny_mono→B23,mainGlobals→B24,wpAny_newObj_type→B25,codeAny_builtin→B26,FuncData→B27,compareOp→B28,wpAny_truthy_bool→B29,wpAny_call_entry→B30,plainId_quiet→B31,wpAny_tryCatch→B32,wpAny_pyIter_list→B34,sysModules→B35,binaryOp→B36,wpAny_setState_of→B38,Arguments→B40,wpAny_Call_Name_kw→B41,wpAny_seqItems→B42,codeAny_mono→B43,wpAny_collect_seq→B44,wpAny_typeNameOfWhole_keyiter→B45,holding→B46,codeAny→B47,wpAny_passesOwn→B48,behindInMarks→B49,bindArgs→B50,wpAny_of_eq→B51,wpAny_letGo→B52,hashInt→B53,wpAny_setField→B54,wpAny_typeNameOf_keyiter→B55,wpAny_newList→B56,wpAny_execs_nil→B57,wpAny_rule→B58,wpAny_updateSeq→B59,SetTable→B60,intKind→B62,Keyword→B63,firstArgMember→B64,assignEach→B65,NameKind→B66,wpAny_askSetting→B67,wpAny_standAt→B69,attributeBase→B70,wpAny_attempt→B71,keywordEach→B72,sliceBounds→B73,GenState→B74,tupleKind_room_in1→B75,call_meets→B77,foldedSetIterable→B79,wpAny_pyIter_enum→B80,wpAny_pyNext_list_item→B81,noFill_tuple_add→B82,tupleKind→B85,wpAny_pyNext_list_end→B86,builtinLookup_eq_fast→B87,builtinsNs→B88,letOwnedTupleGo→B89,wpAny_call→B90,wpAny_loadPart'→B91,wpAny_ite_false→B93
open Array renaming getElem?_eq_getElem→E3,length_toList→E5,getD_eq_getD_getElem?→F7,getElem?_toList→L6,perm_iff_toList_perm→X6,toList_reverse→A19,getElem_toList→A20,size_map→A26,toList_append→A34,forIn_toList→A48,size_zip→A87,toList→B04
open Bool renaming false_ne_true→C2,false_eq_true→E8,eq_false_iff→F5,and_eq_true→O4,eq_iff_iff→Q7,and_false→W5,or_eq_true→Z3,true_and→i8,false_and→m9,and_eq_true_iff→A23,not_true→A46,decide_and→A80,and_true→B02
open Classical renaming byContradiction→Q6,choose→A68
open False renaming elim→R1
open ForInStep renaming yield→O3,done→c7
open Int renaming toNat_natCast→D2,le_refl→L7,emod_lt_of_pos→U3,natCast_nonneg→W9,emod_nonneg→X0,fdiv_eq_ediv_of_nonneg→X5,fmod_eq_emod_of_nonneg→l7,le_of_lt→m5,negSucc→w5,le_antisymm→A11,zero_add→A64,natCast_pow→A78
open List renaming length_map→A0,getElem?_eq_some_iff→A3,getElem?_eq_getElem→A4,mem_singleton→A5,length_append→A8,mem_cons_of_mem→A9,map_append→B0,mem_of_getElem?→B1,length_singleton→B3,mem_append→B4,mem_cons→B7,size_toArray→B8,getElem?_map→C1,length_cons→C3,length_take→C4,mem_cons_self→C5,take_add_one→C6,map_cons→C7,replicate→D4,mem_map→D5,mem_filter→D6,getElem?_of_mem→D8,take_of_length_le→E7,append_assoc→F3,getElem?_append_left→F6,mem_append_right→F9,mem_range→G3,pairwise_iff_getElem→G7,range→G8,filter_cons→G9,getElem?_take_of_lt→J1,pairwise_map→J2,length_filter_le→J5,map_congr_left→J8,length_nil→J9,append_nil→K0,zip_cons_cons→K9,filterMap_cons→L0,nodup_cons→L4,replicate_succ→L5,not_mem_nil→L8,length_eq_zero_iff→M7,mem_of_mem_take→M8,mem_filterMap→M9,pairwise_cons→O0,all_eq_true→O5,getElem?_eq_none→O7,length_filterMap_le→O8,pairwise_singleton→P4,getElem?_append_right→P8,getD_eq_getElem?_getD→P9,flatten_cons→Q0,drop_eq_getElem_cons→Q4,foldl_cons→Q9,lookup_cons_self→R0,nodup_append→S0,filter_congr→S9,length_pos_of_mem→T6,length_drop→T9,getElem_mem→U0,filterMap_append→U5,mem_of_mem_erase→U6,getElem?_zip_eq_some→U9,mem_append_left→V1,mem_of_mem_drop→V2,reverse_cons→V4,find?_cons→V6,getElem?_set_self→W6,take_sublist→X3,any_cons→X4,getElem?_set_ne→X7,mem_iff_getElem→X8,lookup_cons→Y2,take_length→Y3,getElem_of_mem→Y4,filter_eq_self→Y5,map_map→Y9,length_erase_of_mem→Z2,drop_of_length_le→Z7,reverse_perm→b9,length_range→c6,length_replicate→c8,take_append_drop→c9,pairwise_reverse→d4,mem_flatten→d9,pairwise_append→g9,getElem_toArray→i0,sum_cons→j7,of_mem_zip→j8,length→j9,length_set→k5,length_zip→k9,map_eq_nil_iff→l5,flatten_append→l6,perm_ext_iff_of_nodup→l8,filter_append→m6,count_eq_zero→m7,count_pos_iff→m8,nodup_nil→n6,mem_of_find?_eq_some→o6,count_append→p9,all_cons→t7,getElem?_cons_succ→u8,any_eq_true→y4,pairwise_lt_range→z8,map_nil→A02,nil_append→A03,forIn_cons→A05,range_succ→A10,map_set→A12,reverse_reverse→A22,length_reverse→A30,getElem?_range→A35,length_pos_iff→A36,filter_filter→A50,map_singleton→A51,drop_sublist→A57,ext_getElem?→A59,cons_append→A66,drop_length→A69,find?_some→A76,filter_map→A79,filter_nil→A81,foldl_nil→A83,forIn_nil→A85,take_zero→A88,foldl→A91,findIdx?→A99
open List.Nodup renaming length_le_of_subset→V7
open List.Perm renaming append_left→A06
open Nat renaming le_refl→A7,ne_of_lt→D1,zero_le→D9,lt_of_lt_of_le→E4,le_trans→F2,not_lt_zero→G6,lt_succ_of_lt→M6,eq_of_testBit_eq→P7,lt_irrefl→Q1,pow_le_pow_right→R4,le_of_lt→R6,ne_of_gt→R7,lt_of_le_of_lt→U2,le_succ→W2,testBit_and→X2,le_of_not_lt→Y1,testBit_two_pow→Y6,lt_trans→Y8,strongRecOn→Z5,lt_trichotomy→c5,succ_ne_self→d6,lt_pow_two_of_testBit→o7,mod_lt→A13,pow_lt_pow_right→A21,testBit_or→A28,add_sub_cancel→A47,and_one_is_mod→A49,zero_add→A62,min_eq_left→A77
open Ne renaming symm→G4
open Option renaming toList_some→C8,some→P2,map_some→T1,getD_some→W3,isSome_iff_exists→Y7,isSome_map→a9,getD_none→w6,none→B10
open Option.some renaming inj→D0
open Or renaming inl→E1,inr→g8
open PyProof renaming noPylong_small→Z6
open PyProof.Rows renaming callWith_type1→P3,callWith_kw→Z1
open PyProof.Rows.IntsAre renaming int_at→k6
open PySem renaming mem_of_lookup→J6,call→A92
open PySem.Around renaming under_plainId→F1,frames_deeper→A16
open PySem.AutoSeq1 renaming sub_tuple_tuple→p6
open PySem.Builtin renaming bitAnd→U8,bitNot→V0,bitOr→A40
open PySem.Builtin.Builtins renaming bindParams→T5
open PySem.Builtin.Dict renaming updateFrom→u7,pairItems→y9
open PySem.Builtin.Dict_items renaming ownsTuple→j6
open PySem.Builtin.Frozenset renaming updateFrom→A70,newClass→A82,sizeOf→A93,slot0→B00
open PySem.Builtin.List renaming listTooLong→V5,listLengthHint→k7
open PySem.Builtin.Range renaming rangeSize→R5,small→A32
open PySem.Builtin.SmallTypes renaming calledThroughType→Y0,newRecord→j4,nextOf→o5,ownedTupleFields→A33
open PySem.Builtin.Tuple renaming tupleCompareSizes→a8,tupleExact→p8
open PySem.Calls renaming callWith_builtin→W8,evalArgs_plain→f9,call_function_entry→n8,spliced_cons→A42,spliced_nil→A56
open PySem.ClassData renaming mk→A61
open PySem.Data renaming fields→A29,cell→A71
open PySem.F renaming plainAttrs_list→E9,slot_list_append→G1,type_list_append→G2,plain_min_loop→O1,slot_dict_keyiterator_next→O9,slot_tuple_iterator_next→T8,plain_max_loop→U1,args_tuple_add_2→V3,entry_tuple_add→V8,slot_tuple_add→W7,called_set→X1,slot_list_getattribute→Z0,entry_min_loop→Z8,args_dict_keyiterator_next_1→d5,entry_dict_keyiterator_next→d8,args_tuple_iterator_next_1→j3,entry_tuple_iterator_next→k8,slot_dict_delitem→n0,args_tuple_lt_2→r8,plainAttrs_dict→t9,plain_list_iadd→u6,entry_max_loop→y3,entry_tuple_lt→y8,slot_tuple_lt→A01,slot_dict_pop→A04,args_object_init_2→A18,called_tuple→A25,plain_tuple_new→A58,slot_dict_iter→A67
open PySem.Heap renaming get?_push_of_some→A6,get?_push_size→B5,lt_size→C0,get?_update_other→C9,get?_update_self→G5,size_push→P1,get?_push_ne→b8,size_update→d7
open PySem.Heap.DictOf renaming new→A73
open PySem.Heap.IsSliceOf renaming new→B11
open PySem.Heap.SameBut renaming update→V9
open PySem.IsRange renaming new→B09
open PySem.NameKind renaming free→J7,cell→A98
open PySem.Obj renaming mapSeq→G0,data_mapFields→U4,isFreed_of_fields→d0,mapFields→i9,cls_mapFields→p7,mk→A60
open PySem.Paired renaming length→B6,snoc→T3
open PySem.PassesOwn renaming never→D3
open PySem.SeqAt renaming eq_listAt→A75
open PySem.SeqAt.EqAt renaming int_int→m4,int_str→A38,str_int→A39,int_int→A95
open PySem.SeqAt.RcNeAt renaming lists_lengths→A52,tuples→A84,lists→A94
open PySem.SetTable renaming below→E6,insertAt→F0,bits→Z4,fits→A44,fill→A45,runEnd→A74,has→B06
open PySem.SetTable.below renaming go→b7
open PySem.SetTable.probe renaming go→R9
open PySem.Str renaming ofString→B9,empty→R3
open PySem.Value renaming ref→E2,int→O6,none→P5,bool→Z9,isInt_shape→o8,isInt→q9,notImplemented→A17,str→A37,type→A90,isStrOf→A97
open PySem.W renaming kia_one→O2,findIn→Q2,keepIn→Q3,kla_fn→Q5,fnOf→Q8,kitOne→W4,codeIn→X9,nsIn→d3,methodObj→o9,specialIn→p5,mg_of→u9,cellsFrom_some→y7,instObj→A00,kat_nil→A08,lookIn→A24,noTabs→A27,kdu_collect→A31,mroIn→A41,callWith_K→A43,hasDictIn→A53,kitx_list→A54,kitx_dict→A55,plainGet→A65,takesIn→A72,tabObj→A86,kHook→A96,tabIn→B01,isFn→B05
open PySem.W.OpenLaw renaming wellSaid→A89,row→B07
open PySem.W.OpenRow renaming toRowW→B03
open PySem.Walks renaming list→A14
open PySem.pickOrder renaming go→A63
open StateT renaming run_pure→A07
open Std.Legacy.Range renaming size→A09,forIn_eq_forIn_range'→A15
open Sum renaming inl→D7,inr→L9
open Sum.inl renaming inj→U7
open Sum.inr renaming inj→B08
open True renaming intro→R8
set_option Elab.async false
set_option linter.all false
set_option maxRecDepth 100000
set_option maxHeartbeats 0
namespace Fw
open PySem
noncomputable def inCl (s:Stmt)(j:Nat):Stmt:=match s with
 |.ClassDef _ _ _ body _ _ _ _ _ _ _=>body.getD j (.Pass ⟨0,0,0,0⟩)
 |_=>.Pass ⟨0,0,0,0⟩
noncomputable def top (i:Nat):Stmt:=PySem.Challenge.pw_fewrooms_k91_whole_trees_by_all_stands.main.body.getD i (.Pass ⟨0,0,0,0⟩)
noncomputable abbrev qDX:Stmt:=top 5
abbrev qDT:Stmt:=top 6
noncomputable abbrev qDV:Stmt:=top 7
noncomputable abbrev qFO:Stmt:=top 8
abbrev qGK:Stmt:=top 9
abbrev qDA:Stmt:=top 11
abbrev qD8:Stmt:=top 12
abbrev qDW:Stmt:=top 13
abbrev qDU:Stmt:=top 14
abbrev qC3:Stmt:=top 15
noncomputable abbrev qD9:Stmt:=top 17
noncomputable abbrev qFQ:Stmt:=top 18
noncomputable abbrev qCP:Stmt:=top 19
noncomputable abbrev qGL:Stmt:=top 20
noncomputable abbrev qFP:Stmt:=top 21
abbrev qIQ:Stmt:=top 23
abbrev qFN:Stmt:=top 24
abbrev qGJ:Stmt:=top 25
abbrev qR5:Stmt:=top 26
noncomputable abbrev qAJ:Stmt:=top 28
noncomputable abbrev qCK:Stmt:=top 29
noncomputable abbrev qGI:Stmt:=top 30
noncomputable abbrev qCQ:Stmt:=top 32
noncomputable abbrev qIR:Stmt:=top 33
noncomputable abbrev qIT:Stmt:=top 35
noncomputable abbrev qM0:Stmt:=top 36
abbrev qM1:Stmt:=top 37
noncomputable abbrev qDB:Stmt:=top 38
noncomputable abbrev qEI:Stmt:=top 39
noncomputable abbrev qR7:Stmt:=top 40
abbrev qGN:Stmt:=top 41
abbrev qGO:Stmt:=top 42
noncomputable abbrev qLZ:Stmt:=top 43
noncomputable abbrev qGP:Stmt:=top 44
noncomputable abbrev qGM:Stmt:=top 45
noncomputable abbrev qM2:Stmt:=top 46
noncomputable abbrev qFR:Stmt:=top 47
noncomputable abbrev qM3:Stmt:=top 48
abbrev qR6:Stmt:=top 49
abbrev qCR:Stmt:=top 50
abbrev qDC:Stmt:=top 51
abbrev qIS:Stmt:=top 52
noncomputable abbrev qKG:Stmt:=top 53
abbrev qLY:Stmt:=inCl (top 2) 0
noncomputable def dA (s:Stmt):B40:=match s with
 |.FunctionDef _ a _ _ _ _ _ _ _ _=>a
 |_=>{posonlyargs:=[],args:=[],vararg:=none,kwonlyargs:=[],kw_defaults:=[],kwarg:=none,defaults:=[]}
noncomputable def dB (s:Stmt):List Stmt:=match s with
 |.FunctionDef _ _ b _ _ _ _ _ _ _=>b
 |_=>[]
noncomputable def dS (s:Stmt):Scope:=match s with
 |.FunctionDef _ _ _ _ _ _ sc _ _ _=>sc
 |_=>{kind:=.function,names:=[],isGenerator:=false,isCoroutine:=false}
noncomputable abbrev so (s:String):Str:=PySem.Str.ofString s
noncomputable abbrev kh (P:Params)(s:Str):Int:=PySem.PyData.keyHash P s
noncomputable abbrev hde (P:Params)(s:String)(n:Nat)(v:Value):DictEntry:=⟨kh P (so s),.str (so s) n,v⟩
noncomputable abbrev hvs (s:String)(n:Nat):Value:=.str (so s) n
noncomputable abbrev hcut (n:Nat):Value:=hvs "/claim/cut.py" n
noncomputable abbrev hfd (x q:String)(s:Stmt)(a b c d:Value)(e:Option Addr)(f g:Value)(i:Addr):B27:=⟨so x,so q,dA s,.stmts (dB s),dS s,3,[],a,b,c,d,e,f,g,i⟩
noncomputable abbrev htp (d:Data) (s:Array (Option Value)):Obj:=⟨.type "tuple",none,d,s⟩
noncomputable abbrev hcd (d:Data) (s:Array (Option Value)):Obj:=⟨.type "code",none,d,s⟩
noncomputable abbrev hfn (d:Data) (s:Array (Option Value)):Obj:=⟨.type "function",none,d,s⟩
noncomputable abbrev ht0:Obj:=htp (.seq #[]) #[]
noncomputable def hvl:List String->Nat->List Value
 |[],_=>[]
 |x::r,n=>hvs x n::hvl r (n+1)
noncomputable abbrev hts (l:List String)(n:Nat):Obj:=htp (.seq (hvl l n).toArray) #[]
noncomputable abbrev hco (x:String)(t:Nat)(ln ac fl:Int)(b:Nat)(md e:Int)(n:Nat):Obj:=hcd (.fields #[hvs x t,hvs x (t+1),hcut (t+2),.int ln 0,.int ac 0,.int 0 0,.int 0 0,.int fl 0,.ref b,.bool .true,.int md 0,.ref (b+1),.none,.ref (b+2),.ref (b+3),.ref (b+4),.int e 0,.int ln 0,hcut n]) #[]
noncomputable abbrev hcp (x:String)(t:Nat)(ln ac:Int)(b:Nat)(md e:Int):Obj:=hcd (.fields #[hvs x t,hvs x (t+1),hcut (t+2),.int ln 0,.int ac 0,.int 0 0,.int 0 0,.int 3 0,.ref b,.bool .true,.int md 0,.ref (b+1),.none,.none,.none,.ref (b+2),.int e 0,.int ln 0,hcut (t+4)]) #[]
noncomputable abbrev hfo (x:String)(s:Stmt)(m:String)(t c:Nat):Obj:=hfn (.func (hfd x x s .none .none .none (hvs m t) .none (.ref c) .none 0)) #[]
noncomputable def hpK:Params->PySem.W.Frag:=λP=>
 (nat_lit 2,A60 .none .none (.dict #[]) #[])::
 (nat_lit 3,A60 (.type "dict") .none (.dict #[hde P "__name__" 165 (hvs "law_fewrooms_k91_whole_trees_by_all_stands" 456),hde P "__doc__" 166 .none,hde P "__package__" 167 .none,hde P "__loader__" 168 (.builtin "__main__.__loader__#opaque"),hde P "__spec__" 169 .none,hde P "__annotations__" 170 (.ref 6),hde P "__builtins__" 171 (.ref 4),hde P "__file__" 173 (hcut 172),hde P "__cached__" 174 .none,hde P "RoomError" 206 (.ref 24),hde P "Barred" 233 (.ref 44),hde P "NoTree" 249 (.ref 56),hde P "all_needed" 262 (.ref 65),hde P "use_counts" 273 (.ref 72),hde P "renumbered" 279 (.ref 77),hde P "part_net" 285 (.ref 82),hde P "is_tree" 291 (.ref 87),hde P "demand_tree" 301 (.ref 94),hde P "number_over" 307 (.ref 99),hde P "numbers_of" 313 (.ref 104),hde P "tree_rooms" 321 (.ref 111),hde P "tree_plan" 327 (.ref 116),hde P "fault_of_do" 342 (.ref 123),hde P "fault_of" 352 (.ref 130),hde P "stand_behind" 358 (.ref 135),hde P "has_all" 364 (.ref 140),hde P "moves_of" 370 (.ref 145),hde P "played" 386 (.ref 152),hde P "steps_of" 392 (.ref 157),hde P "most_of" 398 (.ref 162),hde P "does" 409 (.ref 169),hde P "stands_reached" 426 (.ref 176),hde P "best_end" 432 (.ref 181),hde P "plan_to" 441 (.ref 188),hde P "part_numbers" 449 (.ref 193),hde P "fewest" 455 (.ref 198),hde P "_law_begin" 465 (.ref 205),hde P "_law_take" 478 (.ref 212),hde P "_law_same" 484 (.ref 217),hde P "_law_some_needs" 495 (.ref 224),hde P "_law_tree_net" 507 (.ref 231),hde P "_law_net" 513 (.ref 236),hde P "_law_needed" 519 (.ref 241),hde P "_law_ground" 525 (.ref 246),hde P "_law_word" 531 (.ref 251),hde P "_law_behind" 537 (.ref 256),hde P "_law_played" 549 (.ref 263),hde P "_law_does" 555 (.ref 268),hde P "_law_is_move" 563 (.ref 275),hde P "_law_come" 569 (.ref 280),hde P "_law_own" 575 (.ref 285),hde P "_law_first_rooms" 581 (.ref 290),hde P "_law_plan_right" 587 (.ref 295),hde P "_law_right" 604 (.ref 302),hde P "law" 615 (.ref 309)] 55) #[])::
 (nat_lit 15,htp (.seq #[.type "ValueError"]) #[])::
 (nat_lit 22,ht0)::
 (nat_lit 23,A60 (.type "dict") .none (.dict #[hde P "__module__" 196 (hvs "fewrooms.errors" 187),hde P "__firstlineno__" 200 (.int 2 199),hde P "__static_attributes__" 201 (.ref 22),hde P "__weakref__" 203 (.ref 25),hde P "__doc__" 204 .none] 3) #[])::
 (nat_lit 24,A60 (.type "type") .none (.cls (A61 (so "RoomError") [.type "ValueError"] [.ref 24,.type "ValueError",.type "Exception",.type "BaseException",.type "object"] 23 (so "RoomError") .true [] [.ref 44,.ref 56] .false .none .false)) #[P2 (.ref 15),.none,P2 (hvs "RoomError" 189),P2 (hvs "RoomError" 197),P2 (.builtin "ValueError.__new__"),P2 (.bool .true)])::
 (nat_lit 25,A60 (.type "getset_descriptor") .none (.fields #[hvs "__weakref__" 202,.ref 24,.builtin "ExceptionGroup.__weakref__",.none]) #[])::
 (nat_lit 28,htp (.seq #[.ref 24]) #[])::
 (nat_lit 35,ht0)::
 (nat_lit 37,hts ["self","move","word"] 222)::
 (nat_lit 38,ht0)::
 (nat_lit 40,hcd (.fields #[hvs "__init__" 219,hvs "Barred.__init__" 220,hcut 221,.int 6 0,.int 3 0,.int 0 0,.int 0 0,.int 3 0,.ref 35,.bool .true,.int 181 0,.ref 36,.none,.ref 37,.ref 38,.ref 39,.int 225 0,.int 6 0,hcut 226]) #[])::
 (nat_lit 41,hfn (.func (hfd "__init__" "Barred.__init__" qLY .none .none .none (hvs "fewrooms.errors" 187) .none (.ref 40) .none 0)) #[])::
 (nat_lit 42,hts ["move","word"] 228)::
 (nat_lit 43,A60 (.type "dict") .none (.dict #[hde P "__module__" 214 (hvs "fewrooms.errors" 187),hde P "__firstlineno__" 218 (.int 4 217),hde P "__init__" 227 (.ref 41),hde P "__static_attributes__" 230 (.ref 42),hde P "__doc__" 231 .none] 2) #[])::
 (nat_lit 44,A60 (.type "type") .none (.cls (A61 (so "Barred") [.ref 24] [.ref 44,.ref 24,.type "ValueError",.type "Exception",.type "BaseException",.type "object"] 43 (so "Barred") .true [] [] .false .none .false)) #[P2 (.ref 28),.none,P2 (hvs "Barred" 207),P2 (hvs "Barred" 215),P2 (.builtin "ValueError.__new__"),P2 (.bool .true)])::
 (nat_lit 47,htp (.seq #[.ref 24]) #[])::
 (nat_lit 54,ht0)::
 (nat_lit 55,A60 (.type "dict") .none (.dict #[hde P "__module__" 241 (hvs "fewrooms.errors" 187),hde P "__firstlineno__" 245 (.int 9 244),hde P "__static_attributes__" 246 (.ref 54),hde P "__doc__" 247 .none] 2) #[])::
 (nat_lit 56,A60 (.type "type") .none (.cls (A61 (so "NoTree") [.ref 24] [.ref 56,.ref 24,.type "ValueError",.type "Exception",.type "BaseException",.type "object"] 55 (so "NoTree") .true [] [] .false .none .false)) #[P2 (.ref 47),.none,P2 (hvs "NoTree" 234),P2 (hvs "NoTree" 242),P2 (.builtin "ValueError.__new__"),P2 (.bool .true)])::
 (nat_lit 59,ht0)::
 (nat_lit 61,hts ["net","asked","wanted","work","need"] 255)::
 (nat_lit 62,ht0)::
 (nat_lit 64,hco "all_needed" 252 12 2 3 59 181 260 261)::
 (nat_lit 65,hfo "all_needed" qDX "fewrooms.nets" 250 64)::
 (nat_lit 66,ht0)::
 (nat_lit 68,hts ["net","works","counts","work","need"] 266)::
 (nat_lit 69,ht0)::
 (nat_lit 71,hco "use_counts" 263 21 2 3 66 181 271 272)::
 (nat_lit 72,hfo "use_counts" qDT "fewrooms.nets" 250 71)::
 (nat_lit 73,ht0)::
 (nat_lit 76,hcp "renumbered" 274 27 2 73 181 277)::
 (nat_lit 77,hfo "renumbered" qDV "fewrooms.nets" 250 76)::
 (nat_lit 78,ht0)::
 (nat_lit 81,hcp "part_net" 280 29 2 78 181 283)::
 (nat_lit 82,hfo "part_net" qFO "fewrooms.nets" 250 81)::
 (nat_lit 83,ht0)::
 (nat_lit 86,hcp "is_tree" 286 34 2 83 181 289)::
 (nat_lit 87,hfo "is_tree" qGK "fewrooms.nets" 250 86)::
 (nat_lit 88,ht0)::
 (nat_lit 90,hts ["net","work"] 297)::
 (nat_lit 91,ht0)::
 (nat_lit 93,hco "demand_tree" 294 39 2 3 88 181 299 300)::
 (nat_lit 94,hfo "demand_tree" qDA "fewrooms.trees" 292 93)::
 (nat_lit 95,ht0)::
 (nat_lit 98,hcp "number_over" 302 42 1 95 181 305)::
 (nat_lit 99,hfo "number_over" qD8 "fewrooms.trees" 292 98)::
 (nat_lit 100,ht0)::
 (nat_lit 103,hcp "numbers_of" 308 45 2 100 181 311)::
 (nat_lit 104,hfo "numbers_of" qDW "fewrooms.trees" 292 103)::
 (nat_lit 105,ht0)::
 (nat_lit 107,hts ["net","work"] 317)::
 (nat_lit 108,ht0)::
 (nat_lit 110,hco "tree_rooms" 314 51 2 3 105 181 319 320)::
 (nat_lit 111,hfo "tree_rooms" qDU "fewrooms.trees" 292 110)::
 (nat_lit 112,ht0)::
 (nat_lit 115,hcp "tree_plan" 322 53 2 112 181 325)::
 (nat_lit 116,hfo "tree_plan" qC3 "fewrooms.trees" 292 115)::
 (nat_lit 117,ht0)::
 (nat_lit 119,hts ["net","rooms","stand","work","there","result","need"] 333)::
 (nat_lit 120,ht0)::
 (nat_lit 122,hco "fault_of_do" 330 64 4 3 117 181 340 341)::
 (nat_lit 123,hfo "fault_of_do" qD9 "fewrooms.moves" 328 122)::
 (nat_lit 124,ht0)::
 (nat_lit 126,hts ["net","rooms","stand","move"] 346)::
 (nat_lit 127,ht0)::
 (nat_lit 129,hco "fault_of" 343 76 4 3 124 181 350 351)::
 (nat_lit 130,hfo "fault_of" qFQ "fewrooms.moves" 328 129)::
 (nat_lit 131,ht0)::
 (nat_lit 134,hcp "stand_behind" 353 82 2 131 181 356)::
 (nat_lit 135,hfo "stand_behind" qCP "fewrooms.moves" 328 134)::
 (nat_lit 136,ht0)::
 (nat_lit 139,hcp "has_all" 359 86 2 136 181 362)::
 (nat_lit 140,hfo "has_all" qGL "fewrooms.moves" 328 139)::
 (nat_lit 141,ht0)::
 (nat_lit 144,hcp "moves_of" 365 88 3 141 181 368)::
 (nat_lit 145,hfo "moves_of" qFP "fewrooms.moves" 328 144)::
 (nat_lit 146,ht0)::
 (nat_lit 148,hts ["net","rooms","plan","stand","stands","number","move","word"] 376)::
 (nat_lit 149,ht0)::
 (nat_lit 151,hco "played" 373 93 3 3 146 181 384 385)::
 (nat_lit 152,hfo "played" qIQ "fewrooms.plans" 371 151)::
 (nat_lit 153,ht0)::
 (nat_lit 156,hcp "steps_of" 387 103 1 153 181 390)::
 (nat_lit 157,hfo "steps_of" qFN "fewrooms.plans" 371 156)::
 (nat_lit 158,ht0)::
 (nat_lit 161,hcp "most_of" 393 105 2 158 181 396)::
 (nat_lit 162,hfo "most_of" qGJ "fewrooms.plans" 371 161)::
 (nat_lit 163,ht0)::
 (nat_lit 165,hts ["net","rooms","plan","asked","stands"] 402)::
 (nat_lit 166,ht0)::
 (nat_lit 168,hco "does" 399 107 4 3 163 181 407 408)::
 (nat_lit 169,hfo "does" qR5 "fewrooms.plans" 371 168)::
 (nat_lit 170,ht0)::
 (nat_lit 172,hts ["net","rooms","reached","due","later","stand","move","further","steps"] 415)::
 (nat_lit 173,ht0)::
 (nat_lit 175,hco "stands_reached" 412 114 2 3 170 181 424 425)::
 (nat_lit 176,hfo "stands_reached" qAJ "fewrooms.stairs" 410 175)::
 (nat_lit 177,ht0)::
 (nat_lit 180,hcp "best_end" 427 128 2 177 181 430)::
 (nat_lit 181,hfo "best_end" qCK "fewrooms.stairs" 410 180)::
 (nat_lit 182,ht0)::
 (nat_lit 184,hts ["reached","stand","plan"] 436)::
 (nat_lit 185,ht0)::
 (nat_lit 187,hco "plan_to" 433 131 2 3 182 181 439 440)::
 (nat_lit 188,hfo "plan_to" qGI "fewrooms.stairs" 410 187)::
 (nat_lit 189,ht0)::
 (nat_lit 192,hcp "part_numbers" 444 139 2 189 181 447)::
 (nat_lit 193,hfo "part_numbers" qCQ "fewrooms.trying" 442 192)::
 (nat_lit 194,ht0)::
 (nat_lit 197,hcp "fewest" 450 141 2 194 181 453)::
 (nat_lit 198,hfo "fewest" qIR "fewrooms.trying" 442 197)::
 (nat_lit 199,ht0)::
 (nat_lit 201,hts ["_law_script","_law_cells"] 461)::
 (nat_lit 202,ht0)::
 (nat_lit 204,hco "_law_begin" 458 153 1 3 199 181 463 464)::
 (nat_lit 205,hfo "_law_begin" qIT "law_fewrooms_k91_whole_trees_by_all_stands" 456 204)::
 (nat_lit 206,ht0)::
 (nat_lit 208,hts ["_law_state","_law_many","_law_turn","_law_place","_law_cell","_law_digit","_law_mixed"] 469)::
 (nat_lit 209,ht0)::
 (nat_lit 211,hco "_law_take" 466 158 2 3 206 181 476 477)::
 (nat_lit 212,hfo "_law_take" qM0 "law_fewrooms_k91_whole_trees_by_all_stands" 456 211)::
 (nat_lit 213,ht0)::
 (nat_lit 216,hcp "_law_same" 479 169 2 213 181 482)::
 (nat_lit 217,hfo "_law_same" qM1 "law_fewrooms_k91_whole_trees_by_all_stands" 456 216)::
 (nat_lit 218,ht0)::
 (nat_lit 220,hts ["_law_state","_law_k","_law_found","_law_turn","_law_far"] 488)::
 (nat_lit 221,ht0)::
 (nat_lit 223,hco "_law_some_needs" 485 181 2 3 218 181 493 494)::
 (nat_lit 224,hfo "_law_some_needs" qDB "law_fewrooms_k91_whole_trees_by_all_stands" 456 223)::
 (nat_lit 225,ht0)::
 (nat_lit 227,hts ["_law_state","_law_many","_law_open_ones","_law_found","_law_k","_law_so_many"] 499)::
 (nat_lit 228,ht0)::
 (nat_lit 230,hco "_law_tree_net" 496 188 2 3 225 181 505 506)::
 (nat_lit 231,hfo "_law_tree_net" qEI "law_fewrooms_k91_whole_trees_by_all_stands" 456 230)::
 (nat_lit 232,ht0)::
 (nat_lit 235,hcp "_law_net" 508 196 2 232 181 511)::
 (nat_lit 236,hfo "_law_net" qR7 "law_fewrooms_k91_whole_trees_by_all_stands" 456 235)::
 (nat_lit 237,ht0)::
 (nat_lit 240,hcp "_law_needed" 514 211 2 237 181 517)::
 (nat_lit 241,hfo "_law_needed" qGN "law_fewrooms_k91_whole_trees_by_all_stands" 456 240)::
 (nat_lit 242,ht0)::
 (nat_lit 245,hcp "_law_ground" 520 220 2 242 181 523)::
 (nat_lit 246,hfo "_law_ground" qGO "law_fewrooms_k91_whole_trees_by_all_stands" 456 245)::
 (nat_lit 247,ht0)::
 (nat_lit 250,hcp "_law_word" 526 234 4 247 181 529)::
 (nat_lit 251,hfo "_law_word" qLZ "law_fewrooms_k91_whole_trees_by_all_stands" 456 250)::
 (nat_lit 252,ht0)::
 (nat_lit 255,hcp "_law_behind" 532 242 2 252 181 535)::
 (nat_lit 256,hfo "_law_behind" qGP "law_fewrooms_k91_whole_trees_by_all_stands" 456 255)::
 (nat_lit 257,ht0)::
 (nat_lit 259,hts ["_law_net_here","_law_rooms","_law_plan","_law_stands","_law_move","_law_word_here"] 541)::
 (nat_lit 260,ht0)::
 (nat_lit 262,hco "_law_played" 538 246 3 3 257 181 547 548)::
 (nat_lit 263,hfo "_law_played" qGM "law_fewrooms_k91_whole_trees_by_all_stands" 456 262)::
 (nat_lit 264,ht0)::
 (nat_lit 267,hcp "_law_does" 550 254 4 264 181 553)::
 (nat_lit 268,hfo "_law_does" qM2 "law_fewrooms_k91_whole_trees_by_all_stands" 456 267)::
 (nat_lit 269,ht0)::
 (nat_lit 271,hts ["_law_net_here","_law_move"] 559)::
 (nat_lit 272,ht0)::
 (nat_lit 274,hco "_law_is_move" 556 259 2 3 269 181 561 562)::
 (nat_lit 275,hfo "_law_is_move" qFR "law_fewrooms_k91_whole_trees_by_all_stands" 456 274)::
 (nat_lit 276,ht0)::
 (nat_lit 279,hcp "_law_come" 564 263 2 276 181 567)::
 (nat_lit 280,hfo "_law_come" qM3 "law_fewrooms_k91_whole_trees_by_all_stands" 456 279)::
 (nat_lit 281,ht0)::
 (nat_lit 284,hcp "_law_own" 570 288 2 281 181 573)::
 (nat_lit 285,hfo "_law_own" qR6 "law_fewrooms_k91_whole_trees_by_all_stands" 456 284)::
 (nat_lit 286,ht0)::
 (nat_lit 289,hcp "_law_first_rooms" 576 291 2 286 181 579)::
 (nat_lit 290,hfo "_law_first_rooms" qCR "law_fewrooms_k91_whole_trees_by_all_stands" 456 289)::
 (nat_lit 291,ht0)::
 (nat_lit 294,hcp "_law_plan_right" 582 296 4 291 181 585)::
 (nat_lit 295,hfo "_law_plan_right" qDC "law_fewrooms_k91_whole_trees_by_all_stands" 456 294)::
 (nat_lit 296,ht0)::
 (nat_lit 298,hts ["_law_net_here","_law_work","_law_own_here","_law_some","_law_due","_law_plan","_law_one","_law_number","_law_part","_law_rooms","_law_other"] 591)::
 (nat_lit 299,ht0)::
 (nat_lit 301,hco "_law_right" 588 301 2 3 296 181 602 603)::
 (nat_lit 302,hfo "_law_right" qIS "law_fewrooms_k91_whole_trees_by_all_stands" 456 301)::
 (nat_lit 303,ht0)::
 (nat_lit 305,hts ["_law_script","_law_state","_law_turn","_law_net_here","_law_work"] 608)::
 (nat_lit 306,ht0)::
 (nat_lit 308,hco "law" 605 320 1 3 303 181 613 614)::
 (nat_lit 309,hfo "law" qKG "law_fewrooms_k91_whole_trees_by_all_stands" 456 308)::
 []
noncomputable def hpA:List Addr:=[2,3,15,22,23,24,25,28,35,37,38,40,41,42,43,44,47,54,55,56,59,61,62,64,65,66,68,69,71,72,73,76,77,78,81,82,83,86,87,88,90,91,93,94,95,98,99,100,103,104,105,107,108,110,111,112,115,116,117,119,120,122,123,124,126,127,129,130,131,134,135,136,139,140,141,144,145,146,148,149,151,152,153,156,157,158,161,162,163,165,166,168,169,170,172,173,175,176,177,180,181,182,184,185,187,188,189,192,193,194,197,198,199,201,202,204,205,206,208,209,211,212,213,216,217,218,220,221,223,224,225,227,228,230,231,232,235,236,237,240,241,242,245,246,247,250,251,252,255,256,257,259,260,262,263,264,267,268,269,271,272,274,275,276,279,280,281,284,285,286,289,290,291,294,295,296,298,299,301,302,303,305,306,308,309]
noncomputable def hpQ:B15:=PySem.W.view PySem.Challenge.pw_fewrooms_k91_whole_trees_by_all_stands [1,2,3,5,6,7,8,9,11,12,13,14,15,17,18,19,20,21,23,24,25,26,28,29,30,32,33,35,36,37,38,39,40,41,42,43,44,45,46,47,48,49,50,51,52,53]
def hpN:Nat:=4058
theorem hpE (P:Params):hpA=(hpK P).map (·.1):=by kernel_rfl
noncomputable def hpX (s:Shared):Bool:=PySem.W.xlAt hpQ [] s&&PySem.W.recOk (PySem.W.RowW.records (B03 (B07 PySem.Challenge.rw_fewrooms_k91_whole_trees_by_all_stands))) s
theorem hpLeft:PySem.W.LeftO PySem.Challenge.pw_fewrooms_k91_whole_trees_by_all_stands hpQ [] hpX (A96 hpK hpA hpE).obs (A96 hpK hpA hpE).val hpN:=λw=>by kernel_rfl
theorem hpSaid:A89 PySem.Challenge.rw_fewrooms_k91_whole_trees_by_all_stands=true:=by kernel_rfl
end Fw
namespace L2
open PySem PySem.Spec PyProof.Rows
abbrev Key:=Sum Int Str
noncomputable def qNS:Key->Value->Bool
 |.inl k,v=>q9 k v
 |.inr x,v=>A97 x v
noncomputable def keyH (w:World):Key->Int
 |.inl k=>B53 k
 |.inr x=>hashStr w x
theorem qBL:∀{k:Key} {v:Value},qNS k v=true->(∃i t,k=D7 i/\v=O6 i t)\/(∃x t,k=L9 x/\v=A37 x t)
 |.inl i,v,h=>by
  obtain⟨t,e⟩:=o8 (k:=i) (v:=v) h;exact .inl ⟨i,t,rfl,e⟩
 |.inr x,v,h=>by
  obtain⟨t,e⟩:=Value.isStrOf_shape (x:=x) (v:=v) h;exact .inr ⟨x,t,rfl,e⟩
theorem qNR (i:Int)(t:Tok):qNS (.inl i) (.int i t)=true:=by simp[qNS,q9]
theorem qVX (x:Str)(t:Tok):qNS (.inr x) (.str x t)=true:=by simp[qNS,A97]
theorem qe9 (a b:Int):decide ((D7 a:Key)=D7 b)=(a==b):=by
 by_cases e:a=b
 ·subst e;simp
 ·have h:¬(D7 a:Key)=D7 b:=λq=>e (U7 q);rw[decide_eq_false h];exact(beq_eq_false_iff_ne.mpr e).symm
theorem qe6 (a b:Str):decide ((L9 a:Key)=L9 b)=decide (a=b):=by
 by_cases e:a=b
 ·subst e;simp
 ·have h:¬(L9 a:Key)=L9 b:=λq=>e (B08 q);rw[decide_eq_false h,decide_eq_false e]
theorem qe8 (a:Int)(b:Str):decide ((D7 a:Key)=L9 b)=false:=decide_eq_false (λq=>nomatch q)
theorem qe7 (a:Str)(b:Int):decide ((L9 a:Key)=D7 b)=false:=decide_eq_false (λq=>nomatch q)
noncomputable def qB0 (prog:B15)(w:World):PySem.KeyKind prog w Key where
 is:=qNS
 hash:=keyH w
 inj:=λv a b f d=>by
  rcases qBL f with⟨i,t,rfl,rfl⟩|⟨x,t,rfl,rfl⟩
  ·rcases qBL d with⟨j,u,rfl,e⟩|⟨y,u,rfl,e⟩
   ·injection e with e1 _;rw[e1]
   ·exact nomatch e
  ·rcases qBL d with⟨j,u,rfl,e⟩|⟨y,u,rfl,e⟩
   ·exact nomatch e
   ·injection e with e1 _;rw[e1]
 byValue:=λk v h=>by
  rcases qBL h with⟨i,t,rfl,rfl⟩|⟨x,t,rfl,rfl⟩<;>rfl
 pyHash:=λc h=>by
  rcases qBL c with⟨i,t,rfl,rfl⟩|⟨x,t,rfl,rfl⟩
  ·exact wpAny_pyHash_int h
  ·exact wpAny_pyHash_str h
 eqBool:=λg c h=>by
  rcases qBL g with⟨i,t,rfl,rfl⟩|⟨x,t,rfl,rfl⟩
  ·rcases qBL c with⟨j,u,rfl,rfl⟩|⟨y,u,rfl,rfl⟩
   ·rw[qe9] at h;exact wpAny_eqBool_int h
   ·rw[qe8] at h;exact A38 i t y u _ _ _ _ h
  ·rcases qBL c with⟨j,u,rfl,rfl⟩|⟨y,u,rfl,rfl⟩
   ·rw[qe7] at h;exact A39 x t j u _ _ _ _ h
   ·rw[qe6] at h;exact wpAny_eqBool_str h
 «strs»:=λk x t v h=>by
  rcases qBL h with⟨i,u,rfl,e⟩|⟨y,u,rfl,e⟩
  ·exact nomatch e
  ·injection e with e1 _
   subst e1;cases v<;>rfl
theorem qT1 (prog:B15)(w:World)(k:Key)(v:Value):(qB0 prog w).is k v=qNS k v:=rfl
theorem qPS (prog:B15)(w:World)(i:Int)(t:Tok):(qB0 prog w).is (.inl i) (.int i t)=true:=qNR i t
theorem qPR (prog:B15)(w:World)(x:Str)(t:Tok):(qB0 prog w).is (.inr x) (.str x t)=true:=qVX x t
inductive V where
 |non|bl (b:Bool)|int (i:Int)|str (x:Str)|byt (b:Array UInt8)|flt (b:UInt64)|ref (a:Addr)|ty (n:String)
 deriving DecidableEq
def RelV:V->Value->Prop
 |.non,u=>u=P5
 |.bl b,u=>u=Z9 b
 |.int i,u=>∃t,u=O6 i t
 |.str x,u=>∃t,u=A37 x t
 |.byt b,u=>∃t,u=Value.bytes b t
 |.flt b,u=>∃t,u=Value.float b t
 |.ref a,u=>u=E2 a
 |.ty n,u=>u=A90 n
abbrev Vals:List V->List Value->Prop:=Paired RelV
theorem Vals.length {xs:List V}{a:List Value}(r:Vals xs a):xs.length=a.length:=B6 r
theorem Vals.get:∀{xs:List V} {us:List Value} {i:Nat} {x:V},Vals xs us->xs[i]?=some x->∃u,us[i]?=some u/\RelV x u
 |_,_,_,_,.nil,e=>by simp at e
 |_,_,0,_,.cons r _,e=>by simp at e;subst e;exact⟨_,rfl,r⟩
 |_,_,i+1,x,.cons _ t,e=>by
  obtain⟨u,h1,h2⟩:=Vals.get (i:=i) (x:=x) t (by simpa using e)
  exact⟨u,by simpa using h1,h2⟩
theorem Vals.set {x:V}{u:Value}(r:RelV x u):∀{xs:List V} {us:List Value} (i:Nat),Vals xs us->Vals (xs.set i x) (us.set i u)
 |_,_,_,.nil=>.nil
 |_,_,0,.cons _ t=>.cons r t
 |_,_,i+1,.cons q t=>.cons q (Vals.set r i t)
theorem Vals.append:∀{xs ys:List V} {us ws:List Value},Vals xs us->Vals ys ws->Vals (xs++ys) (us++ws)
 |_,_,_,_,.nil,s=>s
 |_,_,_,_,.cons r t,s=>.cons r (Vals.append t s)
theorem Vals.take:∀{xs:List V} {us:List Value} (n:Nat),Vals xs us->Vals (xs.take n) (us.take n)
 |_,_,0,_=>.nil
 |_,_,_+1,.nil=>.nil
 |_,_,n+1,.cons r t=>.cons r (Vals.take n t)
theorem Vals.drop:∀{xs:List V} {us:List Value} (n:Nat),Vals xs us->Vals (xs.drop n) (us.drop n)
 |_,_,0,r=>r
 |_,_,_+1,.nil=>.nil
 |_,_,n+1,.cons _ t=>Vals.drop n t
def RelO:Option V->Option Value->Prop
 |some v,some u=>RelV v u
 |none,none=>True
 |_,_=>False
def KV {κ:Type}:List (κ×V)->List (κ×Value)->Prop:=Paired λ(p:κ×V) (q:κ×Value)=>p.1=q.1/\RelV p.2 q.2
inductive CTb where
 |tab (q:Str)
 |cod (q:Str)
noncomputable def kV:Key->V
 |.inl i=>.int i
 |.inr x=>.str x
inductive HO where
 |lst (xs:List V)
 |tup (xs:List V)
 |dK (Af:List (Key×V))|dT (Af:List (List Key×V))
 |set (S:Int->Bool) (n:Nat)
 |ins (C dx:Addr) (fs:List (Str×V))
 |own (x:Addr)
 |xd (fs:List (Str×V))
 |met (f x:Addr)
 |rng (lo hi:Int)
 |frz (o:Obj) (u:HO)
 |tbl (t:CTb)
 |ext (φ:Heap->Prop)
abbrev Hp:=Addr->Option HO
noncomputable def Ag (H:Hp)(a:Addr)(o:HO):Hp:=λb=>if b=a then some o else H b
theorem qA1 {H:Hp}{a:Addr}{o:HO}:Ag H a o a=some o:=by unfold Ag;rw[if_pos rfl]
theorem qA8 {H:Hp}{a b:Addr}{o:HO}(h:b≠a):Ag H a o b=H b:=by unfold Ag;rw[if_neg h]
theorem qHH {H:Hp}{a:Addr}{o u:HO}:Ag (Ag H a o) a u=Ag H a u:=by
 funext b;unfold Ag;split<;>rfl
theorem qCC {H:Hp}{a b:Addr}{o u:HO}(h:H a=some o)(h':H b=some u)(d:o≠u):a≠b:=by
 intro e;subst e;rw[h] at h';exact d (D0 h')
theorem qA6 {H:Hp}{a b:Addr}{o:HO}(h:H a=some o)(h':H b=none):a≠b:=by
 intro e;subst e;rw[h] at h';cases h'
section
variable(P:B15)(w:World)
def ObjOk (H:Hp)(h:Heap)(a:Addr):HO->Prop
 |.lst xs=>xs.length<=B14/\∃(its:List Value) (n:Nat),Vals xs its/\h.get? a=some {cls:=.type "list",data:=.seq its.toArray n}
 |.tup xs=>xs.length<=B14/\∃its:List Value,Vals xs its/\IsTup h a its.toArray
 |.dK Af=>Af.length<=B14/\(a==B35)=false/\∃vs,KV Af vs/\h.DictOf (qB0 P w) a vs
 |.dT Af=>Af.length<=B14/\(a==B35)=false/\∃xs:List (List Key×Addr×Value),
   Paired (λ(p:List Key×V) (q:List Key×Addr×Value)=>p.1=q.1/\H q.2.1=some (.tup (p.1.map kV))/\RelV p.2 q.2.2) Af xs/\
   ∃o es ep,h.get? a=some o/\o.ExactDict/\o.data=.dict es ep/\es.toList=xs.map (entryOfKey (B85 (qB0 P w)))/\(xs.map (·.1)).Nodup
 |.set S n=>h.SetOf (B62 P w) a S n
 |.ins C dx fs=>H dx=some (.own a)/\fs.length<=1000/\dx≠a/\h.get? a=some (A00 C dx)/\
   ∃mA,h.Ns1 dx mA/\(∀f,RelO (fs.lookup f) (mA f))/\PySem.Within mA (fs.map (·.1))
 |.own _=>∃o,h.get? a=some o
 |.xd fs=>∃mA,h.Ns1 a mA/\∀f,RelO (fs.lookup f) (mA f)
 |.rng lo hi=>∃t u v,h.get? a=some {cls:=.type "range",data:=.fields #[.int lo t,.int hi u,.int 1 v]}
 |.frz o u=>h.get? a=some o/\ObjOk H h a u
 |.tbl (.tab q)=>∃more:Array Value,h.get? a=some {cls:=.none,data:=.fields more}/\TriplesOk more.toList/\∀pos cv,codeAmong pos more.toList=some cv->∃c,cv=.ref c/\H c=some (.tbl (.cod q))
 |.tbl (.cod q)=>h.CodeRec (.ref a) q
 |.met f x=>h.get? a=some (o9 (.ref f) (.ref x))
 |.ext φ=>φ h/\(∃o,h.get? a=some o)/\∀h1 h2:Heap,φ h1->(∀o,h1.get? a=some o->h2.get? a=some o)->φ h2
def HOk (H:Hp)(h:Heap):Prop:=∀a o,H a=some o->ObjOk P w H h a o
end
section
variable{P:B15}{w:World}{H H':Hp}{h h':Heap}{a:Addr}{o:HO}
theorem ObjOk.lt (x:ObjOk P w H h a o):a<h.objs.size:=by
 cases o with
 |lst xs=>obtain⟨_,_,_,_,e⟩:=x;exact C0 e
 |tup xs=>obtain⟨_,_,_,p⟩:=x;exact p.lt
 |dK Af=>obtain⟨_,_,_,_,o,_,_,e,_⟩:=x;exact C0 e
 |dT Af=>obtain⟨_,_,_,_,o,_,_,e,_⟩:=x;exact C0 e
 |set S n=>obtain⟨o,_,_,_,e,_⟩:=x;exact C0 e
 |ins C dx fs=>obtain⟨_,_,_,e,_⟩:=x;exact C0 e
 |own y=>obtain⟨_,e⟩:=x;exact C0 e
 |xd fs=>obtain⟨_,⟨_,_,_,e,_⟩,_⟩:=x;exact C0 e
 |rng lo hi=>obtain⟨_,_,_,e⟩:=x;exact C0 e
 |frz ob u=>obtain⟨e,_⟩:=x;exact C0 e
 |tbl t=>
  cases t with
  |tab q=>obtain⟨_,e,_⟩:=x;exact C0 e
  |cod q=>obtain⟨c,o,_,_,e,g,_⟩:=x;cases e;exact C0 g
 |met f y=>exact C0 (show h.get? a=some _ from x)
 |ext φ=>obtain⟨_,⟨_,e⟩,_⟩:=x;exact C0 e
theorem Paired.mapP {α β:Type}{F G:α->β->Prop}:∀{l₁:List α} {l₂:List β},Paired F l₁ l₂->(∀a b,F a b->G a b)->Paired G l₁ l₂
 |_,_,.nil,_=>.nil
 |_,_,.cons r t,f=>.cons (f _ _ r) (Paired.mapP t f)
theorem ObjOk.stay (x:ObjOk P w H h a o)(k:∀b u,(b=a\/H b=some (.own a))->h.get? b=some u->h'.get? b=some u)
  (ho:∀b,H b=some (.own a)->H' b=some (.own a)) (ht:∀b xs,H b=some (.tup xs)->H' b=some (.tup xs)) (hb:∀b t,H b=some (.tbl t)->H' b=some (.tbl t):=by exactλ_ _ q=>q):ObjOk P w H' h' a o:=by
 induction o with
 |lst xs=>obtain⟨z,s,n,r,e⟩:=x;exact⟨z,s,n,r,k _ _ (.inl rfl) e⟩
 |tup xs=>obtain⟨z,s,r,i,e,c⟩:=x;exact⟨z,s,r,i,k _ _ (.inl rfl) e,c⟩
 |dK Af=>obtain⟨z,y,vs,r,i,j,l,e,c⟩:=x;exact⟨z,y,vs,r,i,j,l,k _ _ (.inl rfl) e,c⟩
 |dT Af=>
  obtain⟨z,y,xs,r,i,j,l,e,c⟩:=x;exact⟨z,y,xs,Paired.mapP r λp q z=>⟨z.1,ht _ _ z.2.1,z.2.2⟩,i,j,l,k _ _ (.inl rfl) e,c⟩
 |set S n=>obtain⟨i,j,l,t,e,c⟩:=x;exact⟨i,j,l,t,k _ _ (.inl rfl) e,c⟩
 |ins C dx fs=>
  obtain⟨d,z,ne,e,mA,⟨od,j,l,e2,c⟩,r⟩:=x;exact⟨ho _ d,z,ne,k _ _ (.inl rfl) e,mA,⟨od,j,l,k _ _ (.inr d) e2,c⟩,r⟩
 |own y=>obtain⟨i,e⟩:=x;exact⟨i,k _ _ (.inl rfl) e⟩
 |xd fs=>obtain⟨mA,⟨od,j,l,e,c⟩,r⟩:=x;exact⟨mA,⟨od,j,l,k _ _ (.inl rfl) e,c⟩,r⟩
 |rng lo hi=>obtain⟨t,u,v,e⟩:=x;exact⟨t,u,v,k _ _ (.inl rfl) e⟩
 |frz i u ih=>obtain⟨e,q⟩:=x;exact⟨k _ _ (.inl rfl) e,ih q⟩
 |tbl t=>
  cases t with
  |tab q=>obtain⟨m,e,tr,c⟩:=x;exact⟨m,k a _ (.inl rfl) e,tr,λa0 cv z=>let⟨c',e1,e2⟩:=c a0 cv z;⟨c',e1,hb _ _ e2⟩⟩
  |cod q=>obtain⟨c,o,vs,t,e,g,r⟩:=x;cases e;exact⟨a,o,vs,t,rfl,k a _ (.inl rfl) g,r⟩
 |met f y=>
  have e:h.get? a=some (o9 (.ref f) (.ref y)):=x;show h'.get? a=some (o9 (.ref f) (.ref y));exact k a _ (.inl rfl) e
 |ext φ=>obtain⟨p,⟨o,e⟩,st⟩:=x;exact⟨st _ _ p λo q=>k _ _ (.inl rfl) q,⟨o,k _ _ (.inl rfl) e⟩,st⟩
theorem HOk.lt (x:HOk P w H h)(e:H a=some o):a<h.objs.size:=(x a o e).lt
theorem HOk.fresh (x:HOk P w H h)(e:h.objs.size<=a):H a=none:=by
 cases q:H a with
 |none=>rfl
 |some u=>exact absurd (E4 (x.lt q) e) (Q1 _)
theorem HOk.kept (x:HOk P w H h)(k:∀b u,h.get? b=some u->h'.get? b=some u):HOk P w H h':=λa o e=>
 (x a o e).stay (λb u _ q=>k b u q) (λ_ q=>q) λ_ _ q=>q
theorem HOk.laid (x:HOk P w H h)(k:∀b u,h.get? b=some u->h'.get? b=some u)(i:h.objs.size<=a)(d:ObjOk P w (Ag H a o) h' a o):HOk P w (Ag H a o) h':=λb u e=>by
 have f:=x.fresh i;by_cases g:b=a
 ·subst g;rw[qA1] at e;cases e;exact d
 ·rw[qA8 g] at e;exact(x b u e).stay (λc v _ q=>k c v q) (λc q=>by rw[qA8 (qA6 q f)];exact q) (λc j q=>by rw[qA8 (qA6 q f)];exact q) λc t q=>by rw[qA8 (qA6 q f)];exact q
end
def Rd (H:Hp)(a:Addr)(u:HO):Prop:=H a=some u\/∃o,H a=some (.frz o u)
theorem Rd.ok {P:B15}{w:World}{H:Hp}{h:Heap}{a:Addr}{u:HO}(r:Rd H a u)(x:HOk P w H h):ObjOk P w H h a u:=by
 rcases r with r|⟨o,r⟩
 ·exact x a u r
 ·obtain⟨_,q⟩:=x a _ r;exact q
def Mut:Option HO->Prop
 |some (.lst _)=>True
 |some (.dK _)=>True
 |some (.dT _)=>True
 |some (.set _ _)=>True
 |some (.ins _ _ _)=>True
 |some (.ext _)=>True
 |_=>False
section
variable{P:B15}{w:World}{H:Hp}{h h':Heap}{x e:Addr}{o':HO}
theorem HOk.write (p:HOk P w H h)(f:Mut (H x))(m:e=x\/H e=some (.own x))(k:∀b u,b≠e->h.get? b=some u->h'.get? b=some u)(l:∃u,h'.get? e=some u)
  (j:ObjOk P w (Ag H x o') h' x o'):HOk P w (Ag H x o') h':=λb u q=>by
 have d:∀c y,H c=some (.own y)->c≠x:=λc y r z=>by subst z;rw[r] at f;exact f
 have g:∀c xs,H c=some (.tup xs)->c≠x:=λc xs r z=>by subst z;rw[r] at f;exact f
 by_cases i:b=x
 ·subst i;rw[qA1] at q;cases q;exact j
 ·rw[qA8 i] at q;by_cases a:b=e
  ·have n:H b=some (.own x):=by
    rcases m with z|z
    ·exact absurd (a.trans z) i
    ·rw[a];exact z
   rw[q] at n;cases n;obtain⟨v,o⟩:=l;exact⟨v,by rw[a];exact o⟩
  ·refine(p b u q).stay (λc v hc r=>k c v ?_ r) (λc r=>by rw[qA8 (d c b r)];exact r) (λc xs r=>by rw[qA8 (g c xs r)];exact r) λc t r=>by rw[qA8 (λz=>by subst z;rw[r] at f;exact f)];exact r
   rcases hc with rfl|hc
   ·exact a
   ·rintro rfl;rcases m with z|z
    ·exact d c b hc z
    ·rw[hc] at z;cases z;exact i rfl
end
structure Un (fs ex:List Addr)(H H':Hp)(h h':Heap):Prop where
 keep:∀b o,h.get? b=some o->H b=none->b∉fs->b∉ex->h'.get? b=some o
 slot:∀b o,h.get? b=some o->H b=none->b∈fs->b∉ex->∃sl,h'.get? b=some {o with slots:=sl}
 free:∀b o,h.get? b=some o->H b=none->b∉ex->H' b=none
 there:∀b o,h.get? b=some o->b∉ex->∃o',h'.get? b=some o'
 tups:∀b xs,H b=some (.tup xs)->H' b=some (.tup xs)
 frzs:∀b o u,H b=some (.frz o u)->H' b=some (.frz o u)
 tbls:∀b ps,H b=some (.tbl ps)->H' b=some (.tbl ps)
section
variable{fs fs' ex ex':List Addr}{H H1 H2:Hp}{h h1 h2 h':Heap}{a x e:Addr}{o:HO}
theorem Un.any (u:Un fs ex H H1 h h1){b:Addr}{a:Obj}(q:h.get? b=some a)(n:H b=none)(c:b∉ex):∃sl,h1.get? b=some {a with slots:=sl}:=by
 by_cases d:b∈fs
 ·exact u.slot b a q n d c
 ·exact⟨a.slots,u.keep b a q n d c⟩
theorem Un.kept (k:∀b u,h.get? b=some u->h'.get? b=some u):Un fs ex H H h h':=
 ⟨λb a q _ _ _=>k b a q,λb a q _ _ _=>⟨a.slots,k b a q⟩,λ_ _ _ n _=>n,λb a q _=>⟨a,k b a q⟩,λ_ _ q=>q,λ_ _ _ q=>q,λ_ _ q=>q⟩
theorem Un.refl:Un fs ex H H h h:=Un.kept λ_ _ q=>q
theorem Un.laid (k:∀b u,h.get? b=some u->h'.get? b=some u)(e:h.objs.size<=a)(c:H a=none):Un fs ex H (Ag H a o) h h' where
 keep:=λb u q _ _ _=>k b u q
 slot:=λb u q _ _ _=>⟨u.slots,k b u q⟩
 free:=λb u q n _=>by rw[qA8 (D1 (E4 (C0 q) e))];exact n
 there:=λb u q _=>⟨u,k b u q⟩
 tups:=λb d q=>by rw[qA8 (qA6 q c)];exact q
 frzs:=λb u d q=>by rw[qA8 (qA6 q c)];exact q
 tbls:=λb f q=>by rw[qA8 (qA6 q c)];exact q
theorem Un.write (c:Mut (H x))(j:e=x\/H e=some (.own x))(k:∀b u,b≠e->h.get? b=some u->h'.get? b=some u)(f:∃u,h'.get? e=some u):Un fs ex H (Ag H x o) h h':=by
 have g:∀b,H b=none->b≠x:=λb n z=>by subst z;rw[n] at c;exact c
 have i:∀b,H b=none->b≠e:=λb n z=>by
  subst z;rcases j with r|r
  ·exact g b n r
  ·rw[n] at r;cases r
 have d:∀b u,H b=some u->¬Mut (some u)->b≠x:=λb u q l z=>by subst z;rw[q] at c;exact l c
 refine⟨λb u q n _ _=>k b u (i b n) q,λb u q n _ _=>⟨u.slots,k b u (i b n) q⟩,λb u q n _=>by rw[qA8 (g b n)];exact n,λb u q _=>?_,
  λb m q=>by rw[qA8 (d b _ q λz=>z)];exact q,λb u m q=>by rw[qA8 (d b _ q λz=>z)];exact q,λb p q=>by rw[qA8 (d b _ q λz=>z)];exact q⟩
 by_cases a:b=e
 ·subst a;exact f
 ·exact⟨u,k b u a q⟩
end
noncomputable def trk (h:Heap)(H:Hp):List Addr:=(G8 h.objs.size).filter λa=>(H a).isSome
noncomputable def hidT (h:Heap)(H:Hp):Heap:=PySem.W.hideAll h (trk h H)
theorem qW7 (h:Heap)(H:Hp):(hidT h H).objs.size=h.objs.size:=PySem.W.hideAll_size _ _
theorem qZ9 {h:Heap}{H:Hp}{b:Addr}{o:Obj}(e:h.get? b=some o)(n:H b=none):(hidT h H).get? b=some o:=
 PySem.W.hideAll_get _ e λa=>by
  have q:(H b).isSome=true:=(D6.mp a).2;rw[n] at q;simp at q
theorem qbV {h:Heap}{H:Hp}{b:Addr}{o:Obj}(e:(hidT h H).get? b=some o):h.get? b=some o/\H b=none:=by
 have c:h.get? b=some o:=PySem.W.of_hideAll (trk h H) e;refine⟨c,?_⟩;cases q:H b with
 |none=>rfl
 |some x=>
  have f:b∈trk h H:=D6.mpr ⟨G3.mpr (C0 c),by simp[q]⟩
  have z:(hidT h H).get? b=none:=PySem.W.hideAll_none (trk h H) f;rw[z] at e;cases e
noncomputable def qcQ (g h:Heap)(L:Addr):List (Addr×Obj):=(G8 h.objs.size).filterMap λa=>if a=L\/(g.get? a).isSome=true then none else(h.get? a).map λo=>(a,o)
noncomputable def rest (g h:Heap)(L d:Addr):List (Addr×Obj):=(qcQ g h L).filter λp=>decide (p.1≠d)
structure Mod (K:PySem.W.Frag)(mg:Str->Option Value)(base:Heap):Prop where
 kin:K.In base
 glob:base.Ns B24 mg
 blt:∃mb,base.Ns B88 mb/\∀x:Str,x ≠ "__name__"->mb x=B18 x
 nolimit:base.NoLimit
structure Cx where
 prog:B15
 w:World
 K:PySem.W.Frag
 mg:Str->Option Value
 base:Heap
 A:Around
 N:List Str
 s₀:Shared
 H₀:Hp
 env:Env
 outer:List Env
 stack:List Env
 ex:List Addr
 fn:Str->Bool
 calm:Bool
 pn:List (Addr×Obj)
 xe:Value->Shared->Prop
noncomputable def frs (l:List Env):List Addr:=l.filterMap (·.frame)
noncomputable abbrev Cx.fs (X:Cx):List Addr:=frs X.outer
def Vis (sc:Scope)(x:Str):Prop:=sc.names.lookup x=some .local\/sc.names.lookup x=some .cell\/sc.names.lookup x=some .free
def Loc (sc:Scope)(x:Str):Prop:=sc.names.lookup x=some .local\/sc.names.lookup x=some .cell
def Look (env:Env)(h:Heap)(m:Str->Option Value)(x:Str)(u:Value):Prop:=
 (env.kindOf x=some .local/\m x=some u)\/((env.kindOf x=some .cell\/env.kindOf x=some .free)/\∃c,env.cells.lookup x=some c/\h.IsCell c (some u))
structure Cx.Ok (X:Cx):Prop where
 mod:Mod X.K X.mg X.base
 kind:X.env.scope.kind=.function
 glob:X.env.globals=B24
 blt:X.env.builtins=B88
 above:X.s₀.heap.objs.size<=X.env.locals
 inj:∀x y c,X.env.cells.lookup x=some c->X.env.cells.lookup y=some c->x=y
 has:∀x,(X.env.kindOf x=some .cell\/X.env.kindOf x=some .free)->∃c,X.env.cells.lookup x=some c
 cab:∀x c,X.fn x=true->X.env.cells.lookup x=some c->X.s₀.heap.objs.size<=c
 hd:X.calm=true->X.A.handled=none
 frames:X.A.frames=some X.stack
 stk:X.stack=X.outer\/(X.stack=X.env::X.outer/\X.env.frame=some X.env.locals)
 exf:∀b∈X.ex,b≠X.env.locals/\∀x c,X.env.cells.lookup x=some c->c≠b
 bs:∀b o,X.base.get? b=some o->X.s₀.heap.get? b=some o/\X.H₀ b=none
 bsz:X.base.objs.size<=X.s₀.heap.objs.size
 noex:∀b o,X.base.get? b=some o->b∉X.ex
 exfs:∀b∈X.ex,b∉X.fs
 funs:X.s₀.heap.FunFrames X.base X.outer
 frf:∀b∈X.fs,X.H₀ b=none
structure Inv (X:Cx)(Ab:List (Addr×Obj))(σ:List (Option V))(H:Hp)(s:Shared):Prop where
 ok:X.Ok
 os:s.os=X.s₀.os
 bare:AllBare s.gens
 base:Un X.fs X.ex X.H₀ H X.s₀.heap s.heap
 loc:∃m,s.heap.Ns X.env.locals m/\∀(i:Nat) (x:Str) (v:V),X.N[i]?=some x->σ[i]?=some (some v)->Vis X.env.scope x->∃u,RelV v u/\Look X.env s.heap m x u
 cell:∀x c,X.env.cells.lookup x=some c->∃v,s.heap.IsCell c v
 free:H X.env.locals=none
 freeC:∀x c,X.env.cells.lookup x=some c->H c=none
 pin:∀p∈X.pn++Ab,s.heap.get? p.1=some p.2/\H p.1=none/\p.1≠X.env.locals/\p.1∉X.fs/\∀v,p.2.data≠.cell v
 hok:HOk X.prog X.w H s.heap
 len:σ.length=X.N.length
section
variable{X:Cx}{Ab:List (Addr×Obj)}{σ:List (Option V)}{H H':Hp}{s:Shared}{h':Heap}
theorem Cx.Ok.nofr (a:X.Ok){b:Addr}{o:Obj}(e:X.base.get? b=some o):b∉X.fs:=λc=>by
 have:=(a.funs.mem c).1;rw[e] at this;cases this
theorem Inv.bs (I:Inv X Ab σ H s):∀b o,X.base.get? b=some o->s.heap.get? b=some o/\H b=none:=λb o e=>
 ⟨I.base.keep b o (I.ok.bs b o e).1 (I.ok.bs b o e).2 (I.ok.nofr e) (I.ok.noex b o e),I.base.free b o (I.ok.bs b o e).1 (I.ok.bs b o e).2 (I.ok.noex b o e)⟩
theorem Inv.bk (I:Inv X Ab σ H s):∀b o,X.base.get? b=some o->s.heap.get? b=some o:=λb o e=>(I.bs b o e).1
theorem Inv.mod (I:Inv X Ab σ H s):Mod X.K X.mg X.base:=I.ok.mod
theorem Inv.kIn (I:Inv X Ab σ H s):X.K.In s.heap:=I.ok.mod.kin.keeps I.bk
theorem Inv.nolimit (I:Inv X Ab σ H s):s.heap.NoLimit:=I.ok.mod.nolimit.keeps I.bk
theorem Inv.lt (I:Inv X Ab σ H s):X.env.locals<s.heap.objs.size:=let⟨_,hn,_⟩:=I.loc;hn.lt
theorem Inv.sz (I:Inv X Ab σ H s):X.s₀.heap.objs.size<=s.heap.objs.size:=F2 I.ok.above (R6 I.lt)
theorem Inv.nofs (I:Inv X Ab σ H s){a:Addr}(h:s.heap.objs.size<=a):a∉X.fs:=λc=>by
 obtain⟨_,o,b,_⟩:=I.ok.funs.mem c;exact absurd (E4 (C0 b) (F2 I.sz h)) (Q1 _)
theorem Inv.cne (I:Inv X Ab σ H s):∀x c,X.env.cells.lookup x=some c->c≠X.env.locals:=λx c e z=>by
 obtain⟨v,o,d,f⟩:=I.cell x c e;obtain⟨m,⟨g,h,i,a,b,_⟩,_⟩:=I.loc;rw[z,a] at d;cases d;rw[b] at f;cases f
theorem Inv.funs (I:Inv X Ab σ H s):s.heap.FunFrames X.base X.outer:=by
 have c:∀(l:List Env),(∀b∈frs l,b∈X.fs)->X.s₀.heap.FunFrames X.base l->s.heap.FunFrames X.base l:=by
  intro l
  induction l with
  |nil=>intro _ _;trivial
  |cons env r ih=>
   intro g k;obtain⟨j,⟨L,o,d,n,h,m⟩,i⟩:=k;have f:L∈X.fs:=g L (by unfold frs;rw[L0,d];exact C5)
   obtain⟨p,e⟩:=I.base.slot L o h (I.ok.frf L f) f λz=>I.ok.exfs L z f;exact⟨j,⟨L,_,d,n,e,m⟩,ih (λb a=>g b (by unfold frs;rw[L0,d];exact A9 _ a)) i⟩
 exact c X.outer (λ_ a=>a) I.ok.funs
theorem Inv.stack (I:Inv X Ab σ H s):s.heap.FunFrames X.base X.stack:=by
 rcases I.ok.stk with e|⟨e,hf⟩
 ·rw[e];exact I.funs
 ·rw[e];obtain⟨m,a,_⟩:=I.loc;refine .cons (by rw[I.ok.kind];decide) hf a ?_ I.funs
  exact Heap.get?_none_of_le (F2 I.ok.bsz I.ok.above)
theorem Inv.stkSub (I:Inv X Ab σ H s):∀b∈frs X.stack,b∈X.env.locals::X.fs:=λb a=>by
 rcases I.ok.stk with e|⟨e,hf⟩
 ·rw[e] at a;exact A9 _ a
 ·rw[e] at a;unfold frs at a;rw[L0,hf] at a;exact a
theorem Inv.stkFree (I:Inv X Ab σ H s):∀b∈frs X.stack,H b=none:=λb hb=>by
 rcases B7.mp (I.stkSub b hb) with e|hb
 ·rw[e];exact I.free
 ·obtain⟨_,o,a,_⟩:=I.ok.funs.mem hb;exact I.base.free b o a (I.ok.frf b hb) λz=>I.ok.exfs b z hb
theorem Inv.step {g':Array B74}{t':Nat}{d':Drawn}{ch:List Addr}(I:Inv X Ab σ H s)
  (g:∀b∈ch,(b∈X.ex\/X.s₀.heap.objs.size<=b)/\b≠X.env.locals/\(∀x c,X.env.cells.lookup x=some c->c≠b)/\∀p∈X.pn++Ab,p.1≠b)
  (keep:∀b o,b≠X.env.locals->b∉X.fs->b∉ch->s.heap.get? b=some o->H b=none->h'.get? b=some o)
  (slot:∀b o,b≠X.env.locals->b∈X.fs->b∉ch->s.heap.get? b=some o->H b=none->∃sl,h'.get? b=some {o with slots:=sl}) (free:∀b o,b∉ch->s.heap.get? b=some o->H b=none->H' b=none)
  (there:∀b o,b∉ch->s.heap.get? b=some o->∃o',h'.get? b=some o')
  (tups:∀b xs,H b=some (.tup xs)->H' b=some (.tup xs)) (frzs:∀b o u,H b=some (.frz o u)->H' b=some (.frz o u)) (tbls:∀b ps,H b=some (.tbl ps)->H' b=some (.tbl ps))
  (ns:∀m,s.heap.Ns X.env.locals m->h'.Ns X.env.locals m) (a2:HOk X.prog X.w H' h') (hg:AllBare g'):
  Inv X Ab σ H' {s with heap:=h',gens:=g',drawn:=d',toks:=t'}:=by
 have a0:∀b o,X.s₀.heap.get? b=some o->b≠X.env.locals:=λb o e=>D1 (E4 (C0 e) I.ok.above);have j:∀b o,X.s₀.heap.get? b=some o->b∉X.ex->b∉ch:=λb o e a y=>by
  rcases(g b y).1 with z|z
  ·exact a z
  ·exact absurd (E4 (C0 e) z) (Q1 _)
 have f:∀x c,X.env.cells.lookup x=some c->∀v,s.heap.IsCell c v->h'.IsCell c v:=λx c e v ⟨o,ho,hd⟩=>by
  have h:c∉ch:=λz=>(g c z).2.2.1 x c e rfl;by_cases hc:c∈X.fs
  ·obtain⟨sl,q⟩:=slot c o (I.cne x c e) hc h ho (I.freeC x c e);exact⟨_,q,hd⟩
  ·exact⟨o,keep c o (I.cne x c e) hc h ho (I.freeC x c e),hd⟩
 refine⟨I.ok,I.os,hg,⟨λb o e n y a=>?_,λb o e n y a=>?_,λb o e n a=>?_,λb o e a=>?_,λb xs e=>tups b xs (I.base.tups b xs e),λb o xs e=>frzs b o xs (I.base.frzs b o xs e),λb ps e=>?_⟩,?_,λx c e=>?_,?_,λx c e=>?_,λp hp=>?_,a2,I.len⟩
 ·exact keep b o (a0 b o e) y (j b o e a) (I.base.keep b o e n y a) (I.base.free b o e n a)
 ·obtain⟨sl,t⟩:=I.base.slot b o e n y a;obtain⟨a1,e2⟩:=slot b _ (a0 b o e) y (j b o e a) t (I.base.free b o e n a);exact⟨a1,e2⟩
 ·obtain⟨o',t⟩:=I.base.there b o e a;exact free b o' (j b o e a) t (I.base.free b o e n a)
 ·obtain⟨o',t⟩:=I.base.there b o e a;exact there b o' (j b o e a) t
 ·exact tbls b ps (I.base.tbls b ps e)
 ·obtain⟨m,hn,hl⟩:=I.loc;refine⟨m,ns m hn,λi x v t e2 e3=>?_⟩;obtain⟨u,r,l⟩:=hl i x v t e2 e3;refine⟨u,r,?_⟩;rcases l with l|⟨k,c,e,z⟩
  ·exact .inl l
  ·exact .inr ⟨k,c,e,f x c e _ z⟩
 ·obtain⟨v,z⟩:=I.cell x c e;exact⟨v,f x c e v z⟩
 ·obtain⟨m,⟨o,_,_,ho,_⟩,_⟩:=I.loc;exact free _ o (λz=>(g _ z).2.1 rfl) ho I.free
 ·obtain⟨v,o,ho,hd⟩:=I.cell x c e;exact free c o (λz=>(g c z).2.2.1 x c e rfl) ho (I.freeC x c e)
 ·obtain⟨e,n,ne,nf,d⟩:=I.pin p hp;have h:p.1∉ch:=λz=>(g p.1 z).2.2.2 p hp rfl;exact⟨keep p.1 p.2 ne nf h e n,free p.1 p.2 h e n,ne,nf,d⟩
theorem Inv.un {t':Nat}(I:Inv X Ab σ H s)(u:Un X.fs [] H H' s.heap h')(g:HOk X.prog X.w H' h'):Inv X Ab σ H' {s with heap:=h',toks:=t'}:=by
 obtain⟨m,⟨o,l,t,h,r⟩,_⟩:=id I.loc;obtain⟨q,k⟩:=u.any h I.free (by simp)
 exact I.step (g':=s.gens) (d':=s.drawn) (ch:=[]) (fun _ z=>nomatch z) (fun b o _ d _ e n=>u.keep b o e n d (by simp)) (fun b o _ d _ e n=>u.slot b o e n d (by simp)) (fun b o _ e n=>u.free b o e n (by simp)) (fun b o _ e=>u.there b o e (by simp)) u.tups u.frzs u.tbls (fun v i=>by
  obtain⟨p,f,c,a,j⟩:=i;rw[h] at a;cases a;exact⟨_,f,c,k,j⟩) g I.bare
theorem Inv.call {g':Array B74}{t':Nat}{d':Drawn}{ch:List Addr}(I:Inv X Ab σ H s)(u:Un (frs X.stack) ch H H' s.heap h')(i:HOk X.prog X.w H' h')(v:AllBare g')
  (f:∀b∈ch,(b∈X.ex\/X.s₀.heap.objs.size<=b)/\b≠X.env.locals/\(∀x c,X.env.cells.lookup x=some c->c≠b)/\∀p∈X.pn++Ab,p.1≠b):
  Inv X Ab σ H' {s with heap:=h',gens:=g',drawn:=d',toks:=t'}:=by
 obtain ⟨m,⟨o,y,ep,k,r⟩,_⟩:=id I.loc;obtain ⟨sl,j⟩:=u.any k I.free fun z=>(f _ z).2.1 rfl;exact I.step (ch:=ch) f (fun b o j q a e n=>u.keep b o e n (fun z=>(B7.mp (I.stkSub b z)).elim j q) a) (fun b o _ _ a e n=>u.any e n a) (fun b o a e n=>u.free b o e n a) (fun b o a e=>u.there b o e a) u.tups u.frzs u.tbls (fun m' l=>by
  obtain⟨o',h,g,d,t⟩:=l;rw[k] at d;cases d;exact⟨_,h,g,j,t⟩) i v
theorem Inv.turned {t':Nat}{a:Addr}(I:Inv X Ab σ H s)(k:∀b o,b≠a->s.heap.get? b=some o->h'.get? b=some o)(hn:H a=none)(g:a≠X.env.locals)
  (j:a∈X.ex\/X.s₀.heap.objs.size<=a) (i:∀x c,X.env.cells.lookup x=some c->c≠a) (y:∀p∈X.pn++Ab,p.1≠a):Inv X Ab σ H {s with heap:=h',toks:=t'}:=by
 have f:∀b u,H b=some u->b≠a:=λb u e z=>by rw[z,hn] at e;cases e
 refine I.step (g':=s.gens) (d':=s.drawn) (ch:=[a]) (λb t=>?_) (λb o _ _ d e _=>k b o (λz=>d (by simp[z])) e) (λb o _ _ d e _=>⟨o.slots,k b o (λz=>d (by simp[z])) e⟩) (λ_ _ _ _ n=>n)
  (λb o d e=>⟨o,k b o (λz=>d (by simp[z])) e⟩) (λ_ _ e=>e) (λ_ _ _ e=>e) (λ_ _ e=>e) (λm l=>?_) (λb u e=>?_) I.bare
 ·have e:b=a:=by simpa using t
  subst e;exact⟨j,g,i,y⟩
 ·obtain⟨o,w,ep,h,r⟩:=l;exact⟨o,w,ep,k _ o (G4 g) h,r⟩
 ·refine(I.hok b u e).stay (λc v d q=>k c v ?_ q) (λ_ q=>q) λ_ _ q=>q;rcases d with z|z
  ·rw[z];exact f b u e
  ·exact f c _ z
theorem Inv.tok (I:Inv X Ab σ H s)(t:Nat):Inv X Ab σ H {s with toks:=t}:=I.un (h':=s.heap) (t':=t) Un.refl I.hok
theorem Inv.kept {t':Nat}(I:Inv X Ab σ H s)(k:∀b u,s.heap.get? b=some u->h'.get? b=some u):Inv X Ab σ H {s with heap:=h',toks:=t'}:=I.un (Un.kept k) (I.hok.kept k)
theorem Inv.laid {a:Addr}{o:HO}{t':Nat}(I:Inv X Ab σ H s)(k:∀b u,s.heap.get? b=some u->h'.get? b=some u)(d:s.heap.objs.size<=a)(c:ObjOk X.prog X.w (Ag H a o) h' a o):
  Inv X Ab σ (Ag H a o) {s with heap:=h',toks:=t'}:=I.un (Un.laid k d (I.hok.fresh d)) (I.hok.laid k d c)
theorem Inv.write {x e:Addr}{o:HO}{t':Nat}(I:Inv X Ab σ H s)(f:Mut (H x))(d:e=x\/H e=some (.own x))(k:∀b u,b≠e->s.heap.get? b=some u->h'.get? b=some u)(a:∃u,h'.get? e=some u)
  (c:ObjOk X.prog X.w (Ag H x o) h' x o):Inv X Ab σ (Ag H x o) {s with heap:=h',toks:=t'}:=I.un (Un.write f d k a) (I.hok.write f d k a c)
theorem Inv.pins_of {a:List (Addr×Obj)}(I:Inv X Ab σ H s)(h:∀p∈a,s.heap.get? p.1=some p.2/\H p.1=none/\p.1≠X.env.locals/\p.1∉X.fs/\∀v,p.2.data≠.cell v):Inv X a σ H s:=
 ⟨I.ok,I.os,I.bare,I.base,I.loc,I.cell,I.free,I.freeC,λp b=>(B4.mp b).elim (λz=>I.pin p (V1 _ z)) (h p),I.hok,I.len⟩
theorem qRN {N:List Str}(c:N.Nodup){i j:Nat}{x:Str}(a:N[i]?=some x)(b:N[j]?=some x):i=j:=by
 obtain⟨g,d⟩:=A3.mp a;obtain⟨f,e⟩:=A3.mp b;exact(List.getElem_inj c).mp (d.trans e.symm)
theorem qN5 {M:Model}{A:Around}{E:Value->Shared->Prop}{i:Nat}{x:Str}{v:V}{u:Value}{Q:Unit->Shared->Prop}(I:Inv X Ab σ H s)(hN:X.N.Nodup)(hi:X.N[i]?=some x)(t:Loc X.env.scope x)(r:RelV v u)
  (h:∀s',Inv X Ab (σ.set i (some v)) H s'->(∃a,Heap.SameBut a s.heap s'.heap/\(a=X.env.locals\/X.env.cells.lookup x=some a))->Q () s') (hf:X.fn x=true\/X.env.scope.names.lookup x=some .local:=by first|exact .inl rfl|exact .inr rfl|assumption):wpAny M A (storeName X.env x u) Q E s:=by
 obtain⟨m,hn,hl⟩:=id I.loc;have a5:(X.env.scope.kind == .class||(X.env.scope.kind == .module&&X.env.locals != X.env.globals))=false:=by rw[I.ok.kind];rfl
 have a2:i<σ.length:=by rw[I.len];exact(A3.mp hi).1
 have cne:=I.cne;have l:∀{a:Addr} {h':Heap},(∃o,s.heap.get? a=some o/\H a=none)->Heap.SameBut a s.heap h'->HOk X.prog X.w H h':=λ{a h'} ha f b ob e=>by
  obtain⟨_,_,a0⟩:=ha;refine(I.hok b ob e).stay (λc w' hc q=>(f.2 c ?_).trans q) (λ_ q=>q) λ_ _ q=>q;rintro rfl;rcases hc with rfl|hc
  ·rw[a0] at e;cases e
  ·rw[a0] at hc;cases hc
 rcases t with hk|hk
 ·refine wpAny_storeName_local hk hn (λh' a9 f=>?_) a5;obtain⟨oL,_,_,a8,_⟩:=id hn;refine h _ ⟨I.ok,I.os,I.bare,⟨λb o e n hb t=>?_,λb o e n hb t=>?_,I.base.free,λb o e t=>?_,I.base.tups,I.base.frzs,I.base.tbls⟩,⟨_,a9,λj y v' g e2 e3=>?_⟩,λy c e=>?_,I.free,I.freeC,λp hp=>?_,l ⟨oL,a8,I.free⟩ f,by simpa using I.len⟩ ⟨_,f,.inl rfl⟩
  ·exact(f.2 b (D1 (E4 (C0 e) I.ok.above))).trans (I.base.keep b o e n hb t)
  ·obtain⟨sl,g⟩:=I.base.slot b o e n hb t;exact⟨sl,(f.2 b (D1 (E4 (C0 e) I.ok.above))).trans g⟩
  ·obtain⟨o',g⟩:=I.base.there b o e t;exact⟨o',(f.2 b (D1 (E4 (C0 e) I.ok.above))).trans g⟩
  ·by_cases hj:j=i
   ·subst hj;rw[hi] at g;cases g;rw[W6 a2] at e2;cases e2;exact⟨u,r,.inl ⟨hk,by simp⟩⟩
   ·rw[X7 (G4 hj)] at e2;obtain⟨u',r',q⟩:=hl j y v' g e2 e3;refine⟨u',r',?_⟩;rcases q with⟨k,e⟩|⟨k,c,e,z⟩
    ·refine .inl ⟨k,?_⟩;have:y≠x:=λe=>hj (qRN hN g (e▸hi));simp[this,e]
    ·exact .inr ⟨k,c,e,z.sameBut f (cne y c e)⟩
  ·obtain⟨w',z⟩:=I.cell y c e;exact⟨w',z.sameBut f (cne y c e)⟩
  ·obtain⟨e,n,ne,nf,d⟩:=I.pin p hp;exact⟨(f.2 p.1 ne).trans e,n,ne,nf,d⟩
 ·have a1:X.fn x=true:=by
   rcases hf with z|z
   ·exact z
   ·rw[z] at hk;cases hk
  obtain⟨c,hc⟩:=I.ok.has x (.inl hk);obtain⟨w',z⟩:=I.cell x c hc;refine wpAny_storeName_cell I.ok.kind hk hc z (λh' a7 f=>?_);obtain⟨oc,a3,a6⟩:=id z;refine h {s with heap:=h'} ⟨I.ok,I.os,I.bare,⟨λb o e n hb t=>?_,λb o e n hb t=>?_,I.base.free,λb o e t=>?_,I.base.tups,I.base.frzs,I.base.tbls⟩,⟨m,hn.sameBut f (G4 (cne x c hc)),λj y v' g e2 e3=>?_⟩,λy c' e=>?_,I.free,I.freeC,λp hp=>?_,l ⟨oc,a3,I.freeC x c hc⟩ f,by simpa using I.len⟩ ⟨c,f,.inr hc⟩
  ·exact(f.2 b (D1 (E4 (C0 e) (I.ok.cab x c a1 hc)))).trans (I.base.keep b o e n hb t)
  ·obtain⟨sl,g⟩:=I.base.slot b o e n hb t;exact⟨sl,(f.2 b (D1 (E4 (C0 e) (I.ok.cab x c a1 hc)))).trans g⟩
  ·obtain⟨o',g⟩:=I.base.there b o e t;exact⟨o',(f.2 b (D1 (E4 (C0 e) (I.ok.cab x c a1 hc)))).trans g⟩
  ·by_cases hj:j=i
   ·subst hj;rw[hi] at g;cases g;rw[W6 a2] at e2;cases e2;exact⟨u,r,.inr ⟨.inl hk,c,hc,a7⟩⟩
   ·rw[X7 (G4 hj)] at e2;obtain⟨u',r',q⟩:=hl j y v' g e2 e3;refine⟨u',r',?_⟩;rcases q with q|⟨k,c',e,z'⟩
    ·exact .inl q
    ·refine .inr ⟨k,c',e,z'.sameBut f ?_⟩;rintro rfl;exact hj (qRN hN g (I.ok.inj _ _ _ e hc▸hi))
  ·by_cases a4:c'=c
   ·subst a4;exact⟨_,a7⟩
   ·obtain⟨w2,z2⟩:=I.cell y c' e;exact⟨w2,z2.sameBut f a4⟩
  ·obtain⟨e,n,ne,nf,d⟩:=I.pin p hp;refine⟨(f.2 p.1 ?_).trans e,n,ne,nf,d⟩;intro q;rw[q,a3] at e;have q':oc=p.2:=D0 e;exact d w' (by rw[<- q'];exact a6)
theorem qIN {M:Model}{A:Around}{E:Value->Shared->Prop}{i:Nat}{x:Str}{v:V}{u:Value}{Q:Unit->Shared->Prop}(I:Inv X Ab σ H s)(a:X.N.Nodup)(hi:X.N[i]?=some x)(b:Loc X.env.scope x)(r:RelV v u)
  (h:∀s',Inv X Ab (σ.set i (some v)) H s'->Q () s') (c:X.fn x=true\/X.env.scope.names.lookup x=some .local:=by first|exact .inl rfl|exact .inr rfl|assumption):wpAny M A (storeName X.env x u) Q E s:=
 qN5 I a hi b r (λs' d _=>h s' d) c
theorem Inv.call' {a:Shared}{ch:List Addr}(I:Inv X Ab σ H s)(g:a.os=s.os)(u:Un (frs X.stack) ch H H' s.heap a.heap)(d:HOk X.prog X.w H' a.heap)(i:AllBare a.gens)
  (f:∀b∈ch,(b∈X.ex\/X.s₀.heap.objs.size<=b)/\b≠X.env.locals/\(∀x c,X.env.cells.lookup x=some c->c≠b)/\∀p∈X.pn++Ab,p.1≠b):Inv X Ab σ H' a:=by
 obtain⟨j,g',d',t',h⟩:=a;have e:h=s.os:=g;subst e;exact I.call (g':=g') (t':=t') (d':=d') u d i f
end
abbrev XK:=Value->Option Addr->Hp->Prop
abbrev St:=List (Option V)
abbrev VK:=V->Hp->Prop
abbrev TE:=St->Hp->VK->Prop
abbrev TT:=St->Hp->(Bool->Hp->Prop)->Prop
abbrev TA:=St->Hp->(List V->Hp->Prop)->Prop
structure Ends where
 nx:St->Hp->Prop
 rt:VK
 bk:St->Hp->Prop:=λ_ _=>False
 ct:St->Hp->Prop:=λ_ _=>False
abbrev TS:=Ends->St->Hp->Prop
def EP (X:Cx)(Ab:List (Addr×Obj))(σ:St)(Q:VK)(u:Value)(s':Shared):Prop:=∃v H',Inv X Ab σ H' s'/\RelV v u/\Q v H'
def TP (X:Cx)(Ab:List (Addr×Obj))(σ:St)(Q:Bool->Hp->Prop)(b:Bool)(s':Shared):Prop:=∃H',Inv X Ab σ H' s'/\Q b H'
def AP (X:Cx)(Ab:List (Addr×Obj))(σ:St)(Q:List V->Hp->Prop)(us:List Value)(s':Shared):Prop:=∃vs H',Inv X Ab σ H' s'/\Vals vs us/\Q vs H'
def SP (X:Cx)(Ab:List (Addr×Obj))(D:Ends)(f:Flow)(s':Shared):Prop:=
 match f with
 |.next=>∃σ' H',Inv X Ab σ' H' s'/\D.nx σ' H'
 |.brk=>∃σ' H',Inv X Ab σ' H' s'/\D.bk σ' H'
 |.cont=>∃σ' H',Inv X Ab σ' H' s'/\D.ct σ' H'
 |.ret u=>∃v σ' H',Inv X Ab σ' H' s'/\RelV v u/\D.rt v H'
def PE (X:Cx)(e:Expr)(t:TE):Prop:=
 ∀(Ab:List (Addr×Obj)) (s:Shared) (σ:St) (H:Hp) (Q:VK),Inv X Ab σ H s->t σ H Q->wpAny (model X.prog X.w) X.A (eval e X.env) (EP X Ab σ Q) X.xe s
def PT (X:Cx)(e:Expr)(t:TT):Prop:=
 ∀(Ab:List (Addr×Obj)) (s:Shared) (σ:St) (H:Hp) (Q:Bool->Hp->Prop),Inv X Ab σ H s->t σ H Q->wpAny (model X.prog X.w) X.A (isTrue e X.env (eval e X.env)) (TP X Ab σ Q) X.xe s
def PW (X:Cx)(e:Expr)(t:TT):Prop:=
 ∀(whole:Sem Value) (Ab:List (Addr×Obj)) (s:Shared) (σ:St) (H:Hp) (Q:Bool->Hp->Prop),Inv X Ab σ H s->t σ H Q->wpAny (model X.prog X.w) X.A (isTrue e X.env whole) (TP X Ab σ Q) X.xe s
theorem PW.pt {X:Cx}{e:Expr}{t:TT}(h:PW X e t):PT X e t:=h _
def PA (X:Cx)(es:List Expr)(t:TA):Prop:=
 ∀(pos:Pos) (Ab:List (Addr×Obj)) (s:Shared) (σ:St) (H:Hp) (Q:List V->Hp->Prop),Inv X Ab σ H s->t σ H Q->wpAny (model X.prog X.w) X.A (spliced (backTo pos (B17 es X.env))) (AP X Ab σ Q) X.xe s
def PS (X:Cx)(st:Stmt)(t:TS):Prop:=
 ∀(Ab:List (Addr×Obj)) (s:Shared) (σ:St) (H:Hp) (D:Ends),Inv X Ab σ H s->t D σ H->wpAny (model X.prog X.w) X.A (exec st X.env) (SP X Ab D) X.xe s
def PSs (X:Cx)(st:List Stmt)(t:TS):Prop:=
 ∀(Ab:List (Addr×Obj)) (s:Shared) (σ:St) (H:Hp) (D:Ends),Inv X Ab σ H s->t D σ H->wpAny (model X.prog X.w) X.A (execs st X.env) (SP X Ab D) X.xe s
theorem thn {α:Type}{t:Sem α}{Q Q':α->Shared->Prop}{M:Model}{A:Around}{E:Value->Shared->Prop}{s:Shared}(h:wpAny M A t Q E s)(b:∀a s,Q a s->Q' a s):wpAny M A t Q' E s:=B23 h b λ_ _ x=>x
section
variable{X:Cx}
theorem bin {a b:Expr}{c d:TE}(g:PE X a c)(e:PE X b d){Ab:List (Addr×Obj)}{s:Shared}{σ:St}{H:Hp}{R:V->V->Hp->Prop}(I:Inv X Ab σ H s)(h:c σ H λx H1=>d σ H1 λy H2=>R x y H2)
  {α:Type} {Q:α->Shared->Prop} {f:Value->Value->Sem α}
  (i:∀v u s2 x y H2,Inv X Ab σ H2 s2->RelV x v->RelV y u->R x y H2->wpAny (model X.prog X.w) X.A (f v u) Q X.xe s2):
  wpAny (model X.prog X.w) X.A (eval a X.env) (λv s₁=>wpAny (model X.prog X.w) X.A (eval b X.env) (λu s₂=>wpAny (model X.prog X.w) X.A (f v u) Q X.xe s₂) X.xe s₁) X.xe s:=by
 refine thn (g Ab s σ H _ I h) λv s1 ⟨x,H1,I1,r1,q1⟩=>?_;refine thn (e Ab s1 σ H1 _ I1 q1) λu s2 ⟨y,H2,I2,r2,q2⟩=>?_;exact i v u s2 x y H2 I2 r1 r2 q2
def tVar (i:Nat):TE:=λσ H Q=>∃v,σ[i]?=some (some v)/\Q v H
def tC (v:V):TE:=λ_ H Q=>Q v H
theorem qdT {i:Nat} {x:Str} {pos:Pos} (g:X.N[i]?=some x) (p:Vis X.env.scope x) (d:(x==("__debug__" : Str))=false:=by decide) (hcd:(x==("__classdict__" : Str))=false:=by decide):PE X (.Name x pos) (tVar i):=by
 intro j s σ H Q I h;obtain⟨v,e,h⟩:=h;obtain⟨m,o,n⟩:=I.loc;obtain⟨u,r,l⟩:=n i x v g e p;have b:EP X j σ Q u s:=⟨v,H,I,r,h⟩;rcases l with⟨hk,k⟩|⟨hk,c,f,a⟩
 ·exact wpAny_Name (wpAny_loadName_local I.ok.kind hk o k b) d
 ·rcases hk with hk|hk
  ·exact wpAny_Name (wpAny_loadName_cell I.ok.kind hk f a b) d
  ·exact wpAny_Name (wpAny_loadName_free I.ok.kind hk f a b hcd) d
theorem qA7 {i j pos}:PE X (.Constant (.int i) j pos) (tC (.int i)):=λ_ _ _ H _ I h=>wpAny_Constant_int ⟨.int i,H,I.tok _,⟨_,rfl⟩,h⟩
theorem qEX {b j pos}:PE X (.Constant (.bool b) j pos) (tC (.bl b)):=λ_ _ _ H _ I h=>Constant_bool ⟨.bl b,H,I,rfl,h⟩
theorem qGR {j pos}:PE X (.Constant .none j pos) (tC .non):=λ_ _ _ H _ I h=>Constant_none ⟨.non,H,I,rfl,h⟩
theorem qBO {x j pos}:PE X (.Constant (.str x) j pos) (tC (.str x)):=λ_ _ _ H _ I h=>Calls.Constant_str ⟨.str x,H,I.tok _,⟨_,rfl⟩,h⟩
def Gl (X:Cx)(x:Str):Prop:=X.env.kindOf x=some .globalImplicit
theorem qVL {E:Value->Shared->Prop}{Ab:List (Addr×Obj)}{s:Shared}{σ:St}{H:Hp}{x:Str}{u:Value}{pos:Pos}{Q:Value->Shared->Prop}(I:Inv X Ab σ H s)(a:Gl X x)(b:X.mg x=some u)(h:Q u s)
  (c:(x==("__debug__" : Str))=false:=by decide):wpAny (model X.prog X.w) X.A (eval (.Name x pos) X.env) Q E s:=
 Calls.Name_function_global I.ok.kind a (Calls.loadGlobal_global (by rw[I.ok.glob];exact I.mod.glob.keeps I.bk) b h) c
theorem qG6 {E:Value->Shared->Prop}{Ab:List (Addr×Obj)}{s:Shared}{σ:St}{H:Hp}{x:Str}{u:Value}{pos:Pos}{Q:Value->Shared->Prop}(I:Inv X Ab σ H s)(g:Gl X x)(c:X.mg x=none)(f:B18 x=some u)(h:Q u s)
  (e:x ≠ "__name__":=by decide) (d:(x==("__debug__" : Str))=false:=by decide):wpAny (model X.prog X.w) X.A (eval (.Name x pos) X.env) Q E s:=by
 obtain⟨i,b,a⟩:=I.mod.blt;exact Calls.Name_function_global I.ok.kind g (Calls.loadGlobal_builtin (by rw[I.ok.glob];exact I.mod.glob.keeps I.bk) c (by rw[I.ok.blt];exact b.keeps I.bk) ((a x e).trans f) h) d
theorem qE5 {x:Str} {v:V} {u:Value} {pos:Pos} (e:Gl X x) (a:X.mg x=none) (d:B18 x=some u) (r:RelV v u) (c:x ≠ "__name__":=by decide) (b:(x==("__debug__" : Str))=false:=by decide):PE X (.Name x pos) (tC v):=
 λ_ _ _ H _ I h=>qG6 I e a d ⟨v,H,I,r,h⟩ c b
variable{a b:Expr}{ta tb:TE}{pos:Pos}
def PC (X:Cx)(op:CmpOp)(a b:Expr)(t:TE):Prop:=
 ∀(Ab:List (Addr×Obj)) (s:Shared) (σ:St) (H:Hp) (Q:VK),Inv X Ab σ H s->t σ H Q->
  wpAny (model X.prog X.w) X.A (eval a X.env) (λv s₁=>wpAny (model X.prog X.w) X.A (eval b X.env) (λu s₂=>wpAny (model X.prog X.w) X.A (B28 op v u) (EP X Ab σ Q) X.xe s₂) X.xe s₁) X.xe s
theorem qRO (b:Expr){op:CmpOp}(h:op≠.In)(d:op≠.NotIn):B49 op b=false:=by
 have a:(op==CmpOp.In)=false:=by cases op<;>first|rfl|exact absurd rfl h
 have c:(op==CmpOp.NotIn)=false:=by cases op<;>first|rfl|exact absurd rfl d
 cases b<;>simp[B49,a,c]
def tIsN (ta:TE):TE:=λσ H Q=>ta σ H λx H1=>Q (.bl (decide (x=.non))) H1
def qf1 (ta:TE):TE:=λσ H Q=>ta σ H λx H1=>Q (.bl (!decide (x=.non))) H1
theorem RelV.none_iff {x:V}{v:Value}(r:RelV x v):(v==P5)=decide (x=.non):=by
 cases x with
 |non=>cases r;rfl
 |bl _=>cases r;rfl
 |int _=>obtain⟨t,rfl⟩:=r;rfl
 |str _=>obtain⟨t,rfl⟩:=r;rfl
 |byt _=>obtain⟨t,rfl⟩:=r;rfl
 |flt _=>obtain⟨t,rfl⟩:=r;rfl
 |ref _=>cases r;rfl
 |ty _=>cases r;rfl
theorem qNJ {j pos'}(b:PE X a ta):PC X .Is a (.Constant .none j pos') (tIsN ta):=by
 intro c s σ H Q I h;refine thn (b c s σ H _ I h) λv s1 ⟨x,H1,I1,r1,q1⟩=>?_;exact Constant_none (is_none_gen ⟨.bl _,H1,I1,by rw[r1.none_iff];rfl,q1⟩)
theorem qMB {j pos'}(b:PE X a ta):PC X .IsNot a (.Constant .none j pos') (qf1 ta):=by
 intro c s σ H Q I h;refine thn (b c s σ H _ I h) λv s1 ⟨x,H1,I1,r1,q1⟩=>?_;exact Constant_none (isnot_none_gen ⟨.bl _,H1,I1,by rw[r1.none_iff];rfl,q1⟩)
def tB (t:TE):TT:=λσ H Q=>t σ H λx H1=>∃c,x=.bl c/\Q c H1
theorem qaE {op:CmpOp}{t:TE}(h:PC X op a b t)(d:B49 op b=false:=by first|exact qRO _ (by decide) (by decide)|rfl):PE X (.Compare a [op] [b] pos) t:=λc s σ H Q I e=>wpAny_Compare1 (h c s σ H Q I e) d
theorem qDY {op:CmpOp}{t:TE}(h:PC X op a b t)(e:B49 op b=false:=by first|exact qRO _ (by decide) (by decide)|rfl):PT X (.Compare a [op] [b] pos) (tB t):=by
 intro g s σ H Q I i;refine wpAny_isTrue_Compare1 (thn (h g s σ H _ I i) λv j e=>thn e λu k f=>thn f λc s3 ⟨x,H1,I1,r1,q1⟩=>?_) e;obtain⟨d,rfl,q⟩:=q1;cases r1;exact B29 ⟨H1,I1,q⟩
theorem qD6 {e:Expr}{t:TE}(h:PE X e t)(a:∀whole,isTrue e X.env whole=(do let v <- whole;standAt e.pos;B46 [v] (truthy v)):=by intro _;rfl):PT X e (tB t):=by
 intro b s σ H Q I c;refine isTrue_plain (thn (h b s σ H _ I c) λv s1 ⟨x,H1,I1,r1,q1⟩=>?_) (a _);obtain⟨d,rfl,q⟩:=q1;cases r1;exact B29 ⟨H1,I1,q⟩
variable{tA tB':TT}{rest:List Expr}
def tAnd (t u:TT):TT:=λσ H Q=>t σ H λc H1=>if c=true then u σ H1 Q else Q false H1
def tOr (t u:TT):TT:=λσ H Q=>t σ H λc H1=>if c=true then Q true H1 else u σ H1 Q
def tNot (t:TT):TT:=λσ H Q=>t σ H λc H1=>Q (!c) H1
theorem qbH (b:PT X a tA):PW X (.BoolOp .And [a] pos) tA:=by
 intro g d s σ H Q I h;refine isTrue_and (thn (b d s σ H Q I h) λc f e=>?_);cases c with
 |true=>exact isTrue_and_nil e
 |false=>exact e
theorem qKY (b:PT X a tA):PW X (.BoolOp .Or [a] pos) tA:=by
 intro g d s σ H Q I h;refine isTrue_or (thn (b d s σ H Q I h) λc f e=>?_);cases c with
 |false=>exact isTrue_or_nil e
 |true=>exact e
theorem qdM (e:PT X a tA)(g:PW X (.BoolOp .And (b::rest) pos) tB'):PW X (.BoolOp .And (a::b::rest) pos) (tAnd tA tB'):=by
 intro f d s σ H Q I h;refine isTrue_and (thn (e d s σ H _ I h) λc s1 ⟨H1,I1,q1⟩=>?_);cases c with
 |true=>exact g f d s1 σ H1 Q I1 q1
 |false=>exact⟨H1,I1,q1⟩
theorem qM5 (e:PT X a tA)(g:PW X (.BoolOp .Or (b::rest) pos) tB'):PW X (.BoolOp .Or (a::b::rest) pos) (tOr tA tB'):=by
 intro f d s σ H Q I h;refine isTrue_or (thn (e d s σ H _ I h) λc s1 ⟨H1,I1,q1⟩=>?_);cases c with
 |true=>exact⟨H1,I1,q1⟩
 |false=>exact g f d s1 σ H1 Q I1 q1
theorem qG3 (b:PT X a tA):PT X (.UnaryOp .Not a pos) (tNot tA):=by
 intro e s σ H Q I h;exact isTrue_not (b e s σ H (λc d=>Q (!c) d) I h)
def qf9 (ta tb:TE):TE:=λσ H Q=>ta σ H λx H1=>∃c,x=.bl c/\if c=true then tb σ H1 Q else Q (.bl false) H1
def qf0 (ta:TE):TE:=λσ H Q=>ta σ H λx H1=>∃c,x=.bl c/\Q (.bl (!c)) H1
theorem qNI {op}{t:TE}(h:PE X a t):PE X (.BoolOp op [a] pos) t:=λb s σ H Q I c=>BoolOp_one (h b s σ H Q I c)
theorem qI8 (e:PE X a ta)(f:PE X (.BoolOp .And (b::rest) pos) tb):PE X (.BoolOp .And (a::b::rest) pos) (qf9 ta tb):=by
 intro d s σ H Q I h;refine BoolOp_and (thn (e d s σ H _ I h) λv s1 ⟨x,H1,I1,r1,q1⟩=>?_);obtain⟨c,rfl,q1⟩:=q1;cases r1;refine B29 ?_;cases c with
 |true=>exact f d s1 σ H1 Q I1 q1
 |false=>exact⟨.bl false,H1,I1,rfl,q1⟩
theorem qaB (b:PE X a ta):PE X (.UnaryOp .Not a pos) (qf0 ta):=by
 intro d s σ H Q I h;refine UnaryOp_ (thn (b d s σ H _ I h) λv s1 ⟨x,H1,I1,r1,q1⟩=>?_);obtain⟨c,rfl,q1⟩:=q1;cases r1;exact not_of (B29 ⟨.bl (!c),H1,I1,rfl,q1⟩)
def tIf (t:TT)(ta tb:TE):TE:=λσ H Q=>t σ H λc H1=>if c=true then ta σ H1 Q else tb σ H1 Q
theorem qGS {c:Expr}(g:PT X c tA)(f:PE X a ta)(i:PE X b tb):PE X (.IfExp c a b pos) (tIf tA ta tb):=by
 intro e s σ H Q I h;refine wpAny_IfExp (thn (g e s σ H _ I h) λd s1 ⟨H1,I1,q1⟩=>?_);cases d with
 |true=>exact f e s1 σ H1 Q I1 q1
 |false=>exact i e s1 σ H1 Q I1 q1
end
def SqL (K:PySem.W.Frag)(H:Hp)(a:Addr)(xs:List V):Prop:=
 Rd H a (.lst xs)\/
  ∃(o:Obj) (its:Array Value) (n:Nat),K.lookup a=some o/\o.cls=.type "list"/\o.dict=none/\o.data=.seq its n/\its.size<=B14/\Vals xs its.toList
def SqT (K:PySem.W.Frag)(H:Hp)(a:Addr)(xs:List V):Prop:=
 Rd H a (.tup xs)\/
  ∃(o:Obj) (its:Array Value) (n:Nat),K.lookup a=some o/\o.cls=.type "tuple"/\o.data=.seq its n/\its.size<=B14/\Vals xs its.toList
noncomputable def absV:Value->Option V
 |.none=>some .non
 |.bool b=>some (.bl b)
 |.int i _=>some (.int i)
 |.str x _=>some (.str x)
 |.bytes b _=>some (.byt b)
 |.float b _=>some (.flt b)
 |.ref a=>some (.ref a)
 |.type n=>some (.ty n)
 |_=>none
theorem RelV.abs {x:V}{u:Value}(r:RelV x u):absV u=some x:=by
 cases x with
 |non=>cases r;rfl
 |bl _=>cases r;rfl
 |int _=>obtain⟨t,rfl⟩:=r;rfl
 |str _=>obtain⟨t,rfl⟩:=r;rfl
 |byt _=>obtain⟨t,rfl⟩:=r;rfl
 |flt _=>obtain⟨t,rfl⟩:=r;rfl
 |ref _=>cases r;rfl
 |ty _=>cases r;rfl
theorem RelV.inj {x y:V}{u:Value}(r:RelV x u)(q:RelV y u):x=y:=D0 (r.abs.symm.trans q.abs)
theorem Vals.inj:∀{xs ys:List V} {us:List Value},Vals xs us->Vals ys us->xs=ys
 |_,_,_,.nil,.nil=>rfl
 |_,_,_,.cons r t,.cons r' t'=>by rw[r.inj r',Vals.inj t t']
section
variable{X:Cx}{Ab:List (Addr×Obj)}{σ:St}{H:Hp}{s:Shared}{a:Addr}{xs ys:List V}
theorem SqL.of {K:PySem.W.Frag}(h:H a=some (.lst xs)):SqL K H a xs:=.inl (.inl h)
theorem SqT.of {K:PySem.W.Frag}(h:H a=some (.tup xs)):SqT K H a xs:=.inl (.inl h)
theorem Inv.list (I:Inv X Ab σ H s)(h:SqL X.K H a xs):∃its:List Value,Vals xs its/\PlainL s.heap a its.toArray/\xs.length<=B14:=by
 rcases h with h|⟨o,its,n,hk,hc,hd,hs,hz,r⟩
 ·obtain⟨z,its,n,r,e⟩:=h.ok I.hok;exact⟨its,r,⟨_,n,e,rfl,rfl,rfl⟩,z⟩
 ·refine⟨its.toList,r,⟨o,n,I.kIn a o hk,hc,hd,by simpa using hs⟩,?_⟩
  have e:=r.length;simp only[E5] at e
  lia
theorem Inv.tuple (I:Inv X Ab σ H s)(h:SqT X.K H a xs):∃its:List Value,Vals xs its/\IsTup s.heap a its.toArray/\xs.length<=B14:=by
 rcases h with h|⟨o,its,n,hk,hc,hs,hz,r⟩
 ·obtain⟨z,its,r,p⟩:=h.ok I.hok;exact⟨its,r,p,z⟩
 ·refine⟨its.toList,r,⟨o,I.kIn a o hk,hc,n,by simpa using hs⟩,?_⟩
  have e:=r.length;simp only[E5] at e
  lia
theorem Inv.list_inj (I:Inv X Ab σ H s)(h:SqL X.K H a xs)(h':SqL X.K H a ys):xs=ys:=by
 obtain⟨c,r,⟨o,n,e,_,_,d⟩,_⟩:=I.list h;obtain⟨b,i,⟨k,j,g,_,_,f⟩,_⟩:=I.list h';rw[e] at g;cases g;rw[d] at f
 injection f with d1 _
 have:c=b:=by simpa using congrArg B04 d1
 subst this;exact r.inj i
theorem Inv.tuple_inj (I:Inv X Ab σ H s)(h:SqT X.K H a xs)(h':SqT X.K H a ys):xs=ys:=by
 obtain⟨c,r,⟨o,e,_,n,d⟩,_⟩:=I.tuple h;obtain⟨b,i,⟨k,g,_,j,f⟩,_⟩:=I.tuple h';rw[e] at g;cases g;rw[d] at f
 injection f with d1 _
 have:c=b:=by simpa using congrArg B04 d1
 subst this;exact r.inj i
end
noncomputable abbrev Cx.wish (X:Cx)(E:Value->Shared->Prop):Cx:={X with xe:=E}
noncomputable abbrev Cx.nox (X:Cx):Cx:=X.wish λ_ _=>False
theorem Cx.Ok.wish {X:Cx}(a:X.Ok)(E:Value->Shared->Prop):(X.wish E).Ok:=
 ⟨a.mod,a.kind,a.glob,a.blt,a.above,a.inj,a.has,a.cab,a.hd,a.frames,a.stk,a.exf,a.bs,a.bsz,a.noex,a.exfs,a.funs,a.frf⟩
theorem Cx.Ok.unwish {X:Cx}{E:Value->Shared->Prop}(a:(X.wish E).Ok):X.Ok:=
 ⟨a.mod,a.kind,a.glob,a.blt,a.above,a.inj,a.has,a.cab,a.hd,a.frames,a.stk,a.exf,a.bs,a.bsz,a.noex,a.exfs,a.funs,a.frf⟩
section
variable{X:Cx}{Ab:List (Addr×Obj)}{σ:St}{H:Hp}{s:Shared}{E:Value->Shared->Prop}
theorem Inv.wish (I:Inv X Ab σ H s)(E:Value->Shared->Prop):Inv (X.wish E) Ab σ H s:=⟨I.ok.wish E,I.os,I.bare,I.base,I.loc,I.cell,I.free,I.freeC,I.pin,I.hok,I.len⟩
theorem Inv.unwish (I:Inv (X.wish E) Ab σ H s):Inv X Ab σ H s:=⟨I.ok.unwish,I.os,I.bare,I.base,I.loc,I.cell,I.free,I.freeC,I.pin,I.hok,I.len⟩
theorem SP.unwish {D:Ends}{f:Flow}{b:Shared}(h:SP (X.wish E) Ab D f b):SP X Ab D f b:=by
 cases f with
 |next=>obtain⟨σ',a,I,q⟩:=h;exact⟨σ',a,I.unwish,q⟩
 |brk=>obtain⟨σ',a,I,q⟩:=h;exact⟨σ',a,I.unwish,q⟩
 |cont=>obtain⟨σ',a,I,q⟩:=h;exact⟨σ',a,I.unwish,q⟩
 |ret u=>obtain⟨v,σ',a,I,r,q⟩:=h;exact⟨v,σ',a,I.unwish,r,q⟩
theorem PSs.nox {st:List Stmt}{t:TS}(h:PSs X.nox st t):PSs X st t:=λa s σ H D I b=>
 B23 (h a s σ H D (I.wish _) b) (λ_ _ q=>q.unwish) λ_ _ z=>R1 z
end
section
variable{X:Cx}{st:Stmt}{rest:List Stmt}{t u:TS}{e:Expr}{te:TE}{pos:Pos}
def qf2:TS:=λD σ H=>D.nx σ H
def tSeq (t u:TS):TS:=λD σ H=>t {D with nx:=u D} σ H
theorem qAL:PSs X [] qf2:=λ_ _ σ H _ I h=>B57 ⟨σ,H,I,h⟩
theorem qA4 (c:PS X st t)(b:PSs X rest u):PSs X (st::rest) (tSeq t u):=by
 intro a s σ H D I h;refine wpAny_execs_cons (thn (c a s σ H {D with nx:=u D} I h) λf g q=>?_);cases f with
 |next=>
  obtain⟨σ',e,d,q⟩:=q;exact b a g σ' e D d q
 |ret v=>exact q
 |brk=>exact q
 |cont=>exact q
theorem qA5 (b:PS X st t):PSs X [st] t:=by
 intro a s σ H D I h;refine wpAny_execs_cons (thn (b a s σ H D I h) λf c q=>?_);cases f with
 |next=>exact B57 q
 |ret v=>exact q
 |brk=>exact q
 |cont=>exact q
theorem Inv.quiet {Ab:List (Addr×Obj)}{σ:St}{H:Hp}{s:Shared}(I:Inv X Ab σ H s):interactive X.env=false:=by simp[interactive,I.ok.kind]
def qf5 (te:TE):TS:=λD σ H=>te σ H λ_ H1=>D.nx σ H1
theorem qD1 (a:PE X e te)(c:swapsWith e none pos.line X.env=pure false:=by rfl):PS X (.Expr e pos) (qf5 te):=by
 intro b s σ H D I h;exact wpAny_Expr_any (thn (a b s σ H _ I h) λv s1 ⟨x,H1,I1,r1,q1⟩=>⟨σ,H1,I1,q1⟩) I.quiet c
def tRet (te:TE):TS:=λD σ H=>te σ H D.rt
theorem qAG (a:PE X e te):PS X (.Return (some e) pos) (tRet te):=by
 intro b s σ H D I h;exact wpAny_Return_some (thn (a b s σ H _ I h) λv s1 ⟨x,H1,I1,r1,q1⟩=>⟨x,σ,H1,I1,r1,q1⟩)
def tIfS (c:TT)(t u:TS):TS:=λD σ H=>c σ H λb H1=>if b=true then t D σ H1 else u D σ H1
theorem qBP {c:Expr}{a b:List Stmt}{f:TT}(j:PT X c f)(i:PSs X a t)(g:PSs X b u):PS X (.If c a b pos) (tIfS f t u):=by
 intro e s σ H D I h;refine wpAny_If (thn (j e s σ H _ I h) λd s1 ⟨H1,I1,q1⟩=>?_);cases d with
 |true=>exact i e s1 σ H1 D I1 q1
 |false=>exact g e s1 σ H1 D I1 q1
def qd4:TS:=λ_ _ _=>False
theorem qJE {a:List Stmt}:PSs X a qd4:=λ_ _ _ _ _ _ h=>h.elim
end
abbrev TG:=V->St->Hp->(St->Hp->Prop)->Prop
abbrev TGs:=List V->St->Hp->(St->Hp->Prop)->Prop
def PG (X:Cx)(target:Expr)(t:TG):Prop:=
 ∀(Ab:List (Addr×Obj)) (s:Shared) (σ:St) (H:Hp) (v:V) (u:Value) (Q:St->Hp->Prop),Inv X Ab σ H s->RelV v u->t v σ H Q->
  wpAny (model X.prog X.w) X.A (assign target X.env u) (λ_ s'=>∃σ' H',Inv X Ab σ' H' s'/\Q σ' H') X.xe s
def PGs (X:Cx)(ts:List Expr)(t:TGs):Prop:=
 ∀(Ab:List (Addr×Obj)) (s:Shared) (σ:St) (H:Hp) (vs:List V) (us:List Value) (Q:St->Hp->Prop),Inv X Ab σ H s->Vals vs us->t vs σ H Q->
  wpAny (model X.prog X.w) X.A (assignInOrder ((B65 ts X.env).map (·.2)) us) (λ_ s'=>∃σ' H',Inv X Ab σ' H' s'/\Q σ' H') X.xe s
abbrev TSet:=V->V->V->Hp->(Hp->Prop)->Prop
def PSet (X:Cx)(t:TSet):Prop:=
 ∀(Ab:List (Addr×Obj)) (s:Shared) (σ:St) (H:Hp) (o i v:V) (ov iv u:Value) (Q:Hp->Prop),Inv X Ab σ H s->RelV o ov->RelV i iv->RelV v u->t o i v H Q->
  wpAny (model X.prog X.w) X.A (setItem ov iv u) (λ_ s'=>∃H',Inv X Ab σ H' s'/\Q H') X.xe s
abbrev TIp:=V->V->Hp->VK->Prop
def PIp (X:Cx)(op:Operator)(t:TIp):Prop:=
 ∀(Ab:List (Addr×Obj)) (s:Shared) (σ:St) (H:Hp) (x y:V) (v u:Value) (Q:VK),Inv X Ab σ H s->RelV x v->RelV y u->t x y H Q->
  wpAny (model X.prog X.w) X.A (inplaceOp op v u) (EP X Ab σ Q) X.xe s
section
variable{X:Cx}{pos:Pos}
def qZH (i:Nat):TG:=λv σ H Q=>Q (σ.set i (some v)) H
theorem qAN {i:Nat}{x:Str}(a:X.N.Nodup)(hi:X.N[i]?=some x)(b:Loc X.env.scope x)(d:X.fn x=true\/X.env.scope.names.lookup x=some .local:=by first|exact .inl rfl|exact .inr rfl|assumption):PG X (.Name x pos) (qZH i):=by
 intro f s σ H v u Q I r h;exact wpAny_assign_Name (qIN I a hi b r (λe c=>⟨_,H,c,h⟩) d)
def gNil:TGs:=λvs σ H Q=>vs=[]/\Q σ H
def qg4 (t:TG)(u:TGs):TGs:=λvs σ H Q=>∃v r,vs=v::r/\t v σ H λσ' H'=>u r σ' H' Q
theorem qD2:PGs X [] gNil:=by
 intro a s σ H b c Q I r h;obtain⟨e,h⟩:=h;subst e;cases r;exact assignInOrder_nil ⟨σ,H,I,h⟩
theorem qAV {e:Expr}{es:List Expr}{t:TG}{u:TGs}(c:PG X e t)(d:PGs X es u)
  (f:(B65 (e::es) X.env).map (·.2)=assign e X.env::(B65 es X.env).map (·.2):=by rfl):PGs X (e::es) (qg4 t u):=by
 intro a s σ H i j Q I r h;obtain⟨v,g,b,h⟩:=h;subst b;cases r with
 |cons r rr=>
  rw[f];refine assignInOrder_cons (thn (c a s σ H _ _ _ I r h) λ_ s1 ⟨σ1,H1,I1,q1⟩=>?_);exact d a s1 σ1 H1 _ _ Q I1 rr q1
def gTup (K:PySem.W.Frag)(n:Nat)(t:TGs):TG:=λv σ H Q=>∃a xs,v=.ref a/\SqT K H a xs/\xs.length=n/\t xs σ H Q
theorem qG4 {es:List Expr}{k:Nat}{t:TGs}{n:Nat}(z:X.calm=true)(h:PGs X es t)
  (y:(B65 es X.env).length=n:=by rfl) (d:(B65 es X.env).findIdx? (·.1)=none:=by rfl):PG X (.Tuple es k pos) (gTup X.K n t):=by
 intro f s σ H v u Q I r c;obtain⟨a,w,i,m,p,c⟩:=c;subst i;cases r;obtain⟨a0,g,x,hz⟩:=I.tuple m;refine assign_Tuple_tuple (I.ok.hd z) x (by simp[y,<- p,g.length]) d λj l=>?_
 have q:Inv X f σ H {s with heap:=j}:=I.kept (t':=s.toks) λb o e=>l b o (D1 (C0 e)) e;exact h f _ σ H w _ Q q (by simpa using g) c
def gSub (to ti:TE)(t:TSet):TG:=λv σ H Q=>to σ H λo H1=>ti σ H1 λi H2=>t o i v H2 λH3=>Q σ H3
theorem qUM {o i:Expr}{c b:TE}{t:TSet}(d:PE X o c)(hi:PE X i b)(f:PSet X t)
  (e:∀ v,assign (.Subscript o i pos) X.env v=(do
   let ov <- B46 [v] (eval o X.env)
   let iv <- B46 [v,ov] (eval i X.env)
   standAt pos
   B46 [v,ov,iv] (setItem ov iv v)
   release [v,ov,iv] []):=by intro _;rfl):PG X (.Subscript o i pos) (gSub c b t):=by
 intro a s σ H v u Q I r h;rw[e];refine B12 (B20 (thn (d a s σ H _ I h) λov s1 ⟨x,H1,I1,r1,q1⟩=>?_));refine B12 (B20 (thn (hi a s1 σ H1 _ I1 q1) λiv s2 ⟨y,H2,I2,r2,q2⟩=>?_));refine B12 (B69 (B12 (B20 (thn (f a s2 σ H2 x y v ov iv u _ I2 r1 r2 r q2) λ_ s3 ⟨H3,I3,q3⟩=>?_))));exact wpAny_release ⟨σ,H3,I3,q3⟩
def tAsg (te:TE)(g:TG):TS:=λD σ H=>te σ H λx H1=>g x σ H1 D.nx
theorem qI7 {a e:Expr}{c:TE}{g:TG}(d:PE X e c)(k:PG X a g)(j:swapsWithSole [a] e pos.line X.env=pure false:=by rfl)(i:swappedStores [a] e X.env=pure none:=by rfl)
  (f:(B65 [a] X.env).map (·.2)=[assign a X.env]:=by rfl):PS X (.Assign [a] e pos) (tAsg c g):=by
 intro b s σ H D I h;refine wpAny_Assign_stores (thn (d b s σ H _ I h) λv s1 ⟨x,H1,I1,r1,q1⟩=>?_) j i;rw[f];exact thn (k b s1 σ H1 x v _ I1 r1 q1) λ_ l q=>q
theorem qAE {i:Nat}{x:Str}{e:Expr}{b:TE}{a:Pos}(c:X.N.Nodup)(hi:X.N[i]?=some x)(f:Loc X.env.scope x)(d:PE X e b)(k:swapsWith e (some (.Name x a)) pos.line X.env=pure false:=by rfl)(l:X.fn x=true\/X.env.scope.names.lookup x=some .local:=by first|exact .inl rfl|exact .inr rfl|assumption):
  PS X (.Assign [.Name x a] e pos) (tAsg b (qZH i)):=by
 intro g s σ H D I h;refine wpAny_Assign_Name (thn (d g s σ H _ I h) λv s1 ⟨y,H1,I1,r1,q1⟩=>?_) k;exact qIN I1 c hi f r1 (λm j=>⟨_,H1,j,q1⟩) l
def tAug (i:Nat)(te:TE)(ti:TIp):TS:=λD σ H=>∃x,σ[i]?=some (some x)/\te σ H λy H1=>ti x y H1 λz H2=>D.nx (σ.set i (some z)) H2
theorem qdO {i:Nat}{x:Str}{e:Expr}{n:TE}{op:Operator}{o:TIp}{b:Pos}(hN:X.N.Nodup)(hi:X.N[i]?=some x)(g:Loc X.env.scope x)(p:PE X e n)(t:PIp X op o)(hf:X.fn x=true\/X.env.scope.names.lookup x=some .local:=by first|exact .inl rfl|exact .inr rfl|assumption):
  PS X (.AugAssign (.Name x b) op e pos) (tAug i n o):=by
 intro d s σ H D I h;obtain⟨v,q,h⟩:=h;obtain⟨m,hn,hl⟩:=I.loc;have f:Vis X.env.scope x:=by rcases g with k|k;exact .inl k;exact .inr (.inl k)
 obtain⟨u,r,l⟩:=hl i x v hi q f;refine wpAny_AugAssign_Name ?_;have j:wpAny (model X.prog X.w) X.A (eval e X.env) (λw s₂=>wpAny (model X.prog X.w) X.A (inplaceOp op u w) (λr s₃=>wpAny (model X.prog X.w) X.A (storeName X.env x r) (λ_=>SP X d D .next) X.xe s₃) X.xe s₂) X.xe s:=by
  refine thn (p d s σ H _ I h) λw s1 ⟨y,H1,I1,r1,q1⟩=>?_;refine thn (t d s1 σ H1 v y u w _ I1 r r1 q1) λz s2 ⟨zv,H2,I2,r2,q2⟩=>?_;exact qIN I2 hN hi g r2 (λs3 I3=>⟨_,H2,I3,q2⟩) hf
 rcases l with⟨hk,hm⟩|⟨hk,c,hc,a⟩
 ·exact wpAny_loadName_local I.ok.kind hk hn hm j
 ·rcases hk with hk|hk
  ·exact wpAny_loadName_cell I.ok.kind hk hc a j
  ·rcases g with k|k
   ·have:X.env.scope.names.lookup x=some .free:=hk;rw[k] at this;cases this
   ·have:X.env.scope.names.lookup x=some .free:=hk;rw[k] at this;cases this
def qf8 (to ti te:TE)(tget:V->V->Hp->VK->Prop)(tip:TIp)(tset:TSet):TS:=λD σ H=>to σ H λo H1=>ti σ H1 λi H2=>tget o i H2 λx H3=>te σ H3 λy H4=>tip x y H4 λz H5=>tset o i z H5 λH6=>D.nx σ H6
def PGet (X:Cx)(t:V->V->Hp->VK->Prop):Prop:=
 ∀(Ab:List (Addr×Obj)) (s:Shared) (σ:St) (H:Hp) (o i:V) (ov iv:Value) (Q:VK),Inv X Ab σ H s->RelV o ov->RelV i iv->t o i H Q->
  wpAny (model X.prog X.w) X.A (getItem ov iv) (EP X Ab σ Q) X.xe s
theorem qbL {o i e:Expr}{j k g:TE}{b:V->V->Hp->VK->Prop}{d:TIp}{a:TSet}{op:Operator}{f:Pos}(m:PE X o j)(hi:PE X i k)(r:PGet X b)(l:PE X e g)(p:PIp X op d)(q:PSet X a)
  (n:∀ov iv new,augStore i ov iv new=(do B46 [new,ov,iv] (setItem ov iv new);release [new,ov,iv] [];pure .next):=by intros;rfl):PS X (.AugAssign (.Subscript o i f) op e pos) (qf8 j k g b d a):=by
 intro c s σ H D I h;refine wpAny_AugAssign_SubscriptAny (thn (m c s σ H _ I h) λov s1 ⟨x1,H1,I1,r1,q1⟩=>?_) n;refine thn (hi c s1 σ H1 _ I1 q1) λiv s2 ⟨x2,H2,I2,r2,q2⟩=>?_;refine thn (r c s2 σ H2 x1 x2 ov iv _ I2 r1 r2 q2) λold s3 ⟨x3,H3,I3,r3,q3⟩=>?_;refine thn (l c s3 σ H3 _ I3 q3) λv s4 ⟨x4,H4,I4,r4,q4⟩=>?_;refine thn (p c s4 σ H4 x3 x4 old v _ I4 r3 r4 q4) λnew s5 ⟨x5,H5,I5,r5,q5⟩=>?_;exact thn (q c s5 σ H5 x1 x2 x5 ov iv new _ I5 r1 r2 r5 q5) λ_ s6 ⟨H6,I6,q6⟩=>⟨σ,H6,I6,q6⟩
def ipI (f:Int->Int->Int):TIp:=λx y H Q=>∃i j,x=.int i/\y=.int j/\Q (.int (f i j)) H
theorem qaN:PIp X .Add (ipI λi j=>i+j):=by
 intro f s σ H x y v u Q I d c h;obtain⟨i,j,a,b,q⟩:=h;subst a;subst b;obtain⟨t,rfl⟩:=d;obtain⟨e,rfl⟩:=c;exact iadd_int ⟨.int _,H,I.tok _,⟨_,rfl⟩,q⟩
def qd1 (c:TT)(tb:TS):TS:=λD σ H=>∃W:Nat->St->Hp->Prop,(∃m,W m σ H)/\∀m σ H,W m σ H->
 c σ H λb H1=>if b=true then∃N:St->Hp->Prop,(∀σ' H',N σ' H'->∃m',m'<m/\W m' σ' H')/\tb {D with nx:=N,ct:=N,bk:=D.nx} σ H1 else D.nx σ H1
theorem qFS {c:Expr}{body:List Stmt}{o:TT}{r:TS}(q:PassesOwn (model X.prog X.w) X.A X.env X.xe)(y:PT X c o)(t:PSs X body r):PS X (.While c body [] pos) (qd1 o r):=by
 intro j s σ H D I h;obtain⟨W,⟨x,u⟩,d⟩:=h;refine wpAny_While (codeAny_whileLoop (λn z=>∃σ' H',Inv X j σ' H' z/\W n σ' H') ?_ x ⟨σ,H,I,u⟩);rintro n s1 ⟨σ1,H1,I1,w1⟩;refine B48 q (thn (y j s1 σ1 H1 _ I1 (d n σ1 H1 w1)) λb s2 ⟨H2,I2,q2⟩=>?_);cases b with
 |true=>
  obtain⟨N,p,q2⟩:=q2;rw[if_pos rfl];refine B48 q (thn (t j s2 σ1 H2 _ I2 q2) λf s3 e=>?_);cases f with
  |next=>
   obtain⟨σ3,a,l,i⟩:=e;obtain⟨g,k,m⟩:=p σ3 a i;exact⟨g,k,σ3,a,l,m⟩
  |cont=>
   obtain⟨σ3,a,l,i⟩:=e;obtain⟨g,k,m⟩:=p σ3 a i;exact⟨g,k,σ3,a,l,m⟩
  |brk=>exact e
  |ret v=>exact e
 |false=>
  rw[if_neg C2];exact B57 ⟨σ1,H2,I2,q2⟩
end
structure It where
 go:Nat->Hp->Prop
 yld:Nat->Hp->V->Hp->Prop
 stop:Nat->Hp->Prop
def FpOk (X:Cx)(Ab:List (Addr×Obj))(H:Hp)(b:Addr):Prop:=
 H b=none/\b≠X.env.locals/\b∉X.fs/\(b∈X.ex\/X.s₀.heap.objs.size<=b)/\(∀x c,X.env.cells.lookup x=some c->c≠b)/\∀p∈X.pn++Ab,p.1≠b
theorem Inv.fpOk {X:Cx}{Ab:List (Addr×Obj)}{σ:St}{H H':Hp}{s:Shared}{b:Addr}(I:Inv X Ab σ H s)(a:s.heap.objs.size<=b)(f:H' b=none):FpOk X Ab H' b:=by
 refine⟨f,R7 (E4 I.lt a),I.nofs a,.inr (F2 I.sz a),λx c e z=>?_,λp d z=>?_⟩
 ·obtain⟨v,q⟩:=I.cell x c e;exact absurd (E4 q.lt (by rw[z];exact a)) (Q1 _)
 ·exact absurd (E4 (C0 (I.pin p d).1) (by rw[z];exact a)) (Q1 _)
structure Turn (P:B15)(w:World)(K:PySem.W.Frag)(tg:Expr)(J:It)(fp:List Addr)(it:Addr)(tn:Nat->Heap->Prop):Prop where
 mem:it∈fp
 obj:∀i h,tn i h->∀b∈fp,∃o,h.get? b=some o/\∀v,o.data≠.cell v
 keep:∀i h h',tn i h->(∀b∈fp,∀o,h.get? b=some o->h'.get? b=some o)->tn i h'
 item:∀(X:Cx),X.prog=P->X.w=w->X.K=K->X.calm=true->∀(i:Nat) (Ab:List (Addr×Obj)) (s:Shared) (σ:St) (H:Hp) (E:Value->Shared->Prop),Inv X Ab σ H s->(∀b∈fp,FpOk X Ab H b)->tn i s.heap->J.go i H->
  wpAny (model P w) X.A (pyNext (.ref it)) (fun r s1=>∃ u,r=some u/\
   wpAny (model P w) X.A (B89 tg (.ref it) u) (λ_ s2=>∃x H',Inv X Ab σ H' s2/\RelV x u/\J.yld i H x H'/\tn (i+1) s2.heap/\∀b∈fp,H' b=none) E s1) E s
 done:∀(X:Cx),X.prog=P->X.w=w->X.K=K->X.calm=true->∀(i:Nat) (Ab:List (Addr×Obj)) (s:Shared) (σ:St) (H:Hp) (E:Value->Shared->Prop),Inv X Ab σ H s->(∀b∈fp,FpOk X Ab H b)->tn i s.heap->J.stop i H->
  wpAny (model P w) X.A (pyNext (.ref it)) (λr s1=>r=none/\Inv X Ab σ H s1) E s
 self:∀(A:Around) (i:Nat) (s:Shared) (Q:Value->Shared->Prop) (E:Value->Shared->Prop),tn i s.heap->Q (.ref it) s->wpAny (model P w) A (pyIter (.ref it)) Q E s
abbrev TI:=St->Hp->(It->Hp->Prop)->Prop
def PIE (X:Cx)(Ab:List (Addr×Obj))(σ:St)(tg:Expr)(R:It->Hp->Prop)(itv:Value)(s2:Shared):Prop:=
 ∃(it:Addr) (fp:List Addr) (tn:Nat->Heap->Prop) (J:It) (H':Hp),itv=.ref it/\Inv X Ab σ H' s2/\Turn X.prog X.w X.K tg J fp it tn/\tn 0 s2.heap/\(∀b∈fp,FpOk X Ab H' b)/\R J H'
def PI (X:Cx)(tg iter:Expr)(wi:TI):Prop:=
 ∀(Ab:List (Addr×Obj)) (s:Shared) (σ:St) (H:Hp) (R:It->Hp->Prop),Inv X Ab σ H s->wi σ H R->
  wpAny (model X.prog X.w) X.A (eval iter X.env) (λv s1=>wpAny (model X.prog X.w) X.A (pyIter v) (PIE X Ab σ tg R) X.xe s1) X.xe s
theorem qTA {M:Model}{A:Around}{E:Value->Shared->Prop}{s:Shared}{c:Expr}{b:Addr}{u:Value}{o:Obj}{n:String}{vs:Array Value}{Q:Unit->Shared->Prop}(d:s.heap.get? b=some o)(g:o.cls=.type n)(e:o.data=.fields vs)
  (f:["enumerate","zip","dict_itemiterator","dict_reverseitemiterator","odict_iterator","itertools.zip_longest","itertools.pairwise"].contains n=false) (a:Q () s):wpAny M A (B89 c (.ref b) u) Q E s:=by
 unfold B89;cases c<;>first
  |exact B13 a
  | (cases u <;> first
    |exact B13 a
    | (refine B12 (wpAny_load d ?_)
       rw[g,e];show wpAny M A (if(["enumerate","zip","dict_itemiterator","dict_reverseitemiterator","odict_iterator","itertools.zip_longest","itertools.pairwise"].contains n&&vs[0]? == some (rawInt _))=true then _ else _) Q E s
       rw[if_neg (by intro h;rw[f,m9] at h;cases h)]
       exact B13 a))
def Itl (K:PySem.W.Frag)(a:Addr):It:=
 ⟨λi H=>∃xs x,SqL K H a xs/\xs[i]?=some x,λi H x H'=>H'=H/\∀xs,SqL K H a xs->xs[i]?=some x,λi H=>∃xs,SqL K H a xs/\xs.length<=i⟩
def Itt (K:PySem.W.Frag)(a:Addr):It:=
 ⟨λi H=>∃xs x,SqT K H a xs/\xs[i]?=some x,λi H x H'=>H'=H/\∀xs,SqT K H a xs->xs[i]?=some x,λi H=>∃xs,SqT K H a xs/\xs.length<=i⟩
def Itr (lo:Int)(n:Nat):It:=⟨λi _=>i<n,λi H x H'=>H'=H/\x=.int (lo+i),λi _=>n<=i⟩
theorem qN2 {P:B15}{w:World}{K:PySem.W.Frag}{tg:Expr}(a j:Addr):Turn P w K tg (Itl K a) [j] j (λi h=>h.IsListIter j a i) where
 mem:=by simp
 obj:=λi h f b g=>by
  have e:b=j:=by simpa using g
  subst e;obtain⟨o,e,c,d⟩:=f;exact⟨o,e,λv z=>by rw[d] at z;cases z⟩
 keep:=λi h m f k=>f.at λo e=>k j (by simp) o e
 item:=by
  intro X hP hw hK hc i Ab s σ H E I n f hg;subst hP hw hK;obtain⟨xs,x,q,hx⟩:=hg;obtain⟨t,rv,p,hz⟩:=I.list q;obtain⟨u,hu,ru⟩:=rv.get hx;obtain⟨f0,y,f2,f3,r,f5⟩:=n j (by simp)
  refine B81 f p.isList (x:=u) (by simpa using hu) λm l sb=>?_
  have I1:Inv X Ab σ H {s with heap:=m}:=I.turned (t':=s.toks) (λb o g e=>(sb.2 b g).trans e) f0 y f3 r f5;obtain⟨o,e,c,d⟩:=id l;exact⟨u,rfl,qTA (s:={s with heap:=m}) e c d (by decide) ⟨x,H,I1,ru,⟨rfl,λys hy=>by rw[I.list_inj hy q];exact hx⟩,l,λb g=>(n b g).1⟩⟩
 done:=by
  intro X hP hw hK hc i Ab s σ H E I n f hg;subst hP hw hK;obtain⟨xs,q,hx⟩:=hg;obtain⟨t,rv,p,hz⟩:=I.list q;obtain⟨f0,y,f2,f3,r,f5⟩:=n j (by simp)
  have hl:=rv.length;exact B86 (I.ok.hd hc) f p.isList (by simp;lia) λm eb=>⟨rfl,I.turned (t':=s.toks) (λb o g e=>eb b o g e) f0 y f3 r f5⟩
 self:=λ_ _ _ _ _ f h=>wpAny_pyIter_listiter f h
theorem qKS {P:B15}{w:World}{K:PySem.W.Frag}{tg:Expr}(a l:Addr):Turn P w K tg (Itt K a) [l] l (λi h=>h.IsTupleIter l a i) where
 mem:=by simp
 obj:=λi h f b g=>by
  have e:b=l:=by simpa using g
  subst e;obtain⟨o,e,c,d⟩:=f;exact⟨o,e,λv z=>by rw[d] at z;cases z⟩
 keep:=λi h n f k=>f.at λo e=>k l (by simp) o e
 item:=by
  intro X hP hw hK hc i Ab s σ H E I q f hg;subst hP hw hK;obtain⟨xs,x,r,hx⟩:=hg;obtain⟨j,rv,p,hz⟩:=I.tuple r;obtain⟨u,hu,ru⟩:=rv.get hx;obtain⟨f0,y,f2,f3,t,f5⟩:=q l (by simp)
  refine wpAny_pyNext_tuple_item f (show s.heap.IsTuple a j.toArray from p) (x:=u) (by simpa using hu) λn m sb=>?_
  have I1:Inv X Ab σ H {s with heap:=n}:=I.turned (t':=s.toks) (λb o g e=>(sb.2 b g).trans e) f0 y f3 t f5;obtain⟨o,e,c,d⟩:=id m;exact⟨u,rfl,qTA (s:={s with heap:=n}) e c d (by decide) ⟨x,H,I1,ru,⟨rfl,λys hy=>by rw[I.tuple_inj hy r];exact hx⟩,m,λb g=>(q b g).1⟩⟩
 done:=by
  intro X hP hw hK hc i Ab s σ H E I q f hg;subst hP hw hK;obtain⟨xs,r,hx⟩:=hg;obtain⟨j,rv,p,hz⟩:=I.tuple r;obtain⟨f0,y,f2,f3,t,f5⟩:=q l (by simp)
  have hl:=rv.length;exact wpAny_pyNext_tuple_end (I.ok.hd hc) f (show s.heap.IsTuple a j.toArray from p) (by simp;lia) λn eb=>⟨rfl,I.turned (t':=s.toks) (λb o g e=>eb b o g e) f0 y f3 t f5⟩
 self:=λ_ _ _ _ _ f h=>wpAny_pyIter_tupleiter f h
theorem qSI {P:B15}{w:World}{K:PySem.W.Frag}{tg:Expr}(c:Addr)(lo:Int)(n:Nat):Turn P w K tg (Itr lo n) [c] c (λi h=>IsRangeIter h c (lo+(i:Nat)*1) ((n:Int)-(i:Nat)) 1) where
 mem:=by simp
 obj:=λi h a b d=>by
  have e:b=c:=by simpa using d
  subst e;exact⟨_,a,λv z=>by
   have z':A29 _=A71 v:=z;cases z'⟩
 keep:=λi h g a k=>k c (by simp) _ a
 item:=by
  intro X x p hK r i Ab s σ H E I j a q;subst x p hK;obtain⟨f0,m,f2,y,l,u⟩:=j c (by simp)
  have W:=Walks.range (prog:=X.prog) (w:=X.w) (I.ok.hd r) c lo 1 n;refine W.item i s _ _ q a λv g tk hv f kk=>?_;obtain⟨t,rfl⟩:=hv;have I1:Inv X Ab σ H {s with heap:=g,toks:=tk}:=I.turned (λb o d e=>kk b o (by simpa using d) e) f0 m y l u
  refine⟨_,rfl,qTA (s:={s with heap:=g,toks:=tk}) (n:="range_iterator") f rfl rfl (by decide) ⟨.int (lo+i),H,I1,⟨t,?_⟩,⟨rfl,rfl⟩,f,λb d=>(j b d).1⟩⟩
  rw[Int.mul_one]
 done:=by
  intro X x p hK r i Ab s σ H E I j a q;subst x p hK;obtain⟨f0,m,f2,y,l,u⟩:=j c (by simp)
  exact wpAny_pyNext_range_end (I.ok.hd r) a (by have:n<=i:=q;lia) λg eb=>⟨rfl,I.turned (t':=s.toks) (λb o d e=>eb b o d e) f0 m y l u⟩
 self:=λ_ _ _ _ _ a h=>wpAny_pyIter_rangeiter a h
section
variable{X:Cx}{tg:Expr}
def qg2 (K:PySem.W.Frag)(tl:TE):TI:=λσ H R=>tl σ H λx H1=>∃a,x=.ref a/\(∃xs,SqL K H1 a xs)/\R (Itl K a) H1
def iTup (K:PySem.W.Frag)(tl:TE):TI:=λσ H R=>tl σ H λx H1=>∃a,x=.ref a/\(∃xs,SqT K H1 a xs)/\R (Itt K a) H1
theorem qBW {l:Expr}{c:TE}(i:PE X l c):PI X tg l (qg2 X.K c):=by
 intro d s σ H R I h;refine thn (i d s σ H _ I h) λv s1 ⟨x,H1,I1,r1,q1⟩=>?_;obtain⟨a,e,⟨m,g⟩,q⟩:=q1;subst e;cases r1;obtain⟨j,k,p,n⟩:=I1.list g;refine B34 p.isList ?_;refine⟨s1.heap.objs.size,[s1.heap.objs.size],_,_,H1,rfl,I1.kept (t':=s1.toks) λb o e=>A6 _ e,qN2 a _,⟨_,B5 _ rfl,rfl,rfl⟩,λb f=>?_,q⟩;have e:b=s1.heap.objs.size:=by simpa using f
 subst e;exact I1.fpOk (A7 _) (I1.hok.fresh (A7 _))
theorem qCJ {l:Expr}{d:TE}(j:PE X l d):PI X tg l (iTup X.K d):=by
 intro f s σ H R I h;refine thn (j f s σ H _ I h) λv s1 ⟨x,H1,I1,r1,q1⟩=>?_;obtain⟨a,e,⟨m,i⟩,q⟩:=q1;subst e;cases r1;obtain⟨c,k,p,n⟩:=I1.tuple i;refine wpAny_pyIter_tuple (show s1.heap.IsTuple a c.toArray from p) ?_;refine⟨s1.heap.objs.size,[s1.heap.objs.size],_,_,H1,rfl,I1.kept (t':=s1.toks) λb o e=>A6 _ e,qKS a _,⟨_,B5 _ rfl,rfl,rfl⟩,λb g=>?_,q⟩;have e:b=s1.heap.objs.size:=by simpa using g
 subst e;exact I1.fpOk (A7 _) (I1.hok.fresh (A7 _))
theorem range_it {Ab:List (Addr×Obj)}{σ:St}{H:Hp}{s:Shared}{R:It->Hp->Prop}{E:Value->Shared->Prop}{lo hi:Int}{t u v:Tok}{tk:Nat}(I:Inv X Ab σ H s)(f : -(2^62)<=lo)(c:lo<2^62)(i : -(2^62)<=hi)(j:hi<2^62)
  (q:R (Itr lo (hi-lo).toNat) H):wpAny (model X.prog X.w) X.A (pyIter (.ref s.heap.objs.size)) (PIE X Ab σ tg R) E {s with heap:=s.heap.push {cls:=.type "range",data:=.fields #[.int lo t,.int hi u,.int 1 v]},toks:=tk}:=by
 refine wpAny_pyIter_range (B09 ..) (small_one f c i j) ?_;have a:Inv X Ab σ H {s with heap:=s.heap.push {cls:=.type "range",data:=.fields #[.int lo t,.int hi u,.int 1 v]},toks:=tk}:=I.kept λb o e=>A6 _ e;refine⟨(s.heap.push {cls:=.type "range",data:=.fields #[.int lo t,.int hi u,.int 1 v]}).objs.size,[(s.heap.push {cls:=.type "range",data:=.fields #[.int lo t,.int hi u,.int 1 v]}).objs.size],_,_,H,rfl,
  a.kept (t':=tk) λb o e=>A6 _ e,qSI _ lo (hi-lo).toNat,?_,λb g=>?_,q⟩
 ·have d:lo+((0:Nat):Int)*1=lo:=by simp
  have h:(((hi-lo).toNat:Nat):Int)-((0:Nat):Int)=R5 lo hi 1:=by rw[rangeSize_one];split<;>lia
  show IsRangeIter _ _ (lo+((0:Nat):Int)*1) ((((hi-lo).toNat:Nat):Int)-((0:Nat):Int)) 1;rw[d,h];exact B5 _ rfl
 ·have e:b=(s.heap.push {cls:=.type "range",data:=.fields #[.int lo t,.int hi u,.int 1 v]}).objs.size:=by simpa using g
  subst e;exact a.fpOk (A7 _) (a.hok.fresh (A7 _))
def qg1 (ta:TA):TI:=λσ H R=>ta σ H λvs H1=>∃j:Int,vs=[.int j]/\-(2^62)<=j/\j<2^62/\R (Itr 0 j.toNat) H1
theorem qBH {a:Expr} {b:TA} {p pos:Pos} (k:Gl X "range") (d:X.mg "range" = none) (g:PA X [a] b) (i:B17 [a] X.env=[(false,eval a X.env)]:=by rfl):PI X tg (.Call (.Name "range" p) [a] [] pos) (qg1 b):=by
 intro c s σ H R I h;refine Call_ (qG6 I k d boot_range (P3 (thn (g pos c s σ H _ I h) λus s1 ⟨vs,H1,I1,r1,q1⟩=>?_) i rfl));obtain⟨j,e,q1,f,q⟩:=q1;subst e;cases r1 with
 |cons r rr=>
  cases rr;obtain⟨t,rfl⟩:=r;exact call_range_1 (range_it I1 (by lia) (by lia) q1 f (by simpa using q))
def tFor (wi:TI)(g:TG)(tb:TS):TS:=λD σ H=>wi σ H λJ H1=>∃W:Nat->Nat->St->Hp->Prop,(∃m,W 0 m σ H1)/\∀i m σ H,W i m σ H->
 (J.stop i H/\D.nx σ H)\/(J.go i H/\∃N:St->Hp->Prop,(∀σ' H',N σ' H'->∃m',m'<m/\W (i+1) m' σ' H')/\∀x H',J.yld i H x H'->g x σ H' λσ2 H2=>tb {D with nx:=N,ct:=N,bk:=D.nx} σ2 H2)
noncomputable def qNH (fp:List Addr)(h:Heap):List (Addr×Obj):=fp.filterMap λb=>(h.get? b).map λo=>(b,o)
theorem qFU {a:List Addr}{h:Heap}{b:Addr}{o:Obj}(c:b∈a)(e:h.get? b=some o):(b,o)∈qNH a h:=M9.mpr ⟨b,c,by rw[e];rfl⟩
theorem qV6 {a:List Addr}{h:Heap}{p:Addr×Obj}(d:p∈qNH a h):p.1∈a/\h.get? p.1=some p.2:=by
 obtain⟨b,f,e⟩:=M9.mp d;cases q:h.get? b with
 |none=>rw[q] at e;cases e
 |some o=>
  rw[q] at e;have c:(b,o)=p:=D0 e;subst c;exact⟨f,q⟩
theorem Inv.pinned {Ab:List (Addr×Obj)}{σ:St}{H:Hp}{s:Shared}{a:List Addr}(I:Inv X Ab σ H s)(l:∀b∈a,FpOk X Ab H b)(g:∀b∈a,∃o,s.heap.get? b=some o/\∀v,o.data≠.cell v):Inv X (Ab++qNH a s.heap) σ H s:=
 I.pins_of λp h=>(B4.mp h).elim (λz=>I.pin p (F9 _ z)) λz=>by
  obtain⟨c,e⟩:=qV6 z;obtain⟨i,k,j,_⟩:=l p.1 c;obtain⟨o,f,d⟩:=g p.1 c;rw[e] at f;cases f;exact⟨e,i,k,j,d⟩
theorem Inv.unpinned {Ab a:List (Addr×Obj)}{σ:St}{H:Hp}{s:Shared}(I:Inv X (Ab++a) σ H s):Inv X Ab σ H s:=I.pins_of λp b=>I.pin p (F9 _ (V1 _ b))
theorem qBU {k:Expr}{body:List Stmt}{wi:TI}{g:TG}{tb:TS}{pos:Pos}(hp:PassesOwn (model X.prog X.w) X.A X.env X.xe)(hc:X.calm=true)(hi:PI X tg k wi)(hg:PG X tg g)(a:PSs X body tb)
  (hs:∀x,B79 k X.env x=pure x:=by intro _;rfl):PS X (.For tg k body [] pos) (tFor wi g tb):=by
 intro q s σ H D I h;refine wpAny_For (thn (hi q s σ H _ I h) λv s1 h1=>thn h1 λa3 s2 h2=>?_) hs;obtain⟨it,fp,tn,J,H2,e,I2,T,a2,f2,W,⟨m0,w0⟩,y⟩:=h2;subst e
 -- what stays true of the iterator's objects through the loop
 have l:∀{H':Hp},(∀b∈fp,H' b=none)->∀b∈fp,FpOk X q H' b:=λhn b a=>⟨hn b a,(f2 b a).2⟩;refine codeAny_forLoop_any (λn s'=>∃i σ' H',Inv X q σ' H' s'/\tn i s'.heap/\(∀b∈fp,H' b=none)/\W i n σ' H') ?_ m0 ⟨0,σ,H2,I2,a2,λb a=>(f2 b a).1,w0⟩;rintro n s3 ⟨i,σ3,H3,I3,st3,fr3,w3⟩;rcases y i n σ3 H3 w3 with⟨a0,qn⟩|⟨go,N,hN,z⟩
 ·refine B48 hp (thn (T.done X rfl rfl rfl hc i q s3 σ3 H3 X.xe I3 (l fr3) st3 a0) λr s4 ⟨hr,I4⟩=>?_);subst hr;exact B57 ⟨σ3,H3,I4,qn⟩
 ·refine B48 hp (thn (T.item X rfl rfl rfl hc i q s3 σ3 H3 X.xe I3 (l fr3) st3 go) λr s4 ⟨u,hr,h4⟩=>?_);subst hr;refine B48 hp (thn h4 λ_ s5 ⟨x,H5,I5,r5,y5,st5,fr5⟩=>?_);have a1:=I5.pinned (l fr5) (T.obj _ _ st5);refine B48 hp (thn (hg _ s5 σ3 H5 x u _ a1 r5 (z x H5 y5)) λ_ s6 ⟨σ6,H6,I6,q6⟩=>?_);refine B48 hp (thn (a _ s6 σ6 H6 _ I6 q6) λf s7 p=>?_);have c:∀{σ7:St} {H7:Hp},Inv X (q++qNH fp s5.heap) σ7 H7 s7->N σ7 H7->∃m,m<n/\∃i σ' H',Inv X q σ' H' s7/\tn i s7.heap/\(∀b∈fp,H' b=none)/\W i m σ' H':=λ{σ7 H7} j t=>by
   obtain⟨m',hm,w7⟩:=hN σ7 H7 t;refine⟨m',hm,i+1,σ7,H7,j.unpinned,T.keep _ _ _ st5 λb a o e=>(j.pin (b,o) (F9 _ (F9 _ (qFU a e)))).1,λb a=>?_,w7⟩;obtain⟨o,e,d⟩:=T.obj _ _ st5 b a;exact(j.pin (b,o) (F9 _ (F9 _ (qFU a e)))).2.1
  cases f with
  |next=>obtain⟨σ7,H7,j,t⟩:=p;exact c j t
  |cont=>obtain⟨σ7,H7,j,t⟩:=p;exact c j t
  |brk=>obtain⟨σ7,H7,j,p⟩:=p;exact⟨σ7,H7,j.unpinned,p⟩
  |ret v=>obtain⟨x7,σ7,H7,j,r7,p⟩:=p;exact⟨x7,σ7,H7,j.unpinned,r7,p⟩
end
abbrev ForG (I:It)(g:TG)(tb:TS)(D:Ends)(σ:St)(H:Hp):Prop:=∃W:Nat->Nat->St->Hp->Prop,(∃m,W 0 m σ H)/\∀i m σ H,W i m σ H->(I.stop i H/\D.nx σ H)\/(I.go i H/\∃N:St->Hp->Prop,(∀σ' H',N σ' H'->∃m',m'<m/\W (i+1) m' σ' H')/\∀x H',I.yld i H x H'->g x σ H' λσ2 H2=>tb {D with nx:=N,ct:=N,bk:=D.nx} σ2 H2)
theorem qFW {K:PySem.W.Frag}{a:Addr}{xs:List V}{g:TG}{c:TS}{D:Ends}{σ:St}{H:Hp}(Pv:Nat->St->Hp->Prop)(j:Pv 0 σ H)(f:∀i σ H,i<=xs.length->Pv i σ H->SqL K H a xs)
  (k:∀i x σ H,xs[i]?=some x->Pv i σ H->g x σ H λσ2 H2=>c {D with nx:=Pv (i+1),ct:=Pv (i+1),bk:=D.nx} σ2 H2) (h:∀σ H,Pv xs.length σ H->D.nx σ H):
  ForG (Itl K a) g c D σ H:=by
 refine⟨λi m σ H=>m=xs.length-i/\i<=xs.length/\Pv i σ H,⟨xs.length,by simp,D9 _,j⟩,?_⟩
 rintro i m σ H ⟨rfl,hi,p⟩;have q:=f i σ H hi p;by_cases b:i<xs.length
 ·refine .inr ⟨⟨xs,xs[i],q,by simp[b]⟩,Pv (i+1),λσ' d l=>⟨xs.length-(i+1),by lia,rfl,b,l⟩,λx d y=>?_⟩
  obtain⟨e,y⟩:=y;subst e;exact k i x σ _ (y xs q) p
 ·have e:i=xs.length:=by lia
  subst e;exact .inl ⟨⟨xs,q,A7 _⟩,h σ H p⟩
theorem qHS {K:PySem.W.Frag}{a:Addr}{xs:List V}{g:TG}{c:TS}{D:Ends}{σ:St}{H:Hp}(Pv:Nat->St->Hp->Prop)(j:Pv 0 σ H)(f:∀i σ H,i<=xs.length->Pv i σ H->SqT K H a xs)
  (k:∀i x σ H,xs[i]?=some x->Pv i σ H->g x σ H λσ2 H2=>c {D with nx:=Pv (i+1),ct:=Pv (i+1),bk:=D.nx} σ2 H2) (h:∀σ H,Pv xs.length σ H->D.nx σ H):
  ForG (Itt K a) g c D σ H:=by
 refine⟨λi m σ H=>m=xs.length-i/\i<=xs.length/\Pv i σ H,⟨xs.length,by simp,D9 _,j⟩,?_⟩
 rintro i m σ H ⟨rfl,hi,p⟩;have q:=f i σ H hi p;by_cases b:i<xs.length
 ·refine .inr ⟨⟨xs,xs[i],q,by simp[b]⟩,Pv (i+1),λσ' d l=>⟨xs.length-(i+1),by lia,rfl,b,l⟩,λx d y=>?_⟩
  obtain⟨e,y⟩:=y;subst e;exact k i x σ _ (y xs q) p
 ·have e:i=xs.length:=by lia
  subst e;exact .inl ⟨⟨xs,q,A7 _⟩,h σ H p⟩
theorem qFB {lo:Int}{n:Nat}{g:TG}{b:TS}{D:Ends}{σ:St}{H:Hp}(Pv:Nat->St->Hp->Prop)(f:Pv 0 σ H)
  (h:∀i σ H,i<n->Pv i σ H->g (.int (lo+i)) σ H λσ2 H2=>b {D with nx:=Pv (i+1),ct:=Pv (i+1),bk:=D.nx} σ2 H2) (d:∀σ H,Pv n σ H->D.nx σ H):
  ForG (Itr lo n) g b D σ H:=by
 refine⟨λi m σ H=>m=n-i/\i<=n/\Pv i σ H,⟨n,by simp,D9 _,f⟩,?_⟩
 rintro i m σ H ⟨rfl,hi,p⟩;by_cases a:i<n
 ·refine .inr ⟨a,Pv (i+1),λσ' c j=>⟨n-(i+1),by lia,rfl,a,j⟩,λx c y=>?_⟩
  obtain⟨e,y⟩:=y;subst e y;exact h i σ _ a p
 ·have e:i=n:=by lia
  subst e;exact .inl ⟨A7 _,d σ H p⟩
abbrev R2:=V->V->Hp->VK->Prop
def OpR (X:Cx)(f:Value->Value->Sem Value)(r:R2):Prop:=
 ∀(Ab:List (Addr×Obj)) (s:Shared) (σ:St) (H:Hp) (x y:V) (v u:Value) (Q:VK),Inv X Ab σ H s->RelV x v->RelV y u->r x y H Q->
  wpAny (model X.prog X.w) X.A (f v u) (EP X Ab σ Q) X.xe s
def UnR (X:Cx)(f:Value->Sem Value)(r:V->Hp->VK->Prop):Prop:=
 ∀(Ab:List (Addr×Obj)) (s:Shared) (σ:St) (H:Hp) (x:V) (v:Value) (Q:VK),Inv X Ab σ H s->RelV x v->r x H Q->
  wpAny (model X.prog X.w) X.A (f v) (EP X Ab σ Q) X.xe s
def qCO (X:Cx)(f:Value)(r:List V->Hp->VK->Prop):Prop:=
 ∀(Ab:List (Addr×Obj)) (s:Shared) (σ:St) (H:Hp) (xs:List V) (us:List Value) (Q:VK),Inv X Ab σ H s->Vals xs us->r xs H Q->
  wpAny (model X.prog X.w) X.A (call f us) (EP X Ab σ Q) X.xe s
def TruR (X:Cx)(r:V->Hp->(Bool->Hp->Prop)->Prop):Prop:=
 ∀(Ab:List (Addr×Obj)) (s:Shared) (σ:St) (H:Hp) (x:V) (v:Value) (Q:Bool->Hp->Prop),Inv X Ab σ H s->RelV x v->r x H Q->
  wpAny (model X.prog X.w) X.A (truthy v) (TP X Ab σ Q) X.xe s
def tOp (r:R2)(ta tb:TE):TE:=λσ H Q=>ta σ H λx H1=>tb σ H1 λy H2=>r x y H2 Q
def tUn (r:V->Hp->VK->Prop)(ta:TE):TE:=λσ H Q=>ta σ H λx H1=>r x H1 Q
def rI (C:Int->Int->Prop)(g:Int->Int->V):R2:=λx y H Q=>∃i j,x=.int i/\y=.int j/\C i j/\Q (g i j) H
def rI0 (g:Int->Int->V):R2:=λx y H Q=>∃i j,x=.int i/\y=.int j/\Q (g i j) H
def rU (g:Int->V):V->Hp->VK->Prop:=λx H Q=>∃i,x=.int i/\Q (g i) H
section
variable{X:Cx}{a b c:Expr}{ta tb tc:TE}{pos:Pos}
theorem binT (c:PE X a ta)(e:PE X b tb){Ab:List (Addr×Obj)}{s:Shared}{σ:St}{H:Hp}{R:V->V->Hp->Prop}(I:Inv X Ab σ H s)
  (h:ta σ H λx H1=>tb σ H1 λy H2=>R x y H2) {Q:Value->Shared->Prop} {f:Value->Value->Sem Value}
  (d:∀v u s2 x y H2,Inv X Ab σ H2 s2->RelV x v->RelV y u->R x y H2->wpAny (model X.prog X.w) X.A (f v u) Q X.xe s2):
  wpAny (model X.prog X.w) X.A (eval a X.env) (λv s₁=>wpAny (model X.prog X.w) X.A (eval b X.env) (λu s₂=>wpAny (model X.prog X.w) X.A (f v u) Q X.xe s₂) X.xe s₁) X.xe s:=by
 refine thn (c Ab s σ H _ I h) λv s1 ⟨x,H1,I1,r1,q1⟩=>?_;refine thn (e Ab s1 σ H1 _ I1 q1) λu s2 ⟨y,H2,I2,r2,q2⟩=>?_;exact d v u s2 x y H2 I2 r1 r2 q2
theorem qAO {op:Operator}{r:R2}(c:OpR X (B36 op) r)(f:PE X a ta)(e:PE X b tb):PE X (.BinOp a op b pos) (tOp r ta tb):=by
 intro d s σ H Q I h;exact wpAny_BinOp (binT f e I h λv u k x y i j g l q=>c d k σ i x y v u Q j g l q)
theorem qKH {op:UnaryOp}{r:V->Hp->VK->Prop}(d:UnR X (unaryOp op) r)(c:PE X a ta):PE X (.UnaryOp op a pos) (tUn r ta):=by
 intro b s σ H Q I h;exact UnaryOp_ (thn (c b s σ H _ I h) λv s1 ⟨x,H1,I1,r1,q1⟩=>d b s1 σ H1 x v Q I1 r1 q1)
theorem opI {f:Value->Value->Sem Value}{C:Int->Int->Prop}{g:Int->Int->Int}
  (a:∀(i j:Int) (t u:Tok) (s:Shared) (Q:Value->Shared->Prop) (E:Value->Shared->Prop),C i j->Q (.int (g i j) s.toks) {s with toks:=s.toks+1}->wpAny (model X.prog X.w) X.A (f (.int i t) (.int j u)) Q E s):
  OpR X f (rI C λi j=>.int (g i j)):=by
 intro k s σ H x y v u Q I c d h;obtain⟨i,j,rfl,rfl,e,q⟩:=h;obtain⟨t,rfl⟩:=c;obtain⟨b,rfl⟩:=d;exact a i j t b s _ _ e ⟨.int (g i j),H,I.tok _,⟨_,rfl⟩,q⟩
theorem opI0 {f:Value->Value->Sem Value}{g:Int->Int->Int}
  (a:∀(i j:Int) (t u:Tok) (s:Shared) (Q:Value->Shared->Prop) (E:Value->Shared->Prop),Q (.int (g i j) s.toks) {s with toks:=s.toks+1}->wpAny (model X.prog X.w) X.A (f (.int i t) (.int j u)) Q E s):
  OpR X f (rI0 λi j=>.int (g i j)):=by
 intro e s σ H x y v u Q I c d h;obtain⟨i,j,rfl,rfl,q⟩:=h;obtain⟨t,rfl⟩:=c;obtain⟨b,rfl⟩:=d;exact a i j t b s _ _ ⟨.int (g i j),H,I.tok _,⟨_,rfl⟩,q⟩
theorem opB0 {f:Value->Value->Sem Value}{g:Int->Int->Bool}
  (a:∀(i j:Int) (t u:Tok) (s:Shared) (Q:Value->Shared->Prop) (E:Value->Shared->Prop),Q (.bool (g i j)) s->wpAny (model X.prog X.w) X.A (f (.int i t) (.int j u)) Q E s):
  OpR X f (rI0 λi j=>.bl (g i j)):=by
 intro e s σ H x y v u Q I c d h;obtain⟨i,j,rfl,rfl,q⟩:=h;obtain⟨t,rfl⟩:=c;obtain⟨b,rfl⟩:=d;exact a i j t b s _ _ ⟨.bl (g i j),H,I,rfl,q⟩
def CDiv (i j:Int):Prop:=0<j/\j<1073741824
def CPow (i j:Int):Prop:=0<=j/\j<=1000000/\i.natAbs<2^64
def CMul (i j:Int):Prop:=(-(2^64)<i/\i<2^64)\/(-(2^64)<j/\j<2^64)
theorem CMul.ok {i j:Int}(h:CMul i j):IntMulOk i j:=by
 rcases h with⟨b,a⟩|⟨b,a⟩
 ·exact .of_left (intBits_le_64 b a)
 ·exact .of_right (intBits_le_64 b a)
theorem qSH (k:Nat):(0:Int)<=2^k:=by
 rw[two_pow_cast];exact W9 _
theorem qC7:OpR X (B36 .Add) (rI0 λi j=>.int (i+j)):=opI0 λ_ _ _ _ _ _ _ q=>add_int q
theorem qDN:OpR X (B36 .Sub) (rI0 λi j=>.int (i-j)):=opI0 λ_ _ _ _ _ _ _ q=>sub_int q
theorem qJK:OpR X (B36 .Mult) (rI CMul λi j=>.int (i*j)):=opI λ_ _ _ _ _ _ _ a q=>mul_int q a.ok
theorem qPJ:OpR X (B36 .FloorDiv) (rI CDiv λi j=>.int (i/j)):=opI λi j _ _ _ _ _ a q=>by
 have c:(0:Int)<j:=a.1;have b:j<1073741824:=a.2;exact floordiv_int (by lia) (by rw[X5 i (by lia)];exact q) (.inl (Z6 (by lia)))
theorem qJL:OpR X (B36 .Mod) (rI (λ_ j=>0<j) λi j=>.int (i%j)):=opI λi j _ _ _ _ _ a q=>by
 have b:(0:Int)<j:=a;exact mod_int' (by lia) (by rw[l7 i (by lia)];exact q)
theorem qdW:OpR X (B36 .Pow) (rI CPow λi j=>.int (i^j.toNat)):=opI λ_ _ _ _ _ _ _ a q=>pow_int_small a.1 a.2.1 a.2.2 q
theorem qUX:OpR X (B36 .LShift) (rI CPow λi j=>.int (i*2^j.toNat)):=opI λ_ _ _ _ _ _ _ a q=>lshift_int_small a.1 a.2.1 a.2.2 q
theorem qUW:OpR X (B36 .RShift) (rI (λ_ j=>0<=j) λi j=>.int (i/2^j.toNat)):=opI λi j _ _ _ _ _ a q=>
 rshift_int a (by rw[X5 i (qSH _)];exact q)
theorem qRK:OpR X (B36 .BitAnd) (rI0 λi j=>.int (U8 i j)):=opI0 λ_ _ _ _ _ _ _ q=>and_int q
theorem qfO:OpR X (B36 .BitOr) (rI0 λi j=>.int (A40 i j)):=opI0 λ_ _ _ _ _ _ _ q=>or_int q
theorem unI {f:Value->Sem Value}{g:Int->Int}
  (a:∀(i:Int) (t:Tok) (s:Shared) (Q:Value->Shared->Prop) (E:Value->Shared->Prop),Q (.int (g i) s.toks) {s with toks:=s.toks+1}->wpAny (model X.prog X.w) X.A (f (.int i t)) Q E s):
  UnR X f (rU λi=>.int (g i)):=by
 intro c s σ H x v Q I b h;obtain⟨i,rfl,q⟩:=h;obtain⟨t,rfl⟩:=b;exact a i t s _ _ ⟨.int (g i),H,I.tok _,⟨_,rfl⟩,q⟩
theorem qG1:UnR X (unaryOp .USub) (rU λi=>.int (-i)):=unI λ_ _ _ _ _ q=>neg_int q
end
noncomputable def scal:V->V->Bool
 |.non,.non=>true|.non,.int _=>true|.int _,.non=>true|.non,.bl _=>true|.bl _,.non=>true|.non,.str _=>true|.str _,.non=>true
 |.int _,.int _=>true|.bl _,.bl _=>true|.str _,.str _=>true|.byt _,.byt _=>true
 |.int _,.str _=>true|.str _,.int _=>true|.bl _,.str _=>true|.str _,.bl _=>true
 |_,_=>false
def rEq:R2:=λx y H Q=>scal x y=true/\Q (.bl (decide (x=y))) H
def rNe:R2:=λx y H Q=>scal x y=true/\Q (.bl (!decide (x=y))) H
theorem qWV {i j:Int}:decide (V.int i=V.int j)=(i==j):=by
 rw[Q7];simp
theorem qaS {i j:Bool}:decide (V.bl i=V.bl j)=(i==j):=by
 rw[Q7];simp
theorem qWU {i j:Str}:decide (V.str i=V.str j)=(i==j):=by
 rw[Q7];simp
theorem qWW {i j:Array UInt8}:decide (V.byt i=V.byt j)=(i.toList==j.toList):=by
 rw[Q7];cases i;cases j;simp
section
variable{X:Cx}{a b c:Expr}{ta tb tc:TE}{pos:Pos}
theorem qBF {Ab:List (Addr×Obj)}{σ:St}{H:Hp}{s:Shared}{Q:VK}{k a:Bool}(I:Inv X Ab σ H s)(q:Q (.bl k) H)(e:k=a):EP X Ab σ Q (.bool a) s:=by
 subst e;exact⟨.bl k,H,I,rfl,q⟩
theorem qED:OpR X (B28 .Eq) rEq:=by
 intro e s σ H x y v u Q I d a h;obtain⟨c,q⟩:=h;cases x with
 |non=>
  cases d;cases y with
  |non=>cases a;exact PySem.EqNone.eq_none_none (qBF I q (by simp))
  |bl j=>cases a;exact PySem.EqNone.eq_none_bool (qBF I q (by simp))
  |int j=>obtain⟨b,rfl⟩:=a;exact PySem.EqNone.eq_none_int (qBF I q (by simp))
  |str j=>obtain⟨b,rfl⟩:=a;exact PySem.EqNone.eq_none_str (qBF I q (by simp))
  |_=>exact absurd (show false=true from c) C2
 |bl i=>
  cases d;cases y with
  |non=>cases a;exact PySem.EqNone.eq_bool_none (qBF I q (by simp))
  |bl j=>cases a;exact eq_bool (qBF I q qaS)
  |str j=>obtain⟨b,rfl⟩:=a;exact PySem.EqMixed.eq_bool_str (qBF I q (by simp))
  |_=>exact absurd (show false=true from c) C2
 |int i=>
  obtain⟨t,rfl⟩:=d;cases y with
  |non=>cases a;exact PySem.EqNone.eq_int_none (qBF I q (by simp))
  |int j=>obtain⟨b,rfl⟩:=a;exact eq_int (qBF I q qWV)
  |str j=>obtain⟨b,rfl⟩:=a;exact PySem.EqMixed.eq_int_str (qBF I q (by simp))
  |_=>exact absurd (show false=true from c) C2
 |str i=>
  obtain⟨t,rfl⟩:=d;cases y with
  |non=>cases a;exact PySem.EqNone.eq_str_none (qBF I q (by simp))
  |bl j=>cases a;exact PySem.EqMixed.eq_str_bool (qBF I q (by simp))
  |int j=>obtain⟨b,rfl⟩:=a;exact PySem.EqMixed.eq_str_int (qBF I q (by simp))
  |str j=>obtain⟨b,rfl⟩:=a;exact eq_str (qBF I q qWU)
  |_=>exact absurd (show false=true from c) C2
 |byt i=>
  obtain⟨t,rfl⟩:=d;cases y with
  |byt j=>obtain⟨b,rfl⟩:=a;exact PySem.W.eq_bytes (qBF I q qWW)
  |_=>exact absurd (show false=true from c) C2
 |_=>cases y<;>exact absurd (show false=true from c) C2
theorem qNL:OpR X (B28 .NotEq) rNe:=by
 intro e s σ H x y v u Q I d a h;obtain⟨c,q⟩:=h;cases x with
 |non=>
  cases d;cases y with
  |non=>cases a;exact PySem.EqNone.ne_none_none (qBF I q (by simp))
  |bl j=>cases a;exact PySem.EqNone.ne_none_bool (qBF I q (by simp))
  |int j=>obtain⟨b,rfl⟩:=a;exact PySem.EqNone.ne_none_int (qBF I q (by simp))
  |str j=>obtain⟨b,rfl⟩:=a;exact PySem.EqNone.ne_none_str (qBF I q (by simp))
  |_=>exact absurd (show false=true from c) C2
 |bl i=>
  cases d;cases y with
  |non=>cases a;exact PySem.EqNone.ne_bool_none (qBF I q (by simp))
  |bl j=>cases a;exact ne_bool (qBF I q (congrArg not qaS))
  |str j=>obtain⟨b,rfl⟩:=a;exact PySem.EqMixed.ne_bool_str (qBF I q (by simp))
  |_=>exact absurd (show false=true from c) C2
 |int i=>
  obtain⟨t,rfl⟩:=d;cases y with
  |non=>cases a;exact PySem.EqNone.ne_int_none (qBF I q (by simp))
  |int j=>obtain⟨b,rfl⟩:=a;exact ne_int (qBF I q (congrArg not qWV))
  |str j=>obtain⟨b,rfl⟩:=a;exact PySem.EqMixed.ne_int_str (qBF I q (by simp))
  |_=>exact absurd (show false=true from c) C2
 |str i=>
  obtain⟨t,rfl⟩:=d;cases y with
  |non=>cases a;exact PySem.EqNone.ne_str_none (qBF I q (by simp))
  |bl j=>cases a;exact PySem.EqMixed.ne_str_bool (qBF I q (by simp))
  |int j=>obtain⟨b,rfl⟩:=a;exact PySem.EqMixed.ne_str_int (qBF I q (by simp))
  |str j=>obtain⟨b,rfl⟩:=a;exact ne_str (qBF I q (congrArg not qWU))
  |_=>exact absurd (show false=true from c) C2
 |byt i=>
  obtain⟨t,rfl⟩:=d;cases y with
  |byt j=>obtain⟨b,rfl⟩:=a;exact PySem.W.ne_bytes (qBF I q (congrArg not qWW))
  |_=>exact absurd (show false=true from c) C2
 |_=>cases y<;>exact absurd (show false=true from c) C2
theorem qUZ:OpR X (B28 .Lt) (rI0 λi j=>.bl (decide (i<j))):=opB0 λ_ _ _ _ _ _ _ q=>lt_int q
theorem qfP:OpR X (B28 .LtE) (rI0 λi j=>.bl (decide (i<=j))):=opB0 λ_ _ _ _ _ _ _ q=>le_int q
theorem qbT:OpR X (B28 .Gt) (rI0 λi j=>.bl (decide (j<i))):=opB0 λ_ _ _ _ _ _ _ q=>gt_int q
theorem qV2:OpR X (B28 .GtE) (rI0 λi j=>.bl (decide (j<=i))):=opB0 λ_ _ _ _ _ _ _ q=>ge_int q
theorem qAS (b:Expr){op:CmpOp}(h:op≠.In:=by decide)(d:op≠.NotIn:=by decide):B49 op b=false:=by
 have a:(op==CmpOp.In)=false:=by cases op<;>first|rfl|exact absurd rfl h
 have c:(op==CmpOp.NotIn)=false:=by cases op<;>first|rfl|exact absurd rfl d
 cases b<;>simp[B49,a,c]
theorem qD3 {op:CmpOp}{r:R2}(c:OpR X (B28 op) r)(g:PE X a ta)(f:PE X b tb)(e:B49 op b=false):PE X (.Compare a [op] [b] pos) (tOp r ta tb):=by
 intro d s σ H Q I h;exact wpAny_Compare1 (binT g f I h λv u l x y j k i m q=>c d l σ j x y v u Q k i m q) e
def qeY (t:TE):TT:=λσ H Q=>t σ H λx H'=>∃k,x=.bl k/\Q k H'
theorem qAM {op:CmpOp}{r:R2}(f:OpR X (B28 op) r)(j:PE X a ta)(i:PE X b tb)(g:B49 op b=false):PT X (.Compare a [op] [b] pos) (qeY (tOp r ta tb)):=by
 intro d s σ H Q I h;refine wpAny_isTrue_Compare1 (thn (j d s σ H _ I h) fun v s1 ⟨x,H1,I1,r1,q1⟩=>thn (i d s1 σ H1 _ I1 q1) fun u s2 ⟨y,H2,I2,r2,q2⟩=>
  thn (f d s2 σ H2 x y v u _ I2 r1 r2 q2) λc s3 ⟨z,H3,I3,r3,k,e,q3⟩=>?_) g
 subst e;cases r3;exact B29 ⟨H3,I3,q3⟩
def qd8 (r r':R2)(ta tb tc:TE):TE:=λσ H Q=>ta σ H λx H1=>tb σ H1 λy H2=>r x y H2 λz H3=>∃k,z=.bl k/\
 (if k=true then tc σ H3 λw' H4=>r' y w' H4 Q else Q (.bl false) H3)
theorem qYG {op f:CmpOp}{r j:R2}(l:OpR X (B28 op) r)(i:OpR X (B28 f) j)(o:PE X a ta)(n:PE X b tb)(p:PE X c tc)
  (m:lastMarks [op,f] [b,c]=false:=by with_unfolding_all rfl):PE X (.Compare a [op,f] [b,c] pos) (qd8 r j ta tb tc):=by
 intro g s σ H Q I h;refine Compare_chain (thn (o g s σ H _ I h) fun v s1 ⟨x,H1,I1,r1,q1⟩=>chain_link (thn (n g s1 σ H1 _ I1 q1) fun u s2 ⟨y,H2,I2,r2,q2⟩=>
  thn (l g s2 σ H2 x y v u _ I2 r1 r2 q2) λd s3 ⟨z,H3,I3,r3,k,e,q3⟩=>?_)) m
 subst e;cases r3;refine B29 ?_;cases k with
 |false=>exact ite_ff ⟨.bl false,H3,I3,rfl,q3⟩
 |true=>exact ite_tt (chain_last (thn (p g s3 σ H3 _ I3 q3) λw' s4 ⟨z',H4,I4,r4,q4⟩=>i g s4 σ H4 y z' u w' Q I4 r2 r4 q4))
def TruV (K:PySem.W.Frag)(x:V)(H:Hp)(k:Bool):Prop:=
 match x with
 |.non=>k=false
 |.bl b=>k=b
 |.int i=>k=(i != 0)
 |.str y=>y.length<=B14/\k=((y.length:Int) != 0)
 |.byt y=>y.size<=B14/\k=((y.size:Int) != 0)
 |.ref p=>(∃xs,SqL K H p xs/\k=!xs.isEmpty)\/(∃xs,SqT K H p xs/\k=!xs.isEmpty)\/∃Af,H p=some (.dK Af)/\k=!Af.isEmpty
 |_=>False
theorem qT8 {κ:Type}{Af:List (κ×V)}{vs:List (κ×Value)}(r:KV Af vs):(!vs.isEmpty)=!Af.isEmpty:=by
 cases r<;>rfl
theorem qL8 {xs:List V}{a:List Value}(r:Vals xs a):(!a.toArray.isEmpty)=!xs.isEmpty:=by
 cases r<;>simp
theorem qL4:(B14:Nat)<2^63:=by rw[B16];decide
theorem qcZ:TruR X (λx H Q=>∃k,TruV X.K x H k/\Q k H):=by
 intro z s σ H x v Q I d h;obtain⟨k,e,q⟩:=h;have hl:=qL4;have hs:B14=16777216:=B16;cases x with
 |non=>
  cases d;have a:k=false:=e;subst a;exact truthy_none ⟨H,I,q⟩
 |bl b=>
  cases d;have a:k=b:=e;subst a;exact B29 ⟨H,I,q⟩
 |int i=>
  obtain⟨t,rfl⟩:=d;have a:k=(i != 0):=e;subst a;exact PySem.P.truthy_int ⟨H,I,q⟩
 |str y=>
  obtain⟨t,rfl⟩:=d;obtain⟨u,a⟩:y.length<=B14/\k=((y.length:Int) != 0):=e;subst a;exact PySem.P.truthy_str (by lia) ⟨H,I.tok _,q⟩
 |byt y=>
  obtain⟨t,rfl⟩:=d;obtain⟨u,a⟩:y.size<=B14/\k=((y.size:Int) != 0):=e;subst a;exact PySem.W.truthy_bytes (by lia) ⟨H,I.tok _,q⟩
 |ref p=>
  cases d;have a:(∃xs,SqL X.K H p xs/\k=!xs.isEmpty)\/(∃xs,SqT X.K H p xs/\k=!xs.isEmpty)\/∃Af,H p=some (.dK Af)/\k=!Af.isEmpty:=e;rcases a with⟨xs,f,a⟩|⟨xs,f,a⟩|⟨Af,f,a⟩
  ·subst a;obtain⟨l,r,j,n⟩:=I.list f;have c:=r.length;exact wpAny_truthy_list j.isList (by simp only[B8];lia) ⟨H,I.tok _,by rw[qL8 r];exact q⟩
  ·subst a;obtain⟨l,r,j,n⟩:=I.tuple f;have c:=r.length;exact truthy_tuple j (by simp only[B8];lia) ⟨H,I.tok _,by rw[qL8 r];exact q⟩
  ·subst a;obtain⟨n,o,g,r,m⟩:Af.length<=B14/\(p==B35)=false/\∃g,KV Af g/\s.heap.DictOf (qB0 X.prog X.w) p g:=I.hok p _ f;have c:Af.length=g.length:=B6 r;exact wpAny_truthy_dict o m (by lia) ⟨H,I.tok _,by rw[qT8 r];exact q⟩
 |_=>exact(show False from e).elim
theorem qY9 (c:PE X a ta)(d:∀whole,isTrue a X.env whole=(do let v <- whole;standAt a.pos;B46 [v] (truthy v))):
  PT X a (λσ H Q=>ta σ H λx H'=>∃k,TruV X.K x H' k/\Q k H'):=by
 intro b s σ H Q I h;exact isTrue_plain (thn (c b s σ H _ I h) λv s1 ⟨x,H1,I1,r1,q1⟩=>qcZ b s1 σ H1 x v Q I1 r1 q1) (d _)
theorem qDL {x:V}{a:List Value}(r:Vals [x] a):∃u,a=[u]/\RelV x u:=by
 cases r with
 |cons r1 r2=>cases r2;exact⟨_,rfl,r1⟩
theorem qOV {x y:V}{a:List Value}(r:Vals [x,y] a):∃u w',a=[u,w']/\RelV x u/\RelV y w':=by
 cases r with
 |cons r1 r2=>
  cases r2 with
  |cons r3 r4=>cases r4;exact⟨_,_,rfl,r1,r3⟩
theorem qX5 (b:X.calm=true):qCO X (.builtin "max") (λxs H Q=>∃i j,xs=[.int i,.int j]/\Q (.int (if j>i then j else i)) H):=by
 intro d s σ H xs g Q I r h;obtain⟨i,j,rfl,q⟩:=h;obtain⟨u,l,rfl,⟨t,rfl⟩,⟨c,rfl⟩⟩:=qOV r;refine max_two_ints (I.ok.hd b) λe f k=>⟨_,H,I.kept k,?_,q⟩;by_cases a:j>i
 ·rw[if_pos a,if_pos a];exact⟨_,rfl⟩
 ·rw[if_neg a,if_neg a];exact⟨_,rfl⟩
theorem qOD (b:X.calm=true):qCO X (.builtin "min") (λxs H Q=>∃i j,xs=[.int i,.int j]/\Q (.int (if j<i then j else i)) H):=by
 intro d s σ H xs g Q I r h;obtain⟨i,j,rfl,q⟩:=h;obtain⟨u,l,rfl,⟨t,rfl⟩,⟨c,rfl⟩⟩:=qOV r;refine min_two_ints (I.ok.hd b) λe f k=>⟨_,H,I.kept k,?_,q⟩;by_cases a:j<i
 ·rw[if_pos a,if_pos a];exact⟨_,rfl⟩
 ·rw[if_neg a,if_neg a];exact⟨_,rfl⟩
theorem qOF:qCO X (.type "int") (λxs H Q=>(∃i,xs=[.int i]/\Q (.int i) H)\/∃k,xs=[.bl k]/\Q (.int (if k then 1 else 0)) H):=by
 intro b s σ H xs c Q I r h;rcases h with⟨i,rfl,q⟩|⟨k,rfl,q⟩
 ·obtain⟨u,rfl,t,rfl⟩:=qDL r;exact call_int_int ⟨.int i,H,I,⟨_,rfl⟩,q⟩
 ·obtain⟨u,rfl,a⟩:=qDL r;cases a;exact call_int_bool ⟨.int (if k then 1 else 0),H,I.tok _,⟨_,rfl⟩,q⟩
theorem qQL:qCO X (.builtin "divmod") (λxs H Q=>∃i j,xs=[.int i,.int j]/\CDiv i j/\∀p,H p=none->Q (.ref p) (Ag H p (.tup [.int (i/j),.int (i%j)]))):=by
 intro d s σ H xs k Q I r h;obtain⟨i,j,rfl,⟨g,f⟩,q⟩:=h;obtain⟨u,l,rfl,⟨t,rfl⟩,⟨c,rfl⟩⟩:=qOV r;refine divmod_int (by lia) ?_ (.inl (Z6 (by lia)))
 rw[X5 i (by lia),l7 i (by lia)]
 have a:H s.heap.objs.size=none:=I.hok.fresh (A7 _);refine⟨.ref s.heap.objs.size,_,?_,rfl,q _ a⟩;refine I.laid (λb o e=>A6 _ e) (A7 _) ⟨by simp only[C3,J9];rw[B16];decide,[.int (i/j) s.toks,.int (i%j) (s.toks+1)],.cons ⟨_,rfl⟩ (.cons ⟨_,rfl⟩ .nil),?_⟩
 exact⟨_,B5 s.heap rfl,rfl,0,rfl⟩
end
structure ObjM (h:Heap)(x dx C:Addr)(mA:Str->Option Value):Prop where
 obj:h.get? x=some (A00 C dx)
 ns:h.Ns1 dx mA
 ne:dx≠x
theorem qVJ {h:Heap}{c:Addr}{f:Str->Option Value}(n:h.Ns1 c f):∃od,h.get? c=some od/\∀name,A24 name od=some (f name):=by
 obtain⟨o,d,p,g,l,k,_,i⟩:=n;refine⟨o,g,λname=>?_⟩;have e:=i name;unfold nsFind findBy at e;rw[<- Array.find?_toList] at e;unfold A24;rw[l];dsimp only
 split
 ·rename_i y q
  rw[q] at e;exact congrArg some e
 ·rename_i q
  rw[q] at e;have a:d.toList.any (·.refKey)=false:=by
   rw[List.any_eq_false];intro y m;obtain⟨z,t,b⟩:=k y (Array.mem_toList_iff.mp m);simp[DictEntry.refKey,b]
  have j:¬d.toList.any (·.refKey)=true:=by rw[a];exact C2
  rw[if_neg j];exact congrArg some e
theorem ObjM.look {h:Heap}{x a C:Addr}{b:Str->Option Value}(I:ObjM h x a C b):∃od,PySem.W.InstAt h x (A00 C a) C (some od)/\∀name,A24 name od=some (b name):=
 let⟨od,ho,hl⟩:=qVJ I.ns
 ⟨od,⟨I.obj,rfl,rfl,ho⟩,hl⟩
noncomputable def putF (f:Str)(v:V):List (Str×V)->List (Str×V)
 |[]=>[(f,v)]
 |(g,x)::r=>if g=f then(g,v)::r else(g,x)::putF f v r
theorem RelO.some_of {v:V}{o:Option Value}(r:RelO (some v) o):∃u,o=some u/\RelV v u:=by
 cases o with
 |none=>exact(show False from r).elim
 |some u=>exact⟨u,rfl,r⟩
section
variable{P:B15}{w:World}{H H':Hp}{h h':Heap}{a C dx:Addr}{fs fs':List (Str×V)}
theorem qc6 (b:HOk P w H h)(e:H a=some (.ins C dx fs)):∃mA,ObjM h a dx C mA/\(∀f,RelO (fs.lookup f) (mA f))/\PySem.Within mA (fs.map (·.1))/\fs.length<=1000/\H dx=some (.own a):=by
 obtain⟨d,z,c,g,mA,n,r,q⟩:=(show ObjOk P w H h a (.ins C dx fs) from b a _ e);exact⟨mA,⟨g,n,c⟩,r,q,z,d⟩
end
structure Cls (K:PySem.W.Frag)(C:Addr):Prop where
 pg:A65 K C R3=true
 hd:A53 K C=true
 po:PySem.W.plainOver K C=true
 sa:Q2 K (.ref C) "__setattr__" = some (some (.builtin "object.__setattr__"))
theorem Cls.get {K:PySem.W.Frag}{C:Addr}(c:Cls K C)(f:Str):A65 K C f=true:=c.pg
def qSC (K:PySem.W.Frag)(C:Addr)(f:Str):Prop:=Q2 K (.ref C) f=some none
structure Con (K:PySem.W.Frag)(C:Addr)(f:Str)(v:V)(u:Value):Prop where
 at_:Q2 K (.ref C) f=some (some u)
 rel:RelV v u
 get:p5 K u "__get__" = some none
 cp:PySem.W.copiedNames.contains f=false
structure Meth (K:PySem.W.Frag)(C:Addr)(m:Str)(f:Addr):Prop where
 at_:Q2 K (.ref C) m=some (some (.ref f))
 fn:B05 K (.ref f)=true
 kp:Q3 K (.ref f)=true
section
variable{X:Cx}{Ab:List (Addr×Obj)}{σ:St}{H:Hp}{s:Shared}{A:Around}{E:Value->Shared->Prop}{Q:Value->Shared->Prop}{c:Value}{b:Bool}
inductive TyOf (K:PySem.W.Frag)(H:Hp):V->Value->Prop where
 |non:TyOf K H .non (.type "NoneType")
 |bl (x:Bool):TyOf K H (.bl x) (.type "bool")
 |int (i:Int):TyOf K H (.int i) (.type "int")
 |str (x:Str):TyOf K H (.str x) (.type "str")
 |flt (x:UInt64):TyOf K H (.flt x) (.type "float")
 |lst {a:Addr} {xs:List V} (e:H a=some (.lst xs)):TyOf K H (.ref a) (.type "list")
 |frz {a:Addr} {o:Obj} {xs:List V} (e:H a=some (.frz o (.lst xs))):TyOf K H (.ref a) (.type "list")
 |tup {a:Addr} {xs:List V} (e:H a=some (.tup xs)):TyOf K H (.ref a) (.type "tuple")
 |dK {a:Addr} {Af:List (Key×V)} (e:H a=some (.dK Af)):TyOf K H (.ref a) (.type "dict")
 |dT {a:Addr} {Af:List (List Key×V)} (e:H a=some (.dT Af)):TyOf K H (.ref a) (.type "dict")
 |ins {a C dx:Addr} {fs:List (Str×V)} (e:H a=some (.ins C dx fs)) (cl:Cls K C) (ha:Q2 K (.ref C) "__class__" = some (some (.builtin "object.__class__")))
   (hn:p5 K (.builtin "object.__class__") "__get__" = some (some (.builtin "getset_descriptor.__get__"))) (htk:A72 K (.builtin "object.__class__")=some true)
   (hm:A41 K C (.type "object")=some true):TyOf K H (.ref a) (.ref C)
theorem qW0 {x:V}{u t:Value}(I:Inv X Ab σ H s)(d:RelV x u)(j:TyOf X.K H x t)(e:W4 X.K t c=some b)(h:∀tk,Q (.bool b) {s with toks:=tk}):
  wpAny (model X.prog X.w) A (call (.builtin "isinstance") [u,c]) Q E s:=by
 cases j with
 |non=>cases(show u=P5 from d);exact O2 PySem.W.kitx_none I.kIn R8 e (λz=>nomatch z) h
 |bl y=>cases(show u=Z9 y from d);exact O2 PySem.W.kitx_bool I.kIn R8 e (λz=>nomatch z) h
 |int i=>obtain⟨t,q⟩:=(show∃t,u=O6 i t from d);cases q;exact O2 PySem.W.kitx_int I.kIn R8 e (λz=>nomatch z) h
 |str y=>obtain⟨t,q⟩:=(show∃t,u=A37 y t from d);cases q;exact O2 PySem.W.kitx_str I.kIn R8 e (λz=>nomatch z) h
 |flt y=>obtain⟨t,q⟩:=(show∃t,u=Value.float y t from d);cases q;exact O2 PySem.W.kitx_float I.kIn R8 e (λz=>nomatch z) h
 |@lst a xs ea=>
  cases(show u=E2 a from d);obtain⟨_,_,n,_,f⟩:=(show ObjOk X.prog X.w H s.heap a (.lst xs) from I.hok a _ ea);exact O2 A54 I.kIn ⟨_,f,rfl⟩ e (λz=>nomatch z) h
 |@frz a ob xs ea=>
  cases(show u=E2 a from d);obtain⟨_,_,_,n,_,f⟩:=(show ObjOk X.prog X.w H s.heap a (.frz ob (.lst xs)) from I.hok a _ ea);exact O2 A54 I.kIn ⟨_,f,rfl⟩ e (λz=>nomatch z) h
 |@tup a xs ea=>
  cases(show u=E2 a from d);obtain⟨_,_,_,p⟩:=(show ObjOk X.prog X.w H s.heap a (.tup xs) from I.hok a _ ea);obtain⟨o,f,g,_⟩:=p;exact O2 PySem.W.kitx_tuple I.kIn ⟨o,f,g⟩ e (λz=>nomatch z) h
 |@dK a Af ea=>
  cases(show u=E2 a from d);obtain⟨_,_,m,_,p⟩:=(show ObjOk X.prog X.w H s.heap a (.dK Af) from I.hok a _ ea);obtain⟨o,k,l,f,g,_⟩:=p;exact O2 A55 I.kIn ⟨o,f,g.1⟩ e (λz=>nomatch z) h
 |@dT a Af ea=>
  cases(show u=E2 a from d);obtain⟨_,_,xs,_,o,k,l,f,g,_⟩:=(show ObjOk X.prog X.w H s.heap a (.dT Af) from I.hok a _ ea);exact O2 A55 I.kIn ⟨o,f,g.1⟩ e (λz=>nomatch z) h
 |@ins a C dx fs ea cl ha hn htk hm=>
  cases(show u=E2 a from d);obtain⟨v,O,_⟩:=qc6 I.hok ea;obtain⟨r,J,_⟩:=O.look;exact O2 (PySem.W.kitx_own (cl.get _) cl.hd ha hn htk hm) I.kIn J e (λz=>nomatch z) h
end
structure Room (k:Nat)(A:Around):Prop where
 hd:A.handled=none
 dp:A.depth+3*k+5<recursionLimit
 un:A.units+16*k+200<cLine
 gd:A.guards=some []
theorem Room.mono {j k:Nat}{A:Around}(r:Room k A)(h:j<=k):Room j A:=⟨r.hd,by have:=r.dp;lia,by have:=r.un;lia,r.gd⟩
theorem Room.deeper {k:Nat}{A:Around}(r:Room (k+1) A)(env:Env):Room k (A.deeper env):=
 ⟨r.hd,by have:=r.dp;show A.depth+1+3*k+5<_;lia,by have:=r.un;show A.units+3+16*k+200<_;lia,r.gd⟩
theorem Room.in1 {k:Nat}{A:Around}(r:Room (k+1) A):Room k A.in1:=
 ⟨r.hd,by have:=r.dp;show A.depth+3*k+5<_;lia,by have:=r.un;show A.units+1+16*k+200<_;lia,r.gd⟩
theorem Room.depth {k:Nat}{A:Around}(r:Room k A):A.depth<recursionLimit:=by have:=r.dp;lia
theorem Room.units {k:Nat}{A:Around}(r:Room k A):A.units+64<cLine:=by have:=r.un;lia
theorem Room.units0 {k:Nat}{A:Around}(r:Room k A):A.units<cLine:=by have:=r.un;lia
def tNil:TA:=λ_ H Q=>Q [] H
def qN4 (ta:TE)(tr:TA):TA:=λσ H Q=>ta σ H λx H1=>tr σ H1 λxs H2=>Q (x::xs) H2
section
variable{X:Cx}{e:Expr}{es:List Expr}{te:TE}{t:TA}{pos:Pos}
theorem qA3:PA X [] tNil:=λ_ _ _ _ H Q I h=>A56 ⟨[],H,I,.nil,h⟩
theorem qA0 (c:PE X e te)(d:PA X es t)(f:B17 (e::es) X.env=(false,eval e X.env)::B17 es X.env:=by rfl):PA X (e::es) (qN4 te t):=by
 intro a b s σ H Q I h;rw[f];show wpAny _ _ (spliced ((false,eval e X.env)::backTo a (B17 es X.env))) _ _ s;refine A42 (thn (c b s σ H _ I h) λu s1 ⟨x,H1,I1,r1,q1⟩=>?_);exact thn (d a b s1 σ H1 _ I1 q1) λus s2 ⟨xs,H2,I2,r2,q2⟩=>⟨x::xs,H2,I2,.cons r1 r2,q2⟩
def tTup (t:TA):TE:=λσ H Q=>t σ H λxs H1=>xs.length<=B14/\∀p,H1 p=none->Q (.ref p) (Ag H1 p (.tup xs))
def tLst (t:TA):TE:=λσ H Q=>t σ H λxs H1=>xs.length<=B14/\∀p,H1 p=none->Q (.ref p) (Ag H1 p (.lst xs))
theorem qB7 {x1}(h:PA X es t):PE X (.Tuple es x1 pos) (tTup t):=by
 intro c s σ H Q I a;refine wpAny_Tuple_spliced (thn (h pos c s σ H _ I a) λus s1 ⟨xs,H1,I1,r,z,q⟩=>⟨by rw[<- r.length];exact z,?_⟩)
 have d:H1 s1.heap.objs.size=none:=I1.hok.fresh (A7 _);refine⟨.ref s1.heap.objs.size,Ag H1 s1.heap.objs.size (.tup xs),I1.laid (t':=s1.toks) (λb u e=>A6 _ e) (A7 _) ?_,rfl,q _ d⟩;exact⟨z,us,r,⟨_,B5 _ rfl,rfl,_,rfl⟩⟩
theorem qBX (h:PA X es t):PE X (.List es pos) (tLst t):=by
 intro c s σ H Q I a;refine wpAny_List_spliced (thn (h pos c s σ H _ I a) λus s1 ⟨xs,H1,I1,r,z,q⟩=>⟨by rw[<- r.length];exact z,?_⟩)
 have d:H1 s1.heap.objs.size=none:=I1.hok.fresh (A7 _);refine⟨.ref s1.heap.objs.size,Ag H1 s1.heap.objs.size (.lst xs),I1.laid (t':=s1.toks) (λb u e=>A6 _ e) (A7 _) ?_,rfl,q _ d⟩;exact⟨z,us,0,r,B5 _ rfl⟩
end
abbrev Sp:=List V->Hp->VK->XK->Prop
abbrev CXT:=List Env->Hp->Shared->XK->Value->Shared->Prop
structure Env0 (P:B15)(w:World)(K:PySem.W.Frag)(mg:Str->Option Value)(base:Heap)(A:Around)(outer:List Env)(s:Shared)(H:Hp):Prop where
 frames:A.frames=some outer
 mod:Mod K mg base
 bs:∀b o,base.get? b=some o->s.heap.get? b=some o/\H b=none
 bsz:base.objs.size<=s.heap.objs.size
 funs:s.heap.FunFrames base outer
 frf:∀b∈frs outer,H b=none
 hok:HOk P w H s.heap
 bare:AllBare s.gens
def CE (outer:List Env)(P:B15)(w:World)(H:Hp)(s:Shared)(Q:VK)(u:Value)(s':Shared):Prop:=
 ∃v H',s'.os=s.os/\AllBare s'.gens/\Un (frs outer) [] H H' s.heap s'.heap/\HOk P w H' s'.heap/\RelV v u/\Q v H'
def CR (CX:CXT)(outer:List Env)(P:B15)(w:World)(H:Hp)(s:Shared)(Q:VK)(E:XK)(r:Result)(s':Shared):Prop:=
 match r with
 |.ok (.ret u)=>CE outer P w H s Q u s'
 |.ok _=>False
 |.error e=>CX outer H s E e s'
structure FnOk (P:B15)(w:World)(K:PySem.W.Frag)(mg:Str->Option Value)(base:Heap)(CX:CXT)(k:Nat)(f:Addr)(fd:B27)(ps:List Str)(sp:Sp):Prop where
 len:∀vs H Q E,sp vs H Q E->vs.length=ps.length
 run:∀(A:Around) (outer:List Env) (s:Shared) (H:Hp) (args:Args) (us:List Value) (vs:List V) (Q:VK) (E:XK),Room k A->Env0 P w K mg base A outer s H->BindsTo s fd args (ps.zip us)->Vals vs us->sp vs H Q E->
  B47 (model P w) A (.call (.ref f) args) (CR CX outer P w H s Q E) s
section
variable{X:Cx}{Ab:List (Addr×Obj)}{σ:St}{H:Hp}{s s':Shared}
theorem Inv.env0 (I:Inv X Ab σ H s):Env0 X.prog X.w X.K X.mg X.base X.A X.stack s H:=
 ⟨I.ok.frames,I.ok.mod,I.bs,F2 I.ok.bsz I.sz,I.stack,I.stkFree,I.hok,I.bare⟩
theorem Inv.after {Q:VK}{u:Value}(I:Inv X Ab σ H s)(h:CE X.stack X.prog X.w H s Q u s'):EP X Ab σ Q u s':=by
 obtain⟨v,i,os,a,j,e,r,q⟩:=h;obtain⟨f,g,d,t,c⟩:=s';obtain rfl:c=s.os:=os;exact⟨v,i,I.call (h':=f) (g':=g) (d':=d) (t':=t) (ch:=[]) j e a (λb z=>absurd z (by simp)),r,q⟩
end
def qd9 (sp:Sp)(dvs:List V)(E:XK)(t:TA):TE:=λσ H Q=>t σ H λvs H1=>sp (vs++dvs) H1 Q E
def Binds (K:PySem.W.Frag)(fd:B27)(ps:List Str)(ds:List Value):Prop:=
 ∀(s:Shared) (us:List Value),K.In s.heap->(us++ds).length=ps.length->BindsTo s fd ⟨us,[]⟩ (ps.zip (us++ds))
theorem Binds.all {K:PySem.W.Frag}{a:B27}{ps:List Str}(h:∀us:List Value,us.length=ps.length->B50 a ⟨us,[]⟩=pure (ps.zip us)):Binds K a ps []:=λs us _ b=>by
 rw[K0] at b ⊢;exact .of_eq (h us b)
def qXI (CX:CXT)(X:Cx)(E:XK):Prop:=∀(Ab:List (Addr×Obj)) (σ:St) (H:Hp) (s:Shared) (e:Value) (s':Shared),Inv X Ab σ H s->CX X.stack H s E e s'->X.xe e s'
section
variable{X:Cx}{CX:CXT}{k:Nat}{f C:Addr}{fd:B27}{ps:List Str}{sp:Sp}{dvs:List V}{ds:List Value}{E:XK}{x m:Str}{p pos apos:Pos}{e o:Expr}{es:List Expr}{ta:TE}{t:TA}
theorem qdI {Ab:List (Addr×Obj)}{σ:St}{H:Hp}{s:Shared}{Q:VK}{a:List Value}{vs:List V}(F:FnOk X.prog X.w X.K X.mg X.base CX k f fd ps sp)(j:Room k X.A)(i:Binds X.K fd ps ds)(m:Vals dvs ds)(g:qXI CX X E)
  (I:Inv X Ab σ H s) (r:Vals vs a) (h:sp (vs++dvs) H Q E):wpAny (model X.prog X.w) X.A (call (.ref f) a) (EP X Ab σ Q) X.xe s:=by
 have c:Vals (vs++dvs) (a++ds):=r.append m;have l:(a++ds).length=ps.length:=by rw[<- c.length];exact F.len _ _ _ _ h
 refine B90 (B43 (F.run X.A X.stack s H ⟨a,[]⟩ (a++ds) (vs++dvs) Q E j I.env0 (i s a I.kIn l) c h) λr d b=>?_);cases r with
 |error e=>exact g Ab σ H s e d I b
 |ok fl=>
  cases fl with
  |ret u=>exact I.after b
  |next=>exact R1 b
  |brk=>exact R1 b
  |cont=>exact R1 b
theorem qbQ (F:FnOk X.prog X.w X.K X.mg X.base CX k f fd ps sp)(l:Room k X.A)(u:Gl X x)(i:X.mg x=some (.ref f))(n:Q3 X.K (.ref f)=true)(j:Binds X.K fd ps ds)(o:Vals dvs ds)(g:qXI CX X E)
  (m:PA X (e::es) t) (a:(x==("__debug__" : Str))=false:=by decide) (c:B17 (e::es) X.env=(false,eval e X.env)::B17 es X.env:=by rfl) (b:(backTo pos (B17 es X.env)).any (·.1)=false:=by rfl):
  PE X (.Call (.Name x p) (e::es) [] pos) (qd9 sp dvs E t):=by
 intro d s σ H Q I h;refine B41 (qVL I u i ?_ a);refine A43 (h₀:=X.base) I.ok.mod.kin n (thn (m pos d s σ H _ I h) λus s1 ⟨vs,H1,I1,r,q⟩=>⟨I1.kIn,?_⟩) c b;exact qdI F l j o g I1 r q
structure Mk (K:PySem.W.Frag)(C f:Addr):Prop where
 makes:PySem.W.makesIn K C=true
 init:Q2 K (.ref C) "__init__" = some (some (.ref f))
 fn:B05 K (.ref f)=true
 kp:Q3 K (.ref C)=true
end
def PK (X:Cx)(kws:List B63)(t:TA):Prop:=
 ∀(pos:Pos) (Ab:List (Addr×Obj)) (s:Shared) (σ:St) (H:Hp) (Q:List V->Hp->Prop),Inv X Ab σ H s->t σ H Q->wpAny (model X.prog X.w) X.A (evalAll ((backToKw pos (B72 kws X.env)).map (·.2))) (AP X Ab σ Q) X.xe s
section
variable{X:Cx}{CX:CXT}{k:Nat}{f C:Addr}{fd:B27}{ps ks:List Str}{sp:Sp}{E:XK}{x m:Str}{p pos apos kpos:Pos}{e o:Expr}{es:List Expr}{kws:List B63}{te ta:TE}{t tk:TA}{nm:Option Str}
theorem qUI:PK X [] tNil:=λ_ _ _ _ H Q I h=>wpAny_evalAll_nil ⟨[],H,I,.nil,h⟩
theorem qM7 (c:PE X e te)(d:PK X kws t):PK X (⟨nm,e,kpos⟩::kws) (qN4 te t):=by
 intro a b s σ H Q I h;show wpAny _ _ (evalAll ((do let v <- eval e X.env;standAt a;pure v)::(backToKw a (B72 kws X.env)).map (·.2))) _ _ s
 refine wpAny_evalAll_cons (B12 (thn (c b s σ H _ I h) λu s1 ⟨x,H1,I1,r1,q1⟩=>B12 (B69 (B13 ?_))));exact thn (d a b s1 σ H1 _ I1 q1) λus s2 ⟨xs,H2,I2,r2,q2⟩=>⟨x::xs,H2,I2,.cons r1 r2,q2⟩
structure KBinds (K:PySem.W.Frag)(fd:B27)(ps ks:List Str)(g:List Value->List Value->List Value)(gV:List V->List V->List V):Prop where
 to:∀(s:Shared) (us ws:List Value),K.In s.heap->(g us ws).length=ps.length->BindsTo s fd ⟨us,ks.zip ws⟩ (ps.zip (g us ws))
 rel:∀{vs:List V} {us:List Value} {zs:List V} {ws:List Value},Vals vs us->Vals zs ws->Vals (gV vs zs) (g us ws)
variable{g:List Value->List Value->List Value}{gV:List V->List V->List V}
end
structure FnScope (N P:List Str)(sc:Scope):Prop where
 kind:sc.kind=.function
 co:sc.isCoroutine=false
 gen:sc.isGenerator=false
 nd:N.Nodup
 pre:N.take P.length=P
 par:∀x∈P,sc.names.lookup x=some .local\/sc.names.lookup x=some .cell
 nofree:∀y∈sc.names,y.2≠.free
theorem qOI {kindOf:Str->Option B66}{x:Str}:∀{binds:List (Str×Value)} {m:Str->Option Value},(∀v,(x,v)∉binds)->bindL kindOf binds m x=m x
 |[],_,_=>rfl
 |(n,v)::r,m,h=>by
  unfold bindL;rw[qOI λw hw=>h w (A9 _ hw)]
  split
  ·have:x≠n:=by rintro rfl;exact h v C5
   simp[this]
  ·rfl
theorem qOK {kindOf:Str->Option B66}{x:Str}:∀{binds:List (Str×Value)} {m:Str->Option Value},(∀v,(x,v)∉binds)->bindC kindOf binds m x=m x
 |[],_,_=>rfl
 |(n,v)::r,m,h=>by
  unfold bindC;rw[qOK λw hw=>h w (A9 _ hw)]
  split
  ·rfl
  ·have:x≠n:=by rintro rfl;exact h v C5
   simp[this]
theorem qOJ {kindOf:Str->Option B66}{x:Str}{v:Value}:∀{P:List Str} {vs:List Value} {i:Nat} {m:Str->Option Value},P.Nodup->P[i]?=some x->vs[i]?=some v->kindOf x=some .local->
  bindL kindOf (P.zip vs) m x=some v
 |[],_,_,_,_,h,_,_=>by simp at h
 |_::_,[],_,_,_,_,h,_=>by simp at h
 |p::P,w::vs,0,m,nd,h1,h2,hk=>by
  simp at h1 h2;subst h1;subst h2;show bindL kindOf ((p,w)::P.zip vs) m p=_;unfold bindL;rw[qOI λv hv=>(L4.mp nd).1 (j8 hv).1,if_pos hk];simp
 |p::P,w::vs,i+1,m,nd,h1,h2,hk=>by
  show bindL kindOf ((p,w)::P.zip vs) m x=_;unfold bindL;exact qOJ (i:=i) (L4.mp nd).2 (by simpa using h1) (by simpa using h2) hk
theorem qOL {kindOf:Str->Option B66}{x:Str}{v:Value}:∀{P:List Str} {vs:List Value} {i:Nat} {m:Str->Option Value},P.Nodup->P[i]?=some x->vs[i]?=some v->kindOf x≠some .local->
  bindC kindOf (P.zip vs) m x=some v
 |[],_,_,_,_,h,_,_=>by simp at h
 |_::_,[],_,_,_,_,h,_=>by simp at h
 |p::P,w::vs,0,m,nd,h1,h2,hk=>by
  simp at h1 h2;subst h1;subst h2;show bindC kindOf ((p,w)::P.zip vs) m p=_;unfold bindC;rw[qOK λv hv=>(L4.mp nd).1 (j8 hv).1,if_neg hk];simp
 |p::P,w::vs,i+1,m,nd,h1,h2,hk=>by
  show bindC kindOf ((p,w)::P.zip vs) m x=_;unfold bindC;exact qOL (i:=i) (L4.mp nd).2 (by simpa using h1) (by simpa using h2) hk
noncomputable def start (N:List Str)(vs:List V):St:=vs.map some++D4 (N.length-vs.length) none
noncomputable def cxOf (CX:CXT)(P:B15)(w:World)(K:PySem.W.Frag)(mg:Str->Option Value)(base:Heap)(N:List Str)(qual:Str)(scope:Scope)(f:Addr)(cd:Value)(A:Around)(outer:List Env)(s:Shared)(H:Hp)(E:XK):Cx where
 prog:=P
 w:=w
 K:=K
 mg:=mg
 base:=base
 A:=A.deeper (envOfC qual scope s.heap.objs.size f cd)
 N:=N
 s₀:=s
 H₀:=H
 env:=envOfC qual scope s.heap.objs.size f cd
 outer:=outer
 stack:=envOfC qual scope s.heap.objs.size f cd::outer
 ex:=[]
 calm:=true
 fn:=λ_=>true
 pn:=[]
 xe:=λe s'=>wpAny (model P w) (A.deeper (envOfC qual scope s.heap.objs.size f cd)) (leaving (envOfC qual scope s.heap.objs.size f cd) e) (λ_ s''=>CX outer H s E e s'') (λe' s''=>CX outer H s E e' s'') s'
theorem qS3 {a:Scope}{n:Nat}{x:Str}(h:a.names.lookup x=some .cell):∃c,(cellsFrom n a.names []).lookup x=some c:=by
 have q:=y7 a.names n [] (.inl h);exact Y7.mp q
theorem qW2 {CX:CXT}{P:B15}{w:World}{K:PySem.W.Frag}{mg:Str->Option Value}{base:Heap}{N ps:List Str}{j:Str}{d:Scope}{f:Addr}{cd:Value}{A:Around}{g:List Env}{s s1:Shared}{H:Hp}{E:XK}{us:List Value}{vs:List V}
  (S:FnScope N ps d) (hd:A.handled=none) (m:Env0 P w K mg base A g s H) (hl:vs.length=ps.length) (r:Vals vs us)
  (x:InCallC s s.heap.objs.size (bindL (envOfC j d s.heap.objs.size f cd).kindOf (ps.zip us) λ_=>none) (cellsFrom (s.heap.objs.size+1) d.names []) (bindC (envOfC j d s.heap.objs.size f cd).kindOf (ps.zip us) λ_=>none) s1):
  Inv (cxOf CX P w K mg base N j d f cd A g s H E) [] (start N vs) H s1:=by
 have a0:ps.length<=N.length:=by have:=congrArg j9 S.pre;rw[C4] at this;lia
 obtain⟨h1,tk,rfl,hk⟩:=x.done;have o:∀b:Addr,b∉(cxOf CX P w K mg base N j d f cd A g s H E).ex:=λb z=>absurd (show b∈([]:List Addr) from z) (by simp)
 refine⟨⟨m.mod,S.kind,rfl,rfl,A7 _,λy z c h1 l=>?_,λy hy=>?_,λy c _ h=>?_,λ_=>hd,A16 m.frames,.inr ⟨rfl,rfl⟩,λb z=>absurd z (o b),m.bs,m.bsz,λb _ _=>o b,λb z=>absurd z (o b),m.funs,m.frf⟩,
  rfl,m.bare,Un.kept hk,⟨_,x.toInCall.ns,λi y v h1 l h3=>?_⟩,λy c h=>⟨_,x.cell y c h⟩,m.hok.fresh (A7 _),λy c h=>?_,λp hp=>absurd (show p∈([]:List (Addr×Obj)) from hp) (by simp),m.hok.kept hk,?_⟩
 ·exact name_of_addr x.apart (J6 h1) (J6 l)
 ·have hy:d.names.lookup y=some .cell\/d.names.lookup y=some .free:=hy;rcases hy with hy|hy
  ·exact qS3 hy
  ·exact absurd rfl (S.nofree _ (J6 hy))
 ·exact R6 (x.above y c (J6 h))
 ·have hi:i<vs.length:=by
   unfold start at l;by_cases hi:i<vs.length
   ·exact hi
   ·rw[P8 (by simpa using hi)] at l
    rw[List.getElem?_replicate] at l
    split at l<;>cases l
  have ha:vs[i]?=some v:=by
   unfold start at l;rw[F6 (by simpa using hi),C1] at l
   cases e:vs[i]? with
   |none=>rw[e] at l;cases l
   |some a=>rw[e] at l;cases l;rfl
  obtain⟨u,hu,rv⟩:=r.get ha;have hp:ps[i]?=some y:=by
   rw[<- S.pre,J1 (by lia)];exact h1
  have t:ps.Nodup:=by rw[<- S.pre];exact S.nd.sublist (X3 _ _)
  refine⟨u,rv,?_⟩;rcases S.par y (B1 hp) with k|k
  ·exact .inl ⟨k,qOJ t hp hu k⟩
  ·obtain⟨c,e⟩:=qS3 (n:=s.heap.objs.size+1) k;refine .inr ⟨.inl k,c,e,?_⟩;have q:=x.cell y c e;rw[qOL t hp hu (by show d.names.lookup y≠_;rw[k];decide)] at q
   exact q
 ·exact m.hok.fresh (R6 (x.above y c (J6 h)))
 ·unfold start;show _=N.length;rw[A8,A0,c8]
  lia
theorem qeF {CX:CXT}{P:B15}{w:World}{K:PySem.W.Frag}{mg:Str->Option Value}{base:Heap}{k:Nat}{f:Addr}{name c:Str}{g:B40}{body:List Stmt}{a:Scope}{dV kV l pm d ct oc:Value}{an od:Option Addr}
  {a2:Array (Option Value)} {N ps:List Str} {sp:Sp} (lk:K.lookup f=some ⟨oc,od,.func (Q8 name c g body a dV kV l pm an d ct),a2⟩) (hcd:X9 K d c=true) (S:FnScope N ps a)
  (z:∀vs H Q E,sp vs H Q E->vs.length=ps.length)
  (h:∀ (A:Around) (outer:List Env) (s:Shared) (H:Hp) (vs:List V) (Q:VK) (E:XK),Room k (A.deeper (envOfC c a s.heap.objs.size f d))->sp vs H Q E->
   ∃t,PSs (cxOf CX P w K mg base N c a f d A outer s H E) body t/\t {nx:=λ_ H'=>Q .non H',rt:=Q} (start N vs) H):
  FnOk P w K mg base CX (k+1) f (Q8 name c g body a dV kV l pm an d ct) ps sp:=by
 refine⟨z,λA outer s H a3 us vs Q E hr m hb r a0=>?_⟩;have hl:=z _ _ _ _ a0;have KX:K.In s.heap:=m.mod.kin.keeps λb o e=>(m.bs b o e).1;have a1:s.heap.NoLimit:=m.mod.nolimit.keeps λb o e=>(m.bs b o e).1;have i:∀y∈ps.zip us,a.names.lookup y.1=some .local\/(a.names.lookup y.1=some .cell/\((cellsFrom (s.heap.objs.size+1) a.names []).lookup y.1).isSome=true):=λ⟨n,v⟩ hy=>by
  rcases S.par n (j8 hy).1 with q|q
  ·exact .inl q
  ·exact .inr ⟨q,y7 _ _ _ (.inl q)⟩
 refine codeAny_call_function hr.depth (KX _ _ lk) rfl S.co S.gen rfl (PySem.W.codeRec_of KX hcd) (hb _ _ _ _ ?_);refine wpAny_newFunctionEnv_cells S.kind i λa4 he s1 x=>?_;subst he;refine⟨a1.keeps x.toInCall.keep,codeAny_func ?_⟩;obtain⟨t,ht,hq⟩:=h A outer s H vs Q E (hr.deeper _) a0;have I:Inv (cxOf CX P w K mg base N c a f d A outer s H E) [] (start N vs) H s1:=qW2 S hr.hd m hl r x;refine B23 (ht [] s1 (start N vs) H _ I hq) (λfl s' j=>?_) λe s' j=>j;have p:∀{σ':St} {H':Hp} {v:V} {u:Value},Inv (cxOf CX P w K mg base N c a f d A outer s H E) [] σ' H' s'->RelV v u->Q v H'->CE outer P w H s Q u s':=
  λ{σ' H' v u} J rv q=>⟨v,H',J.os,J.bare,J.base,J.hok,rv,q⟩
 cases fl with
 |ret u=>
  obtain⟨v,σ',H',J,rv,q⟩:=j;exact p J rv q
 |next=>
  obtain⟨σ',H',J,q⟩:=j;exact p (v:=V.non) (u:=P5) J rfl q
 |brk=>
  obtain⟨_,_,_,q⟩:=j;exact R1 q
 |cont=>
  obtain⟨_,_,_,q⟩:=j;exact R1 q
section
variable{X:Cx}{x:Str}{p pos:Pos}{e:Expr}{es:List Expr}{t:TA}{id T:String}{r:List V->Hp->VK->Prop}
def tCB (r:List V->Hp->VK->Prop)(t:TA):TE:=λσ H Q=>t σ H λvs H1=>r vs H1 Q
theorem qA9 (l:qCO X (.builtin id) r) (k:Gl X x) (f:X.mg x=none) (i:B18 x=some (.builtin id)) (g:PA X (e::es) t) (j:x ≠ "__name__":=by decide) (a:(x==("__debug__" : Str))=false:=by decide)
  (d:B17 (e::es) X.env=(false,eval e X.env)::B17 es X.env:=by rfl) (b:(backTo pos (B17 es X.env)).any (·.1)=false:=by rfl):PE X (.Call (.Name x p) (e::es) [] pos) (tCB r t):=by
 intro c s σ H Q I h;refine B41 (qG6 I k f i ?_ j a);exact PyProof.Rows.callWith_builtin1 (thn (g pos c s σ H _ I h) λus s1 ⟨vs,H1,I1,r1,q1⟩=>l c s1 σ H1 vs us Q I1 r1 q1) d b
theorem qAH (l:qCO X (.type T) r) (k:Gl X x) (f:X.mg x=none) (i:B18 x=some (.type T)) (g:PA X (e::es) t) (j:x ≠ "__name__":=by decide) (a:(x==("__debug__" : Str))=false:=by decide)
  (d:B17 (e::es) X.env=(false,eval e X.env)::B17 es X.env:=by rfl) (b:(backTo pos (B17 es X.env)).any (·.1)=false:=by rfl):PE X (.Call (.Name x p) (e::es) [] pos) (tCB r t):=by
 intro c s σ H Q I h;refine B41 (qG6 I k f i ?_ j a);exact P3 (thn (g pos c s σ H _ I h) λus s1 ⟨vs,H1,I1,r1,q1⟩=>l c s1 σ H1 vs us Q I1 r1 q1) d b
end
end L2
namespace HT
open PySem PyProof.Rows
noncomputable def lexLt:List Int->List Int->Bool
 |[],[]=>false
 |[],_::_=>true
 |_::_,[]=>false
 |x::xs,y::ys=>if x=y then lexLt xs ys else decide (x<y)
theorem lexLt_cons (x y:Int)(xs a:List Int):lexLt (x::xs) (y::a)=if x=y then lexLt xs a else decide (x<y):=rfl
theorem qME:lexLt [] []=false:=rfl
theorem qKJ (y:Int)(a:List Int):lexLt [] (y::a)=true:=rfl
theorem qKK (x:Int)(xs:List Int):lexLt (x::xs) []=false:=rfl
theorem eqAt_int (A:Around)(s:Shared)(a:Int)(t:Tok)(c:Int)(u:Tok):∃e,SeqAt.EqAt A s (.int a t) (.int c u) e/\(e=true↔a=c):=
 ⟨(a==c),m4 a t c u,by simp⟩
theorem rcLt_int (A:Around)(s:Shared)(a:Int)(t:Tok)(c:Int)(u:Tok)(prog:B15)(w:World)(E:Value->Shared->Prop)(Q:Value->Shared->Prop)(h:Q (.bool (decide (a<c))) s):
  wpAny (model prog w) A (richCompare .Lt (.int a t) (.int c u)) Q E s:=
 (PyProof.Rows.lt_int h:wpAny (model prog w) A (B28 .Lt (.int a t) (.int c u)) Q E s)
section
open PySem.SeqAt
open PySem.AutoSeq1 (wpAny_loadPart')
open PySem.MeetsSeq PySem.MeetsSeq2 PySem.MeetsSeq3
theorem qLM (l b:Addr)(i f:Array Value)(n n2:Nat)(dd a3:Option Addr)(sl a1:Array (Option Value))(ns ms:List Int)(hi:B19 i.toList ns)(hj:B19 f.toList ms):
  Meets (Builtin.«tuple.__lt__» ⟨[.ref l,.ref b],[]⟩)
   (fun _ R s=>s.heap.get? l=some { cls:=.type "tuple",dict:=dd,data:=.seq i n,slots:=sl }/\s.heap.get? b=some { cls:=.type "tuple",dict:=a3,data:=.seq f n2,slots:=a1 }/\
    R (.ok (.ret (.bool (lexLt ns ms)))) s):=
 .of_wp λo w A R s h=>by
  obtain⟨hp,g,d,tk,os⟩:=s;obtain⟨hl,hb,h⟩:=h;have f2:=p6;have z1:i.size=ns.length:=by rw[<- hi.length];simp
  have z2:f.size=ms.length:=by rw[<- hj.length];simp
  wp_walk using B91 hl,B91 hb,wpAny_forIn_list _ (fun r b s'=>b.1=none/\s'=⟨hp,g,d,tk,os⟩/\∃ (vs ws:List Value) (ns' ms':List Int),r=vs.zip ws/\
   B19 vs ns'/\B19 ws ms'/\ns'.length+f.size=ms'.length+i.size/\R (.ok (.ret (.bool (lexLt ns' ms')))) ⟨hp,g,d,tk,os⟩) _
  case turn=>
   rintro⟨y,x⟩ r b s' ⟨z,rfl,vs,ws,ns',ms',m,a0,k,j,v⟩;cases a0 with
   |nil=>rw[List.zip_nil_left] at m;cases m
   |cons a t hvi'=>
    cases k with
    |nil=>rw[List.zip_nil_right] at m;cases m
    |cons c u hwi'=>
     rw[K9] at m
     injection m with hyx hrest
     injection hyx with hy hx
     subst hy hx;rw[lexLt_cons] at v;simp only[C3] at j;obtain⟨e,he,p⟩:=eqAt_int A.in1 ⟨hp,g,d,tk,os⟩ a t c u;refine B12 (he o w _ _ ?_);cases e with
     |true=>
      rw[if_pos (p.mp rfl)] at v
      wp_walk
      exact⟨rfl,rfl,_,_,_,_,hrest,hvi',hwi',by lia,v⟩
     |false=>
      rw[if_neg (λq=>absurd (p.mpr q) C2)] at v;have a2:=rcLt_int A.in1 ⟨hp,g,d,tk,os⟩ a t c u o w
      wp_walk using a2
      exact⟨_,rfl,by simpa using v⟩
  case fin=>
   rintro⟨b1,b2⟩ s' ⟨z,rfl,vs,ws,ns',ms',m,a0,k,j,v⟩;simp only at z;subst z;have hv:lexLt ns' ms'=decide (i.size<f.size):=by
    cases a0 with
    |nil=>
     cases k with
     |nil=>
      simp only[J9] at j;rw[qME];exact(decide_eq_false (by lia)).symm
     |cons c u hw=>
      simp only[J9,C3] at j;rw[qKJ];exact(decide_eq_true (by lia)).symm
    |cons a t hv=>
     cases k with
     |nil=>
      simp only[J9,C3] at j;rw[qKK];exact(decide_eq_false (by lia)).symm
     |cons c u hw=>
      rw[K9] at m;cases m
   rw[hv] at v
   wp_walk
   exact⟨_,rfl,by simpa[a8] using v⟩
  case h=>
   exact⟨rfl,rfl,i.toList,f.toList,ns,ms,rfl,hi,hj,by lia,h⟩
end
section
variable{prog:B15}{w:World}{A:Around}{E:Value->Shared->Prop}{s:Shared}
theorem lt_tupInts {l b:Addr}{c a:Array Value}{ns f:List Int}{Q:Value->Shared->Prop}(v:IsTup s.heap l c)(t:IsTup s.heap b a)(hi:B19 c.toList ns)(u:B19 a.toList f)
  (z:A.units<cLine) (h:Q (.bool (lexLt ns f)) s):wpAny (model prog w) A (B28 .Lt (.ref l) (.ref b)) Q E s:=by
 obtain⟨⟨y,dd,r,sl⟩,o,q,n,p⟩:=id v;obtain⟨⟨m,k,j,i⟩,e,g,n2,d⟩:=id t;simp only at q p g d;subst q p g d;exact richCompare_meets_room (op:=.Lt) ⟨_,o,rfl⟩ ⟨_,e,rfl⟩ A01 y8 (r8 _ _) (qLM l b c a n n2 dd k sl i ns f hi u)
  ⟨o,e,show Z9 (lexLt ns f)≠A17/\Q (.bool (lexLt ns f)) s from⟨(λx=>nomatch x),h⟩⟩ z
theorem cat_tup {t b:Addr}{vs ws:List Value}{Q:Value->Shared->Prop}(ht:IsTup s.heap t vs.toArray)(z:IsTup s.heap b ws.toArray)(q:vs≠[])
  (y:ws=[]->Q (.ref t) s) (x:ws≠[]->Q (.ref s.heap.objs.size) {s with heap:=s.heap.push {cls:=.type "tuple",data:=.seq (vs++ws).toArray}})
  (hsz:vs.length+ws.length<=B14):wpAny (model prog w) A (B36 .Add (.ref t) (.ref b)) Q E s:=by
 obtain⟨⟨cls,r,data,p⟩,i,o,n,m⟩:=id ht;obtain⟨⟨l,g,k,c⟩,a,h,u,f⟩:=id z;simp only at o m h f;subst o m h f;have e:vs.toArray++ws.toArray=(vs++ws).toArray:=by simp
 by_cases j:ws=[]
 ·exact concat_meets ⟨_,i,rfl⟩ ⟨_,a,rfl⟩ B82 seq_tuple_add W7 V8 (V3 _ _)
   (tuple_addW1 t b vs.toArray ws.toArray n u r g p c (by simpa using q) (by simp[j])) ⟨i,a,y j⟩
 ·refine concat_meets ⟨_,i,rfl⟩ ⟨_,a,rfl⟩ B82 seq_tuple_add W7 V8 (V3 _ _)
   (tuple_addW2 t b vs.toArray ws.toArray n u r g p c (by simpa using q) (by simpa using j) (by rw[B8,B8];exact hsz)) ⟨i,a,?_⟩
  rw[e];exact x j
noncomputable def sIx (n d:Nat):Option Int->Nat
 |none=>d
 |some v=>if v<0 then(v+(n:Int)).toNat else min v.toNat n
theorem sIx_none (n d:Nat):sIx n d none=d:=rfl
theorem sIx_nat (n d k:Nat):sIx n d (some (k:Int))=min k n:=by
 show(if(k:Int)<0 then((k:Int)+(n:Int)).toNat else min (k:Int).toNat n)=min k n
 rw[if_neg (by lia),D2]
end
end HT
namespace L2
open PySem PySem.Spec PyProof.Rows
abbrev TO:=St->Hp->(Option Int->Hp->Prop)->Prop
def PO (X:Cx)(e:Option Expr)(t:TO):Prop:=
 ∀(Ab:List (Addr×Obj)) (s:Shared) (σ:St) (H:Hp) (Q:Option Int->Hp->Prop),Inv X Ab σ H s->t σ H Q->
  wpAny (model X.prog X.w) X.A (evalPart e X.env) (λu s'=>∃o H',Inv X Ab σ H' s'/\IsPart u o/\Q o H') X.xe s
def qb6:TO:=λ_ H Q=>Q none H
def qeZ (t:TE):TO:=λσ H Q=>t σ H λx H1=>∃i,x=.int i/\Q (some i) H1
theorem qFV {ns:List Int}:∀{us:List Value},Vals (ns.map V.int) us->B19 us ns:=by
 induction ns with
 |nil=>intro us r;rw[A02] at r;cases r;exact .nil
 |cons n ns ih=>
  intro us r;rw[C7] at r;cases r with
  |cons r1 r2=>
   obtain⟨t,e⟩:=r1;subst e;exact .cons n t (ih r2)
section
variable{X:Cx}{e:Expr}{te:TE}{lo hi:Option Expr}{tl th:TO}{pos p2:Pos}
theorem qPD:PO X none qb6:=by
 intro a s σ H Q I h;rw[evalPart_none];exact B13 ⟨none,H,I,.none,h⟩
theorem qPC (h:PE X e te):PO X (some e) (qeZ te):=by
 intro a s σ H Q I b;rw[evalPart_some];refine thn (h a s σ H _ I b) λu s1 ⟨x,H1,I1,r1,q1⟩=>?_;obtain⟨i,rfl,q⟩:=q1;obtain⟨t,rfl⟩:=r1;exact⟨some i,H1,I1,.int i t,q⟩
def SlR (X:Cx)(r:V->Option Int->Option Int->Hp->VK->Prop):Prop:=
 ∀(Ab:List (Addr×Obj)) (s:Shared) (σ:St) (H:Hp) (x:V) (v vl vu:Value) (lo hi:Option Int) (sl:Addr) (Q:VK),Inv X Ab σ H s->RelV x v->s.heap.IsSliceOf sl vl vu .none->IsPart vl lo->IsPart vu hi->r x lo hi H Q->
  ∃T id,typeLookup (.type T) "__getitem__" = pure (some (.builtin id))/\s.TypeIs v T/\wpAny (model X.prog X.w) X.A (getItem v (.ref sl)) (EP X Ab σ Q) X.xe s
def tSl (r:V->Option Int->Option Int->Hp->VK->Prop)(te:TE)(tl th:TO):TE:=λσ H Q=>te σ H λx H1=>tl σ H1 λl H2=>th σ H2 λu H3=>r x l u H3 Q
theorem qMA {r:V->Option Int->Option Int->Hp->VK->Prop}(g:SlR X r)(c:PE X e te)(i:PO X lo tl)(m:PO X hi th):PE X (.Subscript e (.Slice lo hi none p2) pos) (tSl r te tl th):=by
 intro a s σ H Q I h;refine Subscript_ (thn (c a s σ H _ I h) λv s1 ⟨x,H1,I1,r1,q1⟩=>?_);refine wpAny_Slice (thn (i a s1 σ H1 _ I1 q1) λvl s2 ⟨l,H2,I2,pl,q2⟩=>thn (m a s2 σ H2 _ I2 q2) λvu s3 ⟨u,H3,I3,pu,q3⟩=>?_);rw[evalPart_none];refine B13 ?_;have k:Inv X a σ H3 {s3 with heap:=s3.heap.push {cls:=.type "slice",data:=.fields #[vl,vu,.none]}}:=I3.kept (t':=s3.toks) λb n q=>A6 _ q;obtain⟨T,o,d,j,f⟩:=g a {s3 with heap:=s3.heap.push {cls:=.type "slice",data:=.fields #[vl,vu,.none]}} σ H3 x v vl vu l u s3.heap.objs.size Q k r1 (B11 ..) pl pu q3;show wpAny (model X.prog X.w) X.A (subscriptTail e (.Slice lo hi none p2) v (.ref s3.heap.objs.size)) (EP X a σ Q) X.xe {s3 with heap:=s3.heap.push {cls:=.type "slice",data:=.fields #[vl,vu,.none]}};exact tail_any (ops:=[.ref s3.heap.objs.size,v]) j d f (by with_unfolding_all rfl)
noncomputable def cutV (xs:List V)(lo hi:Option Int):List V:=(xs.drop (HT.sIx xs.length 0 lo)).take (HT.sIx xs.length xs.length hi-HT.sIx xs.length 0 lo)
theorem qQH (xs:List V)(lo hi:Option Int):(cutV xs lo hi).length<=xs.length:=by
 unfold cutV;rw[C4,T9]
 lia
def qfH (K:PySem.W.Frag):R2:=λx y H Q=>∃a b xs ys,x=.ref a/\y=.ref b/\SqT K H a xs/\SqT K H b ys/\xs≠[]/\xs.length+ys.length<=B14/\
 (ys=[]->Q (.ref a) H)/\(ys≠[]->∀p,H p=none->Q (.ref p) (Ag H p (.tup (xs++ys))))
theorem Vals.nil_iff {xs:List V}{a:List Value}(r:Vals xs a):a=[]↔xs=[]:=by
 cases r with
 |nil=>simp
 |cons _ _=>simp
theorem qV5:OpR X (B36 .Add) (qfH X.K):=by
 intro Ab s σ H x y v u Q I l r h;obtain⟨a,b,p,t,rfl,rfl,k,j,i,f,m,q2⟩:=h;cases l;cases r;obtain⟨a0,d,g,_⟩:=I.tuple k;obtain⟨e,c,n,_⟩:=I.tuple j;refine HT.cat_tup g n (λz=>i (d.nil_iff.mp z)) (λz=>⟨.ref a,H,I,rfl,m (c.nil_iff.mp z)⟩) (λz=>?_) (by rw[<- d.length,<- c.length];exact f)
 refine⟨.ref s.heap.objs.size,_,I.laid (t':=s.toks) (o:=.tup (p++t)) (λb ob q=>A6 _ q) (A7 _) ?_,rfl,q2 (λw=>z (c.nil_iff.mpr w)) _ (I.hok.fresh (A7 _))⟩;exact⟨by rw[A8];exact f,_,d.append c,IsTup.new _ _⟩
end
noncomputable def ixN (n:Nat)(i:Int):Option Nat:=if 0<=i then(if i<n then some i.toNat else none) else if -(n:Int)<=i then some (i+n).toNat else none
noncomputable def atI {α:Type}(xs:List α)(i:Int):Option α:=(ixN xs.length i).bind λj=>xs[j]?
theorem qVZ {n:Nat}{i:Int}{j:Nat}(h:ixN n i=some j):seqIndex? i n=some j/\j<n/\-(n:Int)<=i/\i<n:=by
 unfold ixN at h;by_cases b:0<=i
 ·rw[if_pos b] at h;by_cases a:i<n
  ·rw[if_pos a] at h;have e:i.toNat=j:=D0 h;exact⟨by rw[seqIndex_of b a,e],by lia,by lia,a⟩
  ·rw[if_neg a] at h;cases h
 ·rw[if_neg b] at h;by_cases a : -(n:Int)<=i
  ·rw[if_pos a] at h;have e:(i+n).toNat=j:=D0 h;exact⟨by rw[seqIndex_neg (by lia) a,e],by lia,a,by lia⟩
  ·rw[if_neg a] at h;cases h
theorem qQP {α:Type}{xs:List α}{i:Int}{v:α}(h:atI xs i=some v):∃j,seqIndex? i xs.length=some j/\xs[j]?=some v/\j<xs.length/\-(xs.length:Int)<=i/\i<xs.length:=by
 unfold atI at h;cases e:ixN xs.length i with
 |none=>rw[e] at h;cases h
 |some j=>
  rw[e] at h;obtain⟨d,a,b,c⟩:=qVZ e;exact⟨j,d,h,a,b,c⟩
theorem qXE {α:Type}{xs:List α}{j:Nat}{v:α}(h:xs[j]?=some v):atI xs (j:Int)=some v:=by
 have a:j<xs.length:=(A3.mp h).1;have e:ixN xs.length (j:Int)=some j:=by
  unfold ixN;rw[if_pos (by lia),if_pos (by lia)];simp
 unfold atI;rw[e];exact h
theorem qIZ {α:Type}(xs:List α)(v:α):atI (xs++[v]) (-1)=some v:=by
 have a:(xs++[v]).length=xs.length+1:=by simp
 have e:ixN (xs++[v]).length (-1)=some xs.length:=by
  unfold ixN;rw[a,if_neg (by decide),if_pos (by lia)]
  congr 1
  lia
 unfold atI;rw[e];show(xs++[v])[xs.length]?=some v;simp
def qcR (b:Expr):Prop:=∀o i,subscripted b false o i=operate [o,i] (getItem o i)
def IxR (X:Cx)(r:R2):Prop:=
 ∀(value slice:Expr) (Ab:List (Addr×Obj)) (s:Shared) (σ:St) (H:Hp) (x y:V) (v u:Value) (Q:VK),Inv X Ab σ H s->RelV x v->RelV y u->r x y H Q->
  subscripted slice false v u=operate [v,u] (getItem v u)->wpAny (model X.prog X.w) X.A (subscriptTail value slice v u) (EP X Ab σ Q) X.xe s
def MtR (X:Cx)(id:String)(r:V->List V->Hp->VK->Prop):Prop:=
 ∀(Ab:List (Addr×Obj)) (s:Shared) (σ:St) (H:Hp) (x:V) (xs:List V) (v:Value) (us:List Value) (Q:VK),Inv X Ab σ H s->RelV x v->Vals xs us->r x xs H Q->
  wpAny (model X.prog X.w) X.A (call (.builtin id) (v::us)) (EP X Ab σ Q) X.xe s
section
variable{X:Cx}{a b:Expr}{ta tb:TE}{pos:Pos}
theorem qB5 {r:R2}(e:IxR X r)(g:PE X a ta)(d:PE X b tb)(m:qcR b):PE X (.Subscript a b pos) (tOp r ta tb):=by
 intro c s σ H Q I h;exact Subscript_ (binT g d I h λv u k x y i j f l q=>e a b c k σ i x y v u Q j f l q (m _ _))
def rIxL (K:PySem.W.Frag):R2:=λx y H Q=>∃p xs i v,x=.ref p/\y=.int i/\SqL K H p xs/\atI xs i=some v/\Q v H
def rIxT (K:PySem.W.Frag):R2:=λx y H Q=>∃p xs i v,x=.ref p/\y=.int i/\SqT K H p xs/\atI xs i=some v/\Q v H
theorem qCF:IxR X (rIxL X.K):=by
 intro g e m s σ H x y v u Q I rx ry h n;obtain⟨p,xs,i,z,rfl,rfl,hq,he,q⟩:=h;cases rx;obtain⟨t,rfl⟩:=ry;obtain⟨k,r,f,hz⟩:=I.list hq;obtain⟨j,b,h2,h3,h4,h5⟩:=qQP he;obtain⟨w,o,c⟩:=r.get h2;have hl:=r.length;have hn:=qL4;have a:EP X m σ Q w s:=⟨z,H,I,c,q⟩;by_cases l:0<=i
 ·have d:i.toNat=j:=by
   rw[seqIndex_of l h5] at b;exact D0 b
  exact item_listR f.isList l (by lia) (by rw[d];simpa using o) a n
 ·have d:(i+(k.toArray.size:Int)).toNat=j:=by
   rw[seqIndex_neg (by lia) h4] at b
   rw[B8,<- hl];exact D0 b
  exact subscriptTail_builtinR (x:=w) f.isList.typeIs slot_list_getitem.lookup
   (wpAny_getItem_list_neg (Q:=λr s'=>r=w/\EP X m σ Q r s') f.isList (by lia) (by rw[B8]<;>lia) (by lia) (by rw[d];simpa using o) ⟨rfl,a⟩) n
theorem qBI:IxR X (rIxT X.K):=by
 intro d b e s σ H x y v u Q I m n h hs;obtain⟨p,xs,i,z,rfl,rfl,hq,g,q⟩:=h;cases m;obtain⟨t,rfl⟩:=n;obtain⟨a0,r,f,hz⟩:=I.tuple hq;obtain⟨j,l,k,h3,h4,h5⟩:=qQP g;obtain⟨w,ew,a⟩:=r.get k;have o:=r.length;have hn:=qL4;have c:EP X e σ Q w s:=⟨z,H,I,a,q⟩;exact subscriptTail_builtinR (x:=w) f.typeIs slot_tuple_getitem.lookup
  (getItem_tuple (j:=j) (Q:=λr s'=>r=w/\EP X e σ Q r s') f (by lia) (by lia) (by rw[B8,<- o];exact l) (by simpa using ew) ⟨rfl,c⟩) hs
theorem qT3 (a:List Value) (n j:Nat) (u:Value):G0 (·.setIfInBounds j u) {cls:=.type "list",data:=.seq a.toArray n}={cls:=.type "list",data:=.seq (a.set j u).toArray n}:=by
 simp[G0]
theorem Inv.lst {Ab:List (Addr×Obj)}{σ:St}{H:Hp}{s:Shared}{p:Addr}{xs:List V}(I:Inv X Ab σ H s)(h:H p=some (.lst xs)):
  ∃(its:List Value) (n:Nat),Vals xs its/\s.heap.get? p=some {cls:=.type "list",data:=.seq its.toArray n}/\xs.length<=B14:=by
 obtain⟨z,its,n,r,e⟩:=I.hok p _ h;exact⟨its,n,r,e,z⟩
theorem Inv.lstUpd {Ab:List (Addr×Obj)}{σ:St}{H:Hp}{s:Shared}{p:Addr}{xs d:List V}{a its':List Value}{n c:Nat}{f:Obj->Obj}(I:Inv X Ab σ H s)(h:H p=some (.lst xs))
  (i:s.heap.get? p=some {cls:=.type "list",data:=.seq a.toArray n}) (g:f {cls:=.type "list",data:=.seq a.toArray n}={cls:=.type "list",data:=.seq its'.toArray c}) (r:Vals d its') (k:d.length<=B14) (t:Nat):
  Inv X Ab σ (Ag H p (.lst d)) {s with heap:=s.heap.update p f,toks:=t}:=by
 have e:(s.heap.update p f).get? p=some {cls:=.type "list",data:=.seq its'.toArray c}:=by
  rw[G5 f i (by rw[g]<;>rfl),g]
 refine I.write (x:=p) (e:=p) (by rw[h];trivial) (.inl rfl) (λb u j q=>(C9 _ _ (G4 j)).trans q) ⟨_,e⟩ ?_
 exact⟨k,its',c,r,e⟩
def qfF:V->V->V->Hp->(Hp->Prop)->Prop:=λo i v H Q=>∃p xs k j,o=.ref p/\i=.int k/\H p=some (.lst xs)/\ixN xs.length k=some j/\Q (Ag H p (.lst (xs.set j v)))
theorem qIP:PSet X qfF:=by
 intro z s σ H o i v ov iv u Q I ro x rv h;obtain⟨p,xs,k,j,rfl,rfl,m,y,q⟩:=h;cases ro;obtain⟨t,rfl⟩:=x;obtain⟨a,n,r,c,hz⟩:=I.lst m;obtain⟨b,h2,f,w⟩:=qVZ y;have d:=r.length;have hn:=qL4;have l:Inv X z σ (Ag H p (.lst (xs.set j v))) {s with heap:=s.heap.update p (G0 (·.setIfInBounds j u))}:=
  I.lstUpd m c (qT3 a n j u) (r.set rv j) (by rw[k5];exact hz) s.toks
 by_cases g:0<=k
 ·have e:k.toNat=j:=by
   rw[seqIndex_of g w] at b;exact D0 b
  exact PySem.W.ki_setAt c g (by lia) (by rw[B8,<- d];exact w) (by rw[e];exact⟨_,l,q⟩)
 ·have e:(k+(a.toArray.size:Int)).toNat=j:=by
   rw[seqIndex_neg (by lia) f] at b
   rw[B8,<- d];exact D0 b
  exact PySem.W.ki_setBack c (by lia) (by rw[B8,<- d];exact f) (by lia) (by rw[e];exact⟨_,l,q⟩)
theorem qNC (lo hi:Option Int)(n:Nat):(B73 lo hi none n).1=((HT.sIx n 0 lo:Nat):Int)/\(B73 lo hi none n).2.1=((HT.sIx n n hi:Nat):Int)/\(B73 lo hi none n).2.2=1:=by
 refine⟨?_,?_,rfl⟩
 ·cases lo with
  |none=>simp[B73,HT.sIx]
  |some i=>
   simp only[B73,HT.sIx,w6,show(1:Int)>0 by decide,if_true]
   by_cases h:i<0
   ·simp only[h,if_true]<;>lia
   ·simp only[h,if_false]<;>lia
 ·cases hi with
  |none=>simp[B73,HT.sIx]
  |some i=>
   simp only[B73,HT.sIx,w6,show(1:Int)>0 by decide,if_true]
   by_cases h:i<0
   ·simp only[h,if_true]<;>lia
   ·simp only[h,if_false]<;>lia
theorem qLU (a:List Value)(lo hi:Option Int):slicePick a.toArray lo hi none=((a.drop (HT.sIx a.length 0 lo)).take (HT.sIx a.length a.length hi-HT.sIx a.length 0 lo)).toArray:=by
 obtain⟨d,b,c⟩:=qNC lo hi a.toArray.size;unfold slicePick;rw[d,b,c];simp only[sliceRange_one,pick_run,B8]<;>rfl
def rSlL (K:PySem.W.Frag):V->Option Int->Option Int->Hp->VK->Prop:=λx lo hi H Q=>∃a xs,x=.ref a/\SqL K H a xs/\∀p,H p=none->Q (.ref p) (Ag H p (.lst (cutV xs lo hi)))
theorem qP1:SlR X (rSlL X.K):=by
 intro t s σ H x v y z e f w Q I j m k l h;obtain⟨a,c,rfl,i,q⟩:=h;cases j;obtain⟨n,r,g,p⟩:=I.list i;have d:=r.length;refine⟨"list",_,slot_list_getitem.lookup,g.isList.typeIs,?_⟩;refine wpAny_getItem_list_slice g.isList m k l .none (by simp) ?_ (by rw[B8]<;>lia)
 rw[qLU,<- d];refine⟨.ref s.heap.objs.size,_,I.laid (t':=s.toks) (o:=.lst (cutV c e f)) (λb u q=>A6 _ q) (A7 _) ?_,rfl,q _ (I.hok.fresh (A7 _))⟩;exact⟨F2 (qQH c e f) p,_,0,(r.drop (HT.sIx c.length 0 e)).take (HT.sIx c.length c.length f-HT.sIx c.length 0 e),B5 _ rfl⟩
noncomputable def qMI:V->Bool
 |.non=>true
 |.bl _=>true
 |.int _=>true
 |.str _=>true
 |_=>false
noncomputable def eqV:V->V->Bool
 |.non,.non=>true
 |.bl a,.bl b=>a==b
 |.bl a,.int b=>(if a then 1 else 0)==b
 |.int a,.bl b=>a==(if b then 1 else 0)
 |.int a,.int b=>a==b
 |.str a,.str b=>a==b
 |_,_=>false
theorem qeH {A:Around}{s:Shared}{y x:V}{u v:Value}(e:RelV y u)(c:RelV x v)(g:qMI y=true)(f:qMI x=true):SeqAt.EqAt A s u v (eqV y x):=by
 cases y with
 |non=>
  cases e;cases x with
  |non=>cases c;exact SeqAt.EqAt.same _
  |bl b=>cases c;exact SeqAt.EqAt.none_bool b
  |int b=>obtain⟨t,rfl⟩:=c;exact SeqAt.EqAt.none_int b t
  |str b=>obtain⟨t,rfl⟩:=c;exact SeqAt.EqAt.none_str b t
  |_=>exact absurd (show false=true from f) C2
 |bl a=>
  cases e;cases x with
  |non=>cases c;exact SeqAt.EqAt.bool_none a
  |bl b=>cases c;exact SeqAt.EqAt.bool_bool a b
  |int b=>obtain⟨t,rfl⟩:=c;exact SeqAt.EqAt.bool_int a b t
  |str b=>obtain⟨t,rfl⟩:=c;exact SeqAt.EqAt.bool_str a b t
  |_=>exact absurd (show false=true from f) C2
 |int a=>
  obtain⟨d,rfl⟩:=e;cases x with
  |non=>cases c;exact SeqAt.EqAt.int_none a d
  |bl b=>cases c;exact SeqAt.EqAt.int_bool a d b
  |int b=>obtain⟨t,rfl⟩:=c;exact m4 a d b t
  |str b=>obtain⟨t,rfl⟩:=c;exact A38 a d b t
  |_=>exact absurd (show false=true from f) C2
 |str a=>
  obtain⟨d,rfl⟩:=e;cases x with
  |non=>cases c;exact SeqAt.EqAt.str_none a d
  |bl b=>cases c;exact SeqAt.EqAt.str_bool a d b
  |int b=>obtain⟨t,rfl⟩:=c;exact A39 a d b t
  |str b=>obtain⟨t,rfl⟩:=c;exact SeqAt.EqAt.str_str a d b t
  |_=>exact absurd (show false=true from f) C2
 |_=>exact absurd (show false=true from g) C2
noncomputable def eqU (x:V)(u:Value):Bool:=match u with
 |.none=>eqV .non x
 |.bool b=>eqV (.bl b) x
 |.int i _=>eqV (.int i) x
 |.str z _=>eqV (.str z) x
 |_=>false
theorem qaQ {x y:V}{u:Value}(r:RelV y u)(f:qMI y=true):eqU x u=eqV y x:=by
 cases y with
 |non=>cases r;rfl
 |bl b=>cases r;rfl
 |int i=>obtain⟨t,rfl⟩:=r;rfl
 |str z=>obtain⟨t,rfl⟩:=r;rfl
 |_=>exact absurd (show false=true from f) C2
theorem qKC {x:V}:∀{xs:List V} {us:List Value},Vals xs us->xs.all qMI=true->us.any (eqU x)=xs.any λy=>eqV y x
 |_,_,.nil,_=>rfl
 |y::xs,u::us,.cons r t,f=>by
  rw[t7,O4] at f;rw[X4,X4,qaQ r f.1,qKC t f.2]
theorem qGX {A:Around}{s:Shared}{x:V}{v:Value}(rx:RelV x v)(fx:qMI x=true):∀{xs:List V} {us:List Value},Vals xs us->xs.all qMI=true->∀u∈us,SeqAt.EqAt A s u v (eqU x u)
 |_,_,.nil,_=>λu hu=>by cases hu
 |y::xs,u::us,.cons r t,f=>λu' hu=>by
  rw[t7,O4] at f;rcases B7.mp hu with rfl|hu
  ·rw[qaQ r f.1];exact qeH r rx f.1 fx
  ·exact qGX rx fx t f.2 u' hu
noncomputable def inV (x:V)(xs:List V):Bool:=xs.any λy=>eqV y x
def rIn (K:PySem.W.Frag)(neg:Bool):R2:=λx y H Q=>∃p xs,y=.ref p/\(SqL K H p xs\/SqT K H p xs)/\qMI x=true/\xs.all qMI=true/\Q (.bl (if neg then !inV x xs else inV x xs)) H
theorem qF4:OpR X (B28 .In) (rIn X.K false):=by
 intro j s σ H x y v u Q I e g h;obtain⟨p,k,rfl,hq,f,b,q⟩:=h;cases g;rcases hq with hq|hq
 ·obtain⟨a,r,c,i⟩:=I.list hq;refine SeqAt.in_listAt (eqU x) c.isList (λw d=>qGX e f r b w (by simpa using d)) ⟨.bl _,H,I,rfl,?_⟩
  rw[show a.toArray.any (eqU x)=a.any (eqU x) by simp,qKC r b]
  exact q
 ·obtain⟨a,r,c,i⟩:=I.tuple hq;refine SeqAt.in_tupleAt (eqU x) c (λw d=>qGX e f r b w (by simpa using d)) ⟨.bl _,H,I,rfl,?_⟩
  rw[show a.toArray.any (eqU x)=a.any (eqU x) by simp,qKC r b]
  exact q
theorem qNK:OpR X (B28 .NotIn) (rIn X.K true):=by
 intro j s σ H x y v u Q I e g h;obtain⟨p,k,rfl,hq,f,b,q⟩:=h;cases g;rcases hq with hq|hq
 ·obtain⟨a,r,c,i⟩:=I.list hq;refine SeqAt.notIn_listAt (eqU x) c.isList (λw d=>qGX e f r b w (by simpa using d)) ⟨.bl _,H,I,rfl,?_⟩
  rw[show a.toArray.any (eqU x)=a.any (eqU x) by simp,qKC r b]
  exact q
 ·obtain⟨a,r,c,i⟩:=I.tuple hq;refine SeqAt.notIn_tupleAt (eqU x) c (λw d=>qGX e f r b w (by simpa using d)) ⟨.bl _,H,I,rfl,?_⟩
  rw[show a.toArray.any (eqU x)=a.any (eqU x) by simp,qKC r b]
  exact q
theorem qAC:qCO X (.builtin "len") (λxs H Q=>∃p ys,xs=[.ref p]/\(SqL X.K H p ys\/SqT X.K H p ys)/\Q (.int ys.length) H):=by
 intro g s σ H xs j Q I r h;obtain⟨p,ys,rfl,hq,q⟩:=h;obtain⟨u,rfl,e⟩:=qDL r;cases e;have i:=qL4;rcases hq with hq|hq
 ·obtain⟨d,c,b,f⟩:=I.list hq;have a:=c.length;exact Calls.call_len_list b.isList (by simp only[B8]<;>lia) ⟨.int ys.length,H,I.tok _,⟨s.toks+1,by rw[B8,a]⟩,q⟩
 ·obtain⟨d,c,b,f⟩:=I.tuple hq;have a:=c.length;exact len_tuple b (by simp only[B8]<;>lia) ⟨.int ys.length,H,I.tok _,⟨s.toks+1,by rw[B8,a]⟩,q⟩
theorem qID:qCO X (.type "list") (λxs H Q=>∃p ys,xs=[.ref p]/\(SqL X.K H p ys\/SqT X.K H p ys)/\∀l,H l=none->Q (.ref l) (Ag H l (.lst ys))):=by
 intro t s σ H xs x Q I r h;obtain⟨p,ys,rfl,hq,q⟩:=h;obtain⟨u,rfl,v⟩:=qDL r;cases v;have d:∀(its:List Value),Vals ys its->ys.length<=B14->∀(h':Heap) (c':Nat),(∀b o',s.heap.get? b=some o'->h'.get? b=some o')->
   h'.get? s.heap.objs.size=some {cls:=.type "list",dict:=none,data:=.seq its.toArray c',slots:=#[]}->EP X t σ Q (.ref s.heap.objs.size) {s with heap:=h'}:=λits a g h' c' c e=>
  ⟨.ref s.heap.objs.size,_,I.laid (t':=s.toks) c (A7 _) (show ObjOk X.prog X.w _ h' _ (.lst ys) from⟨g,its,c',a,e⟩),rfl,q _ (I.hok.fresh (A7 _))⟩
 rcases hq with hq|hq
 ·obtain⟨its,a,j,g⟩:=I.list hq;have f:=a.length;obtain⟨o,i,m,n,k⟩:=j.isList;exact call_list_seq p (.inl rfl) i m k (λh' c' c e=>d its a g h' c' c e) (by simp only[B8]<;>lia)
 ·obtain⟨its,a,j,g⟩:=I.tuple hq;have f:=a.length;obtain⟨o,i,m,n,k⟩:=j;exact call_list_seq p (.inr rfl) i m k (λh' c' c e=>d its a g h' c' c e) (by simp only[B8]<;>lia)
theorem qAK:qCO X (.type "tuple") (λxs H Q=>∃p ys,xs=[.ref p]/\((SqL X.K H p ys/\∀l,H l=none->Q (.ref l) (Ag H l (.tup ys)))\/(SqT X.K H p ys/\Q (.ref p) H))):=by
 intro i s σ H xs x Q I r h;obtain⟨p,ys,rfl,h⟩:=h;obtain⟨u,rfl,t⟩:=qDL r;cases t;rcases h with⟨f,q⟩|⟨f,q⟩
 ·obtain⟨a,g,d,m⟩:=I.list f;have k:=g.length;refine call_tuple_list d.isList (λc n=>?_) (by simp only[B8]<;>lia)
  have j:Inv X i σ H {s with heap:=c}:=I.kept (t':=s.toks) n;have v:Inv X i σ (Ag H c.objs.size (.tup ys)) {s with heap:=c.push {cls:=.type "tuple",data:=.seq a.toArray}}:=
   j.laid (t':=s.toks) (λb o e=>A6 _ e) (A7 _) (show ObjOk X.prog X.w _ _ _ (.tup ys) from⟨m,a,g,IsTup.new _ _⟩)
  exact⟨.ref c.objs.size,_,v,rfl,q _ (j.hok.fresh (A7 _))⟩
 ·obtain⟨a,g,d,m⟩:=I.tuple f;exact call_tuple_same d ⟨.ref p,H,I,rfl,q⟩
def tyV (K:PySem.W.Frag)(T:String)(x:V)(H:Hp):Prop:=match x with
 |.str _=>T = "str"
 |.int _=>T = "int"
 |.ref p=>(T = "list"/\∃xs,SqL K H p xs)\/(T = "tuple"/\∃o,K.lookup p=some o/\o.cls=.type "tuple"/\o.dict=none)\/
   (T = "dict"/\((∃Af,H p=some (.dK Af))\/∃Af,H p=some (.dT Af)))\/(T = "set"/\∃S n,H p=some (.set S n))
 |_=>False
theorem qa1 {Ab:List (Addr×Obj)}{σ:St}{H:Hp}{s:Shared}{T:String}{x:V}{v:Value}(I:Inv X Ab σ H s)(r:RelV x v)(f:tyV X.K T x H):
  s.TypeIs v T/\∀a,v=.ref a->∃ob,s.heap.get? a=some ob/\ob.dict=none:=by
 cases x with
 |str z=>
  obtain⟨t,rfl⟩:=r;cases(show T = "str" from f);exact⟨typeIs_str s z t,λ_ e=>nomatch e⟩
 |int i=>
  obtain⟨t,rfl⟩:=r;cases(show T = "int" from f);exact⟨typeIs_int s i t,λ_ e=>nomatch e⟩
 |ref p=>
  cases r;rcases f with⟨rfl,u,l⟩|⟨rfl,o,b,m,h⟩|⟨rfl,b⟩|⟨rfl,S,n,b⟩
  ·obtain⟨q,_,j,_⟩:=I.list l;refine⟨j.isList.typeIs,λa e=>?_⟩;cases e;obtain⟨o,n,e,c,h,_⟩:=j;exact⟨o,e,h⟩
  ·refine⟨⟨o,I.kIn p o b,m⟩,λa e=>?_⟩;cases e;exact⟨o,I.kIn _ o b,h⟩
  ·have z:∃o,s.heap.get? p=some o/\o.ExactDict:=by
    rcases b with⟨k,b⟩|⟨k,b⟩
    ·obtain⟨_,_,_,_,o,_,_,e,d,_⟩:=I.hok p _ b;exact⟨o,e,d⟩
    ·obtain⟨_,_,_,_,o,_,_,e,d,_⟩:=I.hok p _ b;exact⟨o,e,d⟩
   obtain⟨o,e,d⟩:=z;refine⟨⟨o,e,d.1⟩,λa g=>?_⟩;cases g;exact⟨o,e,d.2.1⟩
  ·obtain⟨o,_,_,_,e,d,_⟩:=I.hok p _ b;refine⟨⟨o,e,d.1⟩,λa g=>?_⟩;cases g;exact⟨o,e,d.2.1⟩
 |_=>exact R1 f
def tBM0 (K:PySem.W.Frag)(T:String)(r:V->List V->Hp->VK->Prop)(to:TE):TE:=λσ H Q=>to σ H λx H1=>tyV K T x H1/\r x [] H1 Q
def tBM (K:PySem.W.Frag)(T:String)(r:V->List V->Hp->VK->Prop)(to:TE)(t:TA):TE:=λσ H Q=>to σ H λx H1=>tyV K T x H1/\t σ H1 λxs H2=>r x xs H2 Q
variable{o e:Expr}{es:List Expr}{to:TE}{t:TA}{name:Str}{apos cpos:Pos}{T id:String}{r:V->List V->Hp->VK->Prop}
theorem qaF (k:PlainAttrs T) (c:Slot T name id) (d:typeOf (.builtin id)=pure (.type "method_descriptor")) (j:MtR X id r) (f:PE X o to)
  (a:B70 o name X.env (eval o X.env)=eval o X.env:=by rfl) (b:(apos.endLine==cpos.line)=true:=by rfl):PE X (.Call (.Attribute o name apos) [] [] cpos) (tBM0 X.K T r to):=by
 intro e s σ H Q I h;refine wpAny_Call_method0_late a b (thn (f e s σ H _ I h) λv s1 ⟨x,H1,I1,r1,ty,q1⟩=>?_);obtain⟨i,g⟩:=qa1 I1 r1 ty;exact⟨T,id,k,c,d,i,g,W8 rfl (PySem.evalArgs_none (j e s1 σ H1 x [] v [] Q I1 r1 .nil q1))⟩
theorem qJI (q:PlainAttrs T) (d:Slot T name id) (i:typeOf (.builtin id)=pure (.type "method_descriptor")) (n:MtR X id r) (k:PE X o to) (p:PA X (e::es) t)
  (b:B70 o name X.env (eval o X.env)=eval o X.env:=by rfl)
  (f:((backTo cpos (B17 (e::es) X.env)).all (fun x=>!x.1) && (backToKw cpos (B72 [] X.env)).all (fun x=>x.1.isSome)
   && decide ((e::es).length+([]:List B63).length+(if([]:List B63).isEmpty then 0 else 1)<30))=true:=by rfl)
  (c:(apos.endLine==cpos.line)=true:=by rfl) (u:B17 (e::es) X.env=(false,eval e X.env)::B17 es X.env:=by rfl) (a:(backTo cpos (B17 es X.env)).any (·.1)=false:=by rfl):
  PE X (.Call (.Attribute o name apos) (e::es) [] cpos) (tBM X.K T r to t):=by
 intro g s σ H Q I h;refine wpAny_Call_method_late b f c rfl (thn (k g s σ H _ I h) λv s1 ⟨x,H1,I1,r1,ty,q1⟩=>?_);obtain⟨m,l⟩:=qa1 I1 r1 ty;refine⟨T,id,q,d,i,m,l,?_⟩;have j:=p cpos g s1 σ H1 _ I1 q1;rw[u] at j ⊢;refine W8 (by show(false||(backTo cpos (B17 es X.env)).any (·.1))=false;rw[a]<;>rfl) (f9 ?_)
 exact thn j λus s2 ⟨vs,H2,I2,r2,q2⟩=>n g s2 σ H2 x vs v us Q I2 r1 r2 q2
end
def MtM (X:Cx)(id:String)(r:V->List V->Hp->VK->Prop):Prop:=
 ∀(Ab:List (Addr×Obj)) (s:Shared) (σ:St) (H:Hp) (x:V) (xs:List V) (v:Value) (us:List Value) (Q:VK),Inv X Ab σ H s->RelV x v->Vals xs us->r x xs H Q->
  wpAny (model X.prog X.w) X.A (call (.builtin id) (v::us)) (EP X Ab σ Q) X.xe s
theorem Vals.one:∀{x:V} {us:List Value},Vals [x] us->∃u,us=[u]/\RelV x u
 |_,_,.cons r .nil=>⟨_,rfl,r⟩
theorem Vals.two:∀{x y:V} {us:List Value},Vals [x,y] us->∃u v,us=[u,v]/\RelV x u/\RelV y v
 |_,_,_,.cons r (.cons q .nil)=>⟨_,_,rfl,r,q⟩
theorem Vals.zero:∀{us:List Value},Vals [] us->us=[]
 |_,.nil=>rfl
theorem Vals.reverse {xs:List V}{a:List Value}(h:Vals xs a):Vals xs.reverse a.reverse:=by
 induction h with
 |nil=>exact .nil
 |cons r t ih=>rw[V4,V4];exact Vals.append ih (.cons r .nil)
theorem Vals.rep {xs:List V}{us:List Value}(h:Vals xs us):∀k:Nat,Vals (D4 k xs).flatten (D4 k us).flatten
 |0=>.nil
 |k+1=>by
  rw[L5,L5,Q0,Q0];exact Vals.append h (Vals.rep h k)
theorem qNY (its:List Value):∀(k:Nat) (acc:List Value),
  A91 (λx1 x2=>x1++x2) acc.toArray (D4 k its.toArray)=(acc++(D4 k its).flatten).toArray
 |0,acc=>by simp
 |k+1,acc=>by
  have e:acc.toArray++its.toArray=(acc++its).toArray:=by simp
  have e2:(acc++its)++(D4 k its).flatten=acc++(D4 (k+1) its).flatten:=by
   rw[L5,Q0,F3]
  rw[<- e2,<- qNY its k (acc++its),<- e,L5,Q9]
section
variable{X:Cx}{Ab:List (Addr×Obj)}{σ:St}{H:Hp}{s:Shared}{l b:Addr}{xs ys zs:List V}
theorem Inv.lset {a its':List Value}{n:Nat}{f:Array Value->Array Value}{t':Nat}(I:Inv X Ab σ H s)(g:H l=some (.lst xs))
  (e:s.heap.get? l=some {cls:=.type "list",data:=.seq a.toArray n}) (h:f a.toArray=its'.toArray) (d:Vals ys its') (i:ys.length<=B14):
  Inv X Ab σ (Ag H l (.lst ys)) {s with heap:=s.heap.update l (G0 f),toks:=t'}:=by
 have q:=PySem.IsL.update e f;rw[h] at q;refine I.write (x:=l) (e:=l) (by rw[g];exact trivial) (.inl rfl) (λj u b c=>(C9 s.heap (G0 f) (G4 b)).trans c) ⟨_,q⟩ ?_
 exact⟨i,its',_,d,q⟩
theorem Inv.lnew {a:List Value}{t':Nat}(I:Inv X Ab σ H s)(b:Vals ys a)(c:ys.length<=B14):
  Inv X Ab σ (Ag H s.heap.objs.size (.lst ys)) {s with heap:=s.heap.push {cls:=.type "list",data:=.seq a.toArray},toks:=t'}:=
 I.laid (λ_ _ q=>A6 _ q) (A7 _) ⟨c,a,0,b,B5 _ rfl⟩
theorem Inv.fresh (I:Inv X Ab σ H s):H s.heap.objs.size=none:=I.hok.fresh (A7 _)
theorem Inv.lstM (I:Inv X Ab σ H s) (a:H l=some (.lst xs)):xs.length<=B14/\∃(its:List Value) (n:Nat),Vals xs its/\xs.length=its.length/\s.heap.get? l=some {cls:=.type "list",data:=.seq its.toArray n}:=by
 obtain⟨z,its,n,r,e⟩:=I.hok l _ a;exact⟨z,its,n,r,r.length,e⟩
theorem qRM {n:Nat}(h:n<=B14):V5 n=false:=by
 unfold V5;exact decide_eq_false (by lia)
end
section
variable{X:Cx}
def qbG:V->List V->Hp->VK->Prop:=λx vs H Q=>∃l xs y,x=.ref l/\vs=[y]/\H l=some (.lst xs)/\xs.length<B14/\Q .non (Ag H l (.lst (xs++[y])))
theorem qC0:MtM X "list.append" qbG:=by
 intro g s σ H x k v m Q I f c h;obtain⟨l,j,y,rfl,rfl,b,o,q⟩:=h;cases f;obtain⟨u,rfl,d⟩:=c.one;obtain⟨z,a,n,r,i,e⟩:=I.lstM b;refine B77 F.slot_list_append ⟨_,e,rfl⟩ F.entry_list_append (F.args_list_append_2 _ _) (PySem.list_append l a.toArray n u (by rw[B8];lia)) ⟨e,?_⟩
 refine⟨.non,_,I.lset (its':=a++[u]) b e (by simp) (r.append (.cons d .nil)) ?_,rfl,q⟩
 rw[A8,B3]
 lia
def qbF:V->List V->Hp->VK->Prop:=λx vs H Q=>∃l b xs zs,x=.ref l/\vs=[.ref b]/\H l=some (.lst xs)/\H b=some (.lst zs)/\xs.length+zs.length<=B14/\Q .non (Ag H l (.lst (xs++zs)))
theorem qVD:MtM X "list.extend" qbF:=by
 intro Ab s σ H x vs v us Q I j t h;obtain⟨l,b,xs,zs,rfl,rfl,g,i,hz,q⟩:=h;cases j;obtain⟨u,rfl,k⟩:=t.one;cases k;obtain⟨z,c,n,r,y,e⟩:=I.lstM g;obtain⟨z2,a,w,m,p,o⟩:=I.lstM i;have f:c.toArray.size+a.toArray.size<=B14:=by rw[B8,B8];lia
 have d:¬(!c.toArray.isEmpty&&V5 (c.toArray.size+a.toArray.size))=true:=by
  rw[qRM f,W5];exact C2
 refine B77 F.slot_list_extend ⟨_,e,rfl⟩ F.entry_list_extend (F.args_list_extend_2 _ _)
  (AutoSeq1.list_extend_list_list_0 l c.toArray n b a.toArray w d (by rw[B8];lia) (by lia)) ⟨e,o,?_⟩
 refine⟨.non,_,I.lset (its':=c++a) g e (by simp) (r.append m) ?_,rfl,q⟩
 rw[A8]
 lia
def qY7:V->List V->Hp->VK->Prop:=λx vs H Q=>∃l xs,x=.ref l/\vs=[]/\H l=some (.lst xs)/\Q .non (Ag H l (.lst xs.reverse))
theorem qSZ:MtM X "list.reverse" qY7:=by
 intro g s σ H x k v m Q I f d h;obtain⟨l,j,rfl,rfl,c,q⟩:=h;cases f;have b:=d.zero;subst b;obtain⟨z,a,n,r,i,e⟩:=I.lstM c;refine B77 F.slot_list_reverse ⟨_,e,rfl⟩ F.entry_list_reverse (F.args_list_reverse_1 _) (AutoSeq1.list_reverse_list_0 l a.toArray n (by rw[B8];lia)) ⟨e,?_⟩
 refine⟨.non,_,I.lset (its':=a.reverse) c e (by simp) r.reverse ?_,rfl,q⟩
 rw[A30]
 lia
def rCat:R2:=λx y H Q=>∃l b xs zs,x=.ref l/\y=.ref b/\H l=some (.lst xs)/\H b=some (.lst zs)/\xs.length+zs.length<=B14/\∀p,H p=none->Q (.ref p) (Ag H p (.lst (xs++zs)))
theorem qL2:OpR X (B36 .Add) rCat:=by
 intro p s σ H x y v u Q I f k h;obtain⟨l,b,w,zs,rfl,rfl,m,d,hz,q⟩:=h;cases f;cases k;obtain⟨z,c,n,r,t,e⟩:=I.lstM m;obtain⟨z2,a,n2,j,o,i⟩:=I.lstM d;refine PySem.P.add_list e i ?_ (by rw[B8,B8];lia)
 have g:c.toArray++a.toArray=(c++a).toArray:=by simp
 rw[g];exact⟨.ref _,_,I.lnew (t':=s.toks) (r.append j) (by rw[A8];lia),rfl,q _ I.fresh⟩
def rRep:R2:=λx y H Q=>∃l k xs,x=.ref l/\y=.int k/\H l=some (.lst xs)/\-(2^63)<=k/\k<2^63/\xs.length*k.toNat<=B14/\
 ∀p,H p=none->Q (.ref p) (Ag H p (.lst (D4 k.toNat xs).flatten))
theorem qc1 {α:Type}(xs:List α)(k:Nat):(D4 k xs).flatten.length=k*xs.length:=by
 induction k with
 |zero=>simp
 |succ k ih=>rw[L5,Q0,A8,ih,Nat.succ_mul,Nat.add_comm]
theorem qRJ:OpR X (B36 .Mult) rRep:=by
 intro Ab s σ H x y v u Q I rx ry h;obtain⟨l,k,xs,rfl,rfl,hH,h1,w,p,q⟩:=h;cases rx;obtain⟨t,rfl⟩:=ry;obtain⟨z,b,n,r,hl,e⟩:=I.lstM hH;have f:b.toArray.size*k.toNat<=B14:=by rw[B8,<- hl];exact p
 have d:¬b.toArray.size*k.toNat>(2^63-1)/8:=by
  have:(B14:Nat)<=(2^63-1)/8:=by decide
  lia
 have g:¬(!Builtin.List.listFitsIndex k)=true:=by
  rw[fitsIndex_both h1 w];exact C2
 have c:¬V5 (b.toArray.size*k.toNat)=true:=by
  rw[qRM f];exact C2
 have i:A91 (λo j=>o++j) #[] (D4 (if b.toArray.isEmpty=true then 0 else k.toNat) b.toArray)=(D4 k.toNat b).flatten.toArray:=by
  have f0:∀m:Nat,A91 (λo j=>o++j) #[] (D4 m b.toArray)=(D4 m b).flatten.toArray:=λm=>by
   have:=qNY b m [];rw[A03] at this;exact this
  rw[f0];cases b with
  |nil=>simp
  |cons a r'=>rw[if_neg (by simp)]
 refine wpAny_binaryOp_repeat_ref (T:="list") (U:="int") (by decide) ⟨_,e,rfl⟩ (λs'=>typeIs_int s' k t) noFill_list_mul F.fills_int_mul F.slot_int_rmul repeat_list F.slot_int_index.lookup
  (B77 F.slot_int_rmul (typeIs_int s k t) F.entry_int_rmul (F.args_int_rmul_2 _ _) (int___rmul___int_list k t l b.toArray n)
   ⟨e,rfl,⟨_,e,rfl⟩,B77 F.slot_list_mul ⟨_,e,rfl⟩ F.entry_list_mul (F.args_list_mul_2 _ _) (AutoListH.list___mul___list_int_3 l b.toArray n k t g d c) ⟨e,?_⟩⟩)
 rw[i];exact⟨.ref _,_,I.lnew (t':=s.toks) (r.rep k.toNat) (by rw[qc1,Nat.mul_comm];exact p),rfl,q _ I.fresh⟩
end
section
variable{prog:B15}{w:World}{A:Around}{E:Value->Shared->Prop}{s:Shared}
set_option maxRecDepth 100000 in
end
end L2
namespace Att
open PySem PySem.W PySem.Calls PyProof.Rows
theorem qJU {P:Params}{h:Heap}:∀(ns:List Int) (vs:List Value),WellAll P h vs (ns.map WData.int)->B19 vs ns:=by
 intro ns
 induction ns with
 |nil=>
  intro vs w;rw[A02] at w;cases w;exact .nil
 |cons n ns ih=>
  intro vs w;rw[C7] at w;cases w with
  |cons a b=>
   cases a;exact .cons _ _ (ih _ b)
theorem qUD {l:OpenLaw}{n:Nat}(t:l.most=some n){P:Params}{h:Heap}{args:List WData}{c:List Value}
  (b:l.row.toRowW.claim.pre args=true) (i:WellAll P h c args):
  ∃a vs ns,c=[E2 a]/\args=[WData.list (ns.map WData.int)]/\h.get? a=some {cls:=.type "list",data:=.seq vs.toArray}/\B19 vs ns/\ns.length<=n:=by
 have j:WShape.hasAll [] args [.list .int]=true:=(pre_splitW b).1;have k:l.pre.holds [] {args:=args}=true:=(pre_splitW b).2;obtain⟨d,r,rfl,o,m⟩:=hasAllW_cons j;obtain rfl:=hasAllW_nil m;obtain⟨u,rfl,p⟩:=hasW_list o;obtain⟨ns,rfl⟩:=items_int p;have e:ns.length<=n:=by
  unfold OpenLaw.pre at k;have g:(WTm.not (.lt (.lit (.int (n:Int))) (.len (.arg 0)))).holds [] {args:=[.list (ns.map .int)]}=true:=by
   have g:=(holds_andW k).1;rw[t] at g;exact g
  have f:=condW_of g (w_not (w_lt w_lit (w_len_list (w_arg rfl))));rw[A0] at f;refine Y1 λq=>?_;have s:(n:Int)<((ns.length:Nat):Int):=by lia
  first
   |(rw[decide_eq_true s] at f;exact absurd f (by decide))
   |(simp at f;lia)
 cases i with
 |cons w1 w2=>
  cases w2;cases w1 with
  |list ho hall=>exact⟨_,_,ns,rfl,rfl,ho,qJU ns _ hall,e⟩
theorem qUH (l:OpenLaw)(args:List WData):l.row.toRowW.claim.post args (.bool true) args=true:=
 postW_of (r:=l.row.toRowW) (X:=(true==true))
  (show WShape.has [] (.bool true) .bool=true by first|rfl|decide|simp[WShape.has,WShape.arms,WShape.armsAll])
  (show(WTm.eq .res (.lit (.bool true))).value [] {args:=args,res:=some (.bool true),after:=args}=some (.bool (true==true)) from w_eq_bool (w_res rfl) w_lit) rfl
theorem attach_call {l:OpenLaw}{n:Nat}{q:B15}{b:List Str}{XP:(Str->Option Value)->Heap->Prop}{YP:World->Heap->Prop}{d:DefRec}
  (hn:l.most=some n) (k:d.params.defaults=[])
  (i:∀ (w:World) (s₀ s₁:Shared) (mg mb:Str->Option Value) (fa:Addr) (o:Obj) (pm cd doc:Value) (a:Addr) (vs:List Value) (ns:List Int),
   Ground q b [] XP w s₀ mg mb s₁.heap->YP w s₁.heap->
   s₁.heap.get? fa=some o->o.data=.func (docDef d.name d.params d.body d.scope pm cd doc)->s₁.heap.CodeRec cd d.name->mg d.name=some (.ref fa)->
   s₁.heap.get? a=some {cls:=.type "list",data:=.seq vs.toArray}->B19 vs ns->ns.length<=n->s₁.gens=#[]->
   B47 (model l.prog w) callerA (.call (.ref fa) ⟨[.ref a],[]⟩) (λr s'=>r=.ok (.ret (.bool true))/\OldK s₁.heap s'.heap/\s'.os=s₁.os/\AllBare s'.gens) s₁):
  WalkO q b XP YP l.row.toRowW d [] (λf vs=>A92 f vs):=by
 intro w s₀ s₁ mg mb G Y fa o pm cd doc x kV ho hd p v j hg s t as h u a0 m z;obtain rfl:x=.none:=Dflts.none v k;obtain rfl:kV=.none:=Dflts.noKw v;obtain⟨a,vs,ns,rfl,rfl,e,c,g⟩:=qUD hn h m;refine enter_call (B43 (i w s₀ s₁ mg mb fa o pm cd doc a vs ns G Y ho (fd_plain hd) p j e c g hg) λr s' hq=>?_);obtain⟨rfl,y,h3,h4⟩:=hq;exact⟨.inl ⟨.bool true,.bool true,[],rfl,λ_=>rfl,.bool true,qUH l _,λ_=>⟨List.Pairwise.nil,λ_ hm=>(nomatch hm)⟩⟩,y,h3,h4⟩
end Att
namespace L2
open PySem PySem.Spec PyProof.Rows
theorem qJ4:∀{vs:List Value} {ns:List Int},B19 vs ns->Vals (ns.map V.int) vs
 |_,_,.nil=>.nil
 |_,_,.cons n t h=>.cons ⟨t,rfl⟩ (qJ4 h)
noncomputable def qE9 (s:Stmt):B40:=match s with
 |.FunctionDef _ a _ _ _ _ _ _ _ _=>a
 |_=>{posonlyargs:=[],args:=[],vararg:=none,kwonlyargs:=[],kw_defaults:=[],kwarg:=none,defaults:=[]}
noncomputable def qBC (s:Stmt):List Stmt:=match s with
 |.FunctionDef _ _ b _ _ _ _ _ _ _=>b
 |_=>[]
noncomputable def qAA (s:Stmt):Scope:=match s with
 |.FunctionDef _ _ _ _ _ _ sc _ _ _=>sc
 |_=>{kind:=.function,names:=[],isGenerator:=false,isCoroutine:=false}
abbrev CX0:CXT:=λ_ _ _ _ _ _=>False
abbrev E0:XK:=λ_ _ _=>False
theorem qfM {X:Cx}:qXI CX0 X E0:=λ_ _ _ _ _ _ _ h=>h.elim
structure Fun (K:PySem.W.Frag)(x qual:Str)(st:Stmt)(f:Addr)(fd:B27):Prop where
 ex:∃(oc:Value) (od:Option Addr) (kV doc pm:Value) (an:Option Addr) (cdv ct:Value) (osl:Array (Option Value)),
  fd=Q8 x qual (qE9 st) (qBC st) (qAA st) .none kV doc pm an cdv ct/\K.lookup f=some ⟨oc,od,.func fd,osl⟩/\X9 K cdv qual=true
 kp:Q3 K (.ref f)=true
section
variable{P:B15}{w:World}{K:PySem.W.Frag}{mg:Str->Option Value}{base:Heap}
theorem Fun.ok {x a:Str}{st:Stmt}{f:Addr}{g:B27}{N ps:List Str}{k:Nat}{sp:Sp}(F:Fun K x a st f g)(S:FnScope N ps (qAA st))(c:∀vs H Q E,sp vs H Q E->vs.length=ps.length)
  (b:∀ (cdv:Value) (A:Around) (outer:List Env) (s:Shared) (H:Hp) (vs:List V) (Q:VK) (E:XK),Room k (A.deeper (envOfC a (qAA st) s.heap.objs.size f cdv))->sp vs H Q E->
   ∃t,PSs (cxOf CX0 P w K mg base N a (qAA st) f cdv A outer s H E).nox (qBC st) t/\t {nx:=λ_ H'=>Q .non H',rt:=Q} (start N vs) H):FnOk P w K mg base CX0 (k+1) f g ps sp:=by
 obtain⟨r,u,p,l,v,n,cdv,o,i,rfl,m,e⟩:=F.ex;refine qeF m e S c λA outer s H vs Q E j d=>?_;obtain⟨t,h,q⟩:=b cdv A outer s H vs Q E j d;exact⟨t,h.nox,q⟩
theorem Fun.binds {x a:Str}{st:Stmt}{f:Addr}{b:B27}{ps:List Str}(F:Fun K x a st f b)
  (h:∀(kV doc pm:Value) (an:Option Addr) (cdv ct:Value) (us:List Value),us.length=ps.length->B50 (Q8 x a (qE9 st) (qBC st) (qAA st) .none kV doc pm an cdv ct) ⟨us,[]⟩=pure (ps.zip us)):Binds K b ps []:=by
 obtain⟨e,g,kV,doc,pm,an,cdv,ct,c,rfl,i,d⟩:=F.ex;exact .all (h kV doc pm an cdv ct)
theorem fun_mk {x a:Str}{st:Stmt}{f:Addr}{m:Value}{n g:Option Addr}{e:Array (Option Value)}{i d j b h:Value}(l:K.lookup f=some ⟨m,n,.func (Q8 x a (qE9 st) (qBC st) (qAA st) .none i d j g b h),e⟩)
  (c:X9 K b a=true) (k:Q3 K (.ref f)=true):Fun K x a st f (Q8 x a (qE9 st) (qBC st) (qAA st) .none i d j g b h):=⟨⟨m,n,i,d,j,g,b,h,e,rfl,l,c⟩,k⟩
end
theorem qHR {A:Around}{k:Nat}(a:Room k A):A.units+1<cLine:=U2 (Nat.add_le_add_left (by decide:1<=64) _) a.units
theorem qAI {n:Nat}(h:n<=1000):n<B14:=U2 h (by decide)
variable{X:Cx}
theorem pv (i:Nat) {x:Str} {pos:Pos} (b:X.N[i]?=some x:=by rfl) (c:Vis X.env.scope x:=by first|exact E1 rfl|exact g8 (E1 rfl)|exact g8 (g8 rfl)) (a:(x==("__debug__" : Str))=false:=by decide)
  (hcd:(x==("__classdict__" : Str))=false:=by decide):PE X (.Name x pos) (tVar i):=qdT b c a hcd
theorem iteF {A B:Prop}(h:B):if false=true then A else B:=by
 rw[if_neg C2];exact h
theorem iteT {A B:Prop}(h:A):if true=true then A else B:=by
 rw[if_pos rfl];exact h
theorem ite2 {c A B:Prop}[Decidable c](b:c->A)(a:¬c->B):if c then A else B:=by
 by_cases h:c
 ·rw[if_pos h];exact b h
 ·rw[if_neg h];exact a h
def Same (H H':Hp):Prop:=∀b o,H b=some o->H' b=some o
theorem Same.refl (H:Hp):Same H H:=λ_ _ h=>h
theorem Same.trans {H H1 H2:Hp}(a:Same H H1)(b:Same H1 H2):Same H H2:=λc o h=>b c o (a c o h)
theorem Same.free {H H':Hp}(e:Same H H'){l:Addr}(h:H' l=B10):H l=B10:=by
 cases q:H l with
 |none=>rfl
 |some o=>
  rw[e l o q] at h;cases h
section
variable{κ:Type}[DecidableEq κ]
noncomputable def valV (Af:List (κ×V))(k:κ):Option V:=(Af.find? λkv=>decide (kv.1=k)).map (·.2)
noncomputable def putK (Af:List (κ×V))(k:κ)(v:V):List (κ×V):=
 if(Af.any λkv=>decide (kv.1=k))=true then Af.map (λkv=>if kv.1=k then(kv.1,v) else kv) else Af++[(k,v)]
noncomputable def qO4 (Af:List (κ×V))(k:κ):List (κ×V):=Af.filter λkv=>decide (kv.1≠k)
theorem qBG {p:κ×V}{r:List (κ×V)}{k:κ}(e:p.1=k):valV (p::r) k=some p.2:=by simp[valV,V6,e]
theorem qB9 {p:κ×V}{r:List (κ×V)}{k:κ}(e:¬p.1=k):valV (p::r) k=valV r k:=by simp[valV,V6,e]
theorem qFL (k:κ):∀Af:List (κ×V),(Af.any λkv=>decide (kv.1=k))=(valV Af k).isSome
 |[]=>rfl
 |p::r=>by
  rw[X4];by_cases e:p.1=k
  ·simp only[qBG e,decide_eq_true e,Bool.true_or,Option.isSome_some]
  ·rw[qB9 e,decide_eq_false e,Bool.false_or];exact qFL k r
theorem qQW (k j:κ)(y:V):∀Af:List (κ×V),valV (Af.map λkv=>if kv.1=k then(kv.1,y) else kv) j=(valV Af j).map λx=>if j=k then y else x
 |[]=>rfl
 |p::r=>by
  have ih:=qQW k j y r;rw[C7];by_cases h:p.1=k
  ·rw[if_pos h];by_cases e:p.1=j
   ·rw[qBG (p:=(p.1,y)) e,qBG e,T1,if_pos (e.symm.trans h)]
   ·rw[qB9 (p:=(p.1,y)) e,qB9 e,ih]
  ·rw[if_neg h];by_cases e:p.1=j
   ·rw[qBG (p:=p) e,qBG e,T1,if_neg (λz=>h (e.trans z))]
   ·rw[qB9 (p:=p) e,qB9 e,ih]
theorem qMY (k j:κ)(y:V):∀Af:List (κ×V),valV Af k=none->valV (Af++[(k,y)]) j=if j=k then some y else valV Af j
 |[],_=>by
  by_cases e:k=j
  ·rw[if_pos e.symm];exact qBG (p:=(k,y)) e
  ·rw[if_neg (λz=>e z.symm)];exact qB9 (p:=(k,y)) e
 |p::r,hn=>by
  rw[A66];have hk:¬p.1=k:=λz=>by rw[qBG z] at hn;cases hn
  rw[qB9 hk] at hn;have ih:=qMY k j y r hn;by_cases e:p.1=j
  ·rw[qBG e,qBG e,if_neg (λz=>hk (e.trans z))]
  ·rw[qB9 e,qB9 e,ih]
theorem qQV (Af:List (κ×V))(k j:κ)(y:V):valV (putK Af k y) j=if j=k then some y else valV Af j:=by
 unfold putK;by_cases a:(Af.any λc=>decide (c.1=k))=true
 ·rw[if_pos a,qQW];rw[qFL] at a;by_cases e:j=k
  ·obtain⟨x,b⟩:=Y7.mp a;rw[if_pos e,e,b,T1,if_pos rfl]
  ·rw[if_neg e];cases valV Af j with
   |none=>rfl
   |some x=>rw[T1,if_neg e]
 ·rw[if_neg a];refine qMY k j y Af ?_;rw[qFL] at a;cases q:valV Af k with
  |none=>rfl
  |some x=>rw[q] at a;exact(a rfl).elim
theorem qCM (Af:List (κ×V))(k:κ)(v:V):(putK Af k v).length<=Af.length+1:=by
 unfold putK
 split
 ·rw[A0];lia
 ·rw[A8,C3,J9];lia
theorem qIU {Af:List (κ×V)}{k:κ}(v:V)(h:valV Af k=none):putK Af k v=Af++[(k,v)]:=by
 unfold putK;rw[qFL,h];exact if_neg (by decide)
theorem RelO.isSome_eq {o:Option V}{u:Option Value}(r:RelO o u):o.isSome=u.isSome:=by
 cases o with
 |none=>cases u with
  |none=>rfl
  |some _=>exact(show False from r).elim
 |some _=>cases u with
  |none=>exact(show False from r).elim
  |some _=>rfl
theorem KV.val {Af:List (κ×V)}{vs:List (κ×Value)}(r:KV Af vs)(k:κ):RelO (valV Af k) (valueAt vs k):=by
 unfold KV at r
 induction r with
 |nil=>exact R8
 |@cons p q ps qs h t ih=>
  obtain⟨c,d⟩:=h;by_cases e:p.1=k
  ·have a:q.1=k:=c.symm.trans e;have b:valueAt (q::qs) k=some q.2:=by simp[valueAt,V6,a]
   rw[qBG e,b];exact d
  ·have a:¬q.1=k:=λz=>e (c.trans z);have b:valueAt (q::qs) k=valueAt qs k:=by simp[valueAt,V6,a]
   rw[qB9 e,b];exact ih
theorem KV.any {Af:List (κ×V)}{vs:List (κ×Value)}(r:KV Af vs)(k:κ):(Af.any λkv=>decide (kv.1=k))=vs.any λkv=>decide (kv.1=k):=by
 unfold KV at r
 induction r with
 |nil=>rfl
 |cons h t ih=>rw[X4,X4,ih,h.1]
theorem KV.repl {Af:List (κ×V)}{vs:List (κ×Value)}(r:KV Af vs)(k:κ){y:V}{u:Value}(b:RelV y u):
  KV (Af.map λkv=>if kv.1=k then(kv.1,y) else kv) (vs.map λkv=>if kv.1=k then(kv.1,u) else kv):=by
 unfold KV at r ⊢
 induction r with
 |nil=>exact .nil
 |@cons p q ps qs h t ih=>
  rw[C7,C7];refine .cons ?_ ih;obtain⟨a,c⟩:=h;by_cases e:p.1=k
  ·rw[if_pos e,if_pos (a.symm.trans e)];exact⟨a,b⟩
  ·rw[if_neg e,if_neg (λz=>e (a.trans z))];exact⟨a,c⟩
theorem KV.put {Af:List (κ×V)}{vs:List (κ×Value)}(r:KV Af vs)(k:κ){y:V}{u:Value}(a:RelV y u):KV (putK Af k y) (stored vs k u):=by
 unfold putK stored;rw[r.any k];by_cases e:(vs.any λb=>decide (b.1=k))=true
 ·rw[if_pos e,if_pos e];exact r.repl k a
 ·rw[if_neg e,if_neg e];exact T3 r ⟨rfl,a⟩
theorem KV.drop {Af:List (κ×V)}{vs:List (κ×Value)}(r:KV Af vs)(k:κ):KV (qO4 Af k) (without vs k):=by
 unfold KV at r ⊢;unfold qO4 without
 induction r with
 |nil=>exact .nil
 |@cons p q ps qs h t ih=>
  obtain⟨c,f⟩:=h;rw[G9,G9];by_cases e:p.1=k
  ·have a:¬decide (p.1≠k)=true:=by simp[e]
   have b:¬decide (q.1≠k)=true:=by simp[c.symm.trans e]
   rw[if_neg a,if_neg b];exact ih
  ·have d:¬q.1=k:=λz=>e (c.trans z);have a:decide (p.1≠k)=true:=by simp[e]
   have b:decide (q.1≠k)=true:=by simp[d]
   rw[if_pos a,if_pos b];exact .cons ⟨c,f⟩ ih
theorem KV.keys {Af:List (κ×V)}{vs:List (κ×Value)}(r:KV Af vs):Af.map (·.1)=vs.map (·.1):=by
 unfold KV at r
 induction r with
 |nil=>rfl
 |cons h t ih=>rw[C7,C7,ih,h.1]
theorem KV.length {Af:List (κ×V)}{vs:List (κ×Value)}(r:KV Af vs):Af.length=vs.length:=B6 r
theorem qS0 (Af:List (κ×V))(k:κ):(qO4 Af k).length<=Af.length:=J5 _ _
end
theorem qNU {P:B15}{w:World}{k:Key}{u:Value}(r:RelV (kV k) u):(qB0 P w).is k u=true:=by
 cases k with
 |inl i=>obtain⟨t,e⟩:=(show∃t,u=O6 i t from r);subst e;exact qPS P w i t
 |inr x=>obtain⟨t,e⟩:=(show∃t,u=A37 x t from r);subst e;exact qPR P w x t
theorem qNV {P:B15}{w:World}:∀{ks:List Key} {us:List Value},Vals (ks.map kV) us->ItemsAre (qB0 P w) ks us
 |[],_,r=>by rw[A02] at r;cases r;exact .nil
 |k::ks,_,r=>by
  rw[C7] at r;cases r with
  |cons h t=>exact .cons (qNU h) (qNV t)
abbrev KT (H:Hp):List (List Key×V)->List (List Key×Addr×Value)->Prop:=Paired λp q=>p.1=q.1/\H q.2.1=some (.tup (p.1.map kV))/\RelV p.2 q.2.2
theorem KT.val {H:Hp}{Af:List (List Key×V)}{xs:List (List Key×Addr×Value)}(r:KT H Af xs)(k:List Key):RelO (valV Af k) ((atKey xs k).map (·.2)):=by
 induction r with
 |nil=>exact R8
 |@cons p q ps qs h t ih=>
  obtain⟨c,_,d⟩:=h;by_cases e:p.1=k
  ·have a:q.1=k:=c.symm.trans e;have b:atKey (q::qs) k=some q.2:=by simp[atKey,V6,a]
   rw[qBG e,b];exact d
  ·have a:¬q.1=k:=λz=>e (c.trans z);have b:atKey (q::qs) k=atKey qs k:=by simp[atKey,V6,a]
   rw[qB9 e,b];exact ih
theorem KT.repl {H:Hp}{Af:List (List Key×V)}{xs:List (List Key×Addr×Value)}(r:KT H Af xs)(k:List Key){y:V}{u:Value}(c:RelV y u):
  KT H (Af.map λkv=>if kv.1=k then(kv.1,y) else kv) (xs.map (putAt k u)):=by
 induction r with
 |nil=>exact .nil
 |@cons p q ps qs h t ih=>
  rw[C7,C7];refine .cons ?_ ih;obtain⟨a,b,d⟩:=h;unfold putAt;by_cases e:p.1=k
  ·rw[if_pos e,if_pos (a.symm.trans e)];exact⟨a,b,c⟩
  ·rw[if_neg e,if_neg (λz=>e (a.trans z))];exact⟨a,b,d⟩
theorem KT.put {H:Hp}{Af:List (List Key×V)}{xs:List (List Key×Addr×Value)}(r:KT H Af xs)(k:List Key){b:Addr}{y:V}{u:Value}(d:H b=some (.tup (k.map kV)))(a:RelV y u):
  KT H (putK Af k y) (storedH xs k b u):=by
 have e:(Af.any λc=>decide (c.1=k))=(atKey xs k).isSome:=by
  rw[qFL,(r.val k).isSome_eq,a9]
 unfold putK storedH;rw[e];by_cases q:(atKey xs k).isSome=true
 ·rw[if_pos q,if_pos q];exact r.repl k a
 ·rw[if_neg q,if_neg q];exact T3 r ⟨rfl,d,a⟩
theorem KT.keeps {H H':Hp}{Af:List (List Key×V)}{xs:List (List Key×Addr×Value)}(r:KT H Af xs)(a:∀b ys,H b=some (.tup ys)->H' b=some (.tup ys)):KT H' Af xs:=
 Paired.mapP r λ_ _ z=>⟨z.1,a _ _ z.2.1,z.2.2⟩
section
variable{P:B15}{w:World}{H:Hp}{h:Heap}{a:Addr}
theorem qdK {u:HO}(ok:HOk P w H h)(e:Rd H a u):ObjOk P w H h a u:=e.ok ok
theorem qTJ {Af:List (Key×V)}(b:HOk P w H h)(e:Rd H a (.dK Af)):Af.length<=B14/\(a==B35)=false/\∃vs,KV Af vs/\h.DictOf (qB0 P w) a vs:=
 show ObjOk P w H h a (.dK Af) from qdK b e
theorem qQE {Af:List (Key×V)}(b:HOk P w H h)(e:H a=some (.dK Af)):Af.length<=B14/\(a==B35)=false/\∃vs,KV Af vs/\h.DictOf (qB0 P w) a vs:=qTJ b (.inl e)
theorem qL7 {ks:List Key}(g:HOk P w H h)(e:H a=some (.tup (ks.map kV))):(B85 (qB0 P w)).is h ks a:=by
 obtain⟨_,b,r,o,d,c,n,f⟩:=(show ObjOk P w H h a (.tup (ks.map kV)) from g a _ e);exact⟨o,b.toArray,n,d,c,f,by simpa using qNV r⟩
theorem qTI {Af:List (List Key×V)}(c:HOk P w H h)(e:Rd H a (.dT Af)):Af.length<=B14/\(a==B35)=false/\
  ∃xs,KT H Af xs/\h.DictOfH (B85 (qB0 P w)) a xs:=by
 obtain⟨z,y,xs,r,o,g,k,f,d,i,n,j⟩:=(show ObjOk P w H h a (.dT Af) from qdK c e);refine⟨z,y,xs,r,o,g,k,f,d,i,n,λx hx=>?_,j⟩;have b:∀{l:List (List Key×V)} {m:List (List Key×Addr×Value)},KT H l m->∀x∈m,(B85 (qB0 P w)).is h x.1 x.2.1:=by
  intro l m q
  induction q with
  |nil=>intro x hx;exact nomatch hx
  |@cons p q ps qs hq t ih=>
   intro x hx;rcases B7.mp hx with e|hx
   ·subst e;exact qL7 c (by rw[<- hq.1];exact hq.2.1)
   ·exact ih x hx
 exact b r x hx
theorem qeI {Af:List (List Key×V)}(b:HOk P w H h)(e:H a=some (.dT Af)):Af.length<=B14/\(a==B35)=false/\
  ∃xs,KT H Af xs/\h.DictOfH (B85 (qB0 P w)) a xs:=qTI b (.inl e)
end
def DGet (H:Hp)(a:Addr)(y:V)(r:Option V):Prop:=
 (∃Af k,Rd H a (.dK Af)/\y=kV k/\r=valV Af k)\/∃Af k b,Rd H a (.dT Af)/\y=.ref b/\H b=some (.tup (k.map kV))/\r=valV Af k
def DPut (H:Hp)(a:Addr)(y v:V)(H':Hp):Prop:=
 (∃Af k,H a=some (.dK Af)/\y=kV k/\Af.length<B14/\H'=Ag H a (.dK (putK Af k v)))\/
 ∃Af k b,H a=some (.dT Af)/\y=.ref b/\H b=some (.tup (k.map kV))/\Af.length<B14/\H'=Ag H a (.dT (putK Af k v))
theorem DGet.k {H:Hp}{a:Addr}{Af:List (Key×V)}{k:Key}(e:H a=some (.dK Af)):DGet H a (kV k) (valV Af k):=.inl ⟨Af,k,.inl e,rfl,rfl⟩
theorem DPut.k {H:Hp}{a:Addr}{Af:List (Key×V)}{k:Key}{v:V}(e:H a=some (.dK Af))(b:Af.length<B14):DPut H a (kV k) v (Ag H a (.dK (putK Af k v))):=.inl ⟨Af,k,e,rfl,b,rfl⟩
section
variable{X:Cx}{Ab:List (Addr×Obj)}{σ:St}{H:Hp}{s:Shared}{a:Addr}{y v:V}{u r:Value}{o:Option V}{A:Around}{E:Value->Shared->Prop}
theorem Inv.big (I:Inv X Ab σ H s):B35<s.heap.objs.size:=by
 have h:B24<s.heap.objs.size:=(I.mod.glob.keeps I.bk).lt;exact Y8 (by decide) h
theorem qWY {Q:Value->Shared->Prop}(hu:A.units+1<cLine)(I:Inv X Ab σ H s)(g:DGet H a y (some v))(n:RelV y u)(h:∀w' s',Inv X Ab σ H s'->RelV v w'->Q w' s'):
  wpAny (model X.prog X.w) A (getItem (.ref a) u) Q E s:=by
 rcases g with⟨q,k,e,f,l⟩|⟨q,k,b,e,f,eb,l⟩
 ·subst f;obtain⟨z,x,vs,c,m⟩:=qTJ I.hok e;obtain⟨w',j,d⟩:=RelO.some_of (v:=v) (o:=valueAt vs k) (by rw[l];exact c.val k)
  exact wpAny_getItem_of (qNU n) m.mapOf j (h w' _ (I.tok _) d)
 ·subst f;cases(show u=E2 b from n);obtain⟨z,x,t,c,m⟩:=qTI I.hok e;obtain⟨w',j,d⟩:=RelO.some_of (v:=v) (o:=(atKey t k).map (·.2)) (by rw[l];exact c.val k)
  obtain⟨p,r,i⟩:=Option.map_eq_some_iff.mp j;refine wpAny_getItem_heap (B75 hu) (qL7 I.hok eb) m r ?_;rw[i];exact h w' _ (I.tok _) d
theorem d_in {Q:Value->Shared->Prop}(n:A.units+1<cLine)(I:Inv X Ab σ H s)(g:DGet H a y o)(j:RelV y u)(h:∀s',Inv X Ab σ H s'->Q (.bool o.isSome) s'):
  wpAny (model X.prog X.w) A (B28 .In u (.ref a)) Q E s:=by
 rcases g with⟨m,k,e,d,l⟩|⟨m,k,b,e,d,p,l⟩
 ·subst d;obtain⟨z,f,t,c,i⟩:=qTJ I.hok e;refine wpAny_in_of (qNU j) f i.mapOf ?_;rw[<- (c.val k).isSome_eq,<- l];exact h _ (I.tok _)
 ·subst d;cases(show u=E2 b from j);obtain⟨z,f,r,c,i⟩:=qTI I.hok e;refine wpAny_in_heap (B75 n) (qL7 I.hok p) f i ?_;have q:=(c.val k).isSome_eq;rw[a9] at q;rw[<- q,<- l];exact h _ (I.tok _)
theorem qcK {Q:Value->Shared->Prop}(n:A.units+1<cLine)(I:Inv X Ab σ H s)(g:DGet H a y o)(j:RelV y u)(h:∀s',Inv X Ab σ H s'->Q (.bool (!o.isSome)) s'):
  wpAny (model X.prog X.w) A (B28 .NotIn u (.ref a)) Q E s:=by
 rcases g with⟨m,k,e,d,l⟩|⟨m,k,b,e,d,p,l⟩
 ·subst d;obtain⟨z,f,t,c,i⟩:=qTJ I.hok e;refine wpAny_notIn_of (qNU j) f i.mapOf ?_;rw[<- (c.val k).isSome_eq,<- l];exact h _ (I.tok _)
 ·subst d;cases(show u=E2 b from j);obtain⟨z,f,r,c,i⟩:=qTI I.hok e;refine wpAny_notIn_heap (B75 n) (qL7 I.hok p) f i ?_;have q:=(c.val k).isSome_eq;rw[a9] at q;rw[<- q,<- l];exact h _ (I.tok _)
theorem qHZ {h':Heap}{t':Nat}{c:HO}(I:Inv X Ab σ H s)(i:Mut (H a))(h:Heap.SameBut a s.heap h')(f:∃q,h'.get? a=some q)(d:ObjOk X.prog X.w (Ag H a c) h' a c):
  Inv X Ab σ (Ag H a c) {s with heap:=h',toks:=t'}:=
 I.write (x:=a) (e:=a) i (.inl rfl) (λb q g z=>(h.2 b g).trans z) f d
theorem qO6 {P:B15}{w:World}{H':Hp}{h':Heap}{Af:List (Key×V)}{vs:List (Key×Value)}(z:Af.length<=B14)(c:(a==B35)=false)(b:KV Af vs)(d:h'.DictOf (qB0 P w) a vs):
  ObjOk P w H' h' a (.dK Af):=⟨z,c,vs,b,d⟩
theorem qWX {H':Hp}{Q:Unit->Shared->Prop}(hu:A.units+1<cLine)(I:Inv X Ab σ H s)(g:DPut H a y v H')(ry:RelV y u)(rv:RelV v r)(h:∀s',Inv X Ab σ H' s'->Q () s'):
  wpAny (model X.prog X.w) A (setItem (.ref a) u r) Q E s:=by
 rcases g with⟨i,k,e,j,l,p⟩|⟨i,k,b,e,j,eb,l,p⟩
 ·subst j p;obtain⟨z,n,vs,d,t⟩:=qQE I.hok e;have x:vs.length<=B14:=by rw[<- d.length];exact z
  have m:(putK i k v).length<=B14:=by have:=qCM i k v;lia
  refine wpAny_setItem_pairs (hsz:=x) (qNU ry) t λh' f o=>h _ ?_;have he:∃q,h'.get? a=some q:=let⟨q,_,_,hq,_⟩:=f;⟨q,hq⟩
  exact qHZ I (by rw[e];exact R8) o he (qO6 m n (d.put k rv) f)
 ·subst j p;cases(show u=E2 b from ry);obtain⟨z,n,xs,d,t⟩:=qeI I.hok e;have x:xs.length<=B14:=by rw[<- B6 d];exact z
  have m:(putK i k v).length<=B14:=by have:=qCM i k v;lia
  refine wpAny_setItem_heap (hsz:=x) (B75 hu) (qL7 I.hok eb) t λh' f o=>h _ ?_;obtain⟨q,es,ep,hq,h2,h3,h4,_,h5⟩:=f;refine qHZ I (by rw[e];exact R8) o ⟨q,hq⟩ ⟨m,n,_,(d.put k eb rv).keeps λc ys ec=>?_,q,es,ep,hq,h2,h3,h4,h5⟩
  rw[qA8 (qCC ec e (λz=>nomatch z))];exact ec
end
section
variable{X:Cx}{Ab:List (Addr×Obj)}{σ:St}{H:Hp}{s:Shared}{a:Addr}{Af:List (Key×V)}{k:Key}{u:Value}{A:Around}{E:Value->Shared->Prop}
theorem qeJ {Q:Unit->Shared->Prop}(I:Inv X Ab σ H s)(e:H a=some (.dK Af))(n:RelV (kV k) u)(l:(valV Af k).isSome=true)(h:∀s',Inv X Ab σ (Ag H a (.dK (qO4 Af k))) s'->Q () s'):
  wpAny (model X.prog X.w) A (delItem (.ref a) u) Q E s:=by
 obtain⟨z,i,m,b,d⟩:=qQE I.hok e;refine wpAny_delItem_slot d.typeIs (by decide) n0
  (call_meetsIn n0 d.typeIs PySem.F.entry_dict_delitem (PySem.F.args_dict_delitem_2 _ _) (meets_dict_delitem_pairs (qB0 X.prog X.w) a (qNU n)) ⟨m,d,by rw[<- b.length];exact z,by rw[<- (b.val k).isSome_eq];exact l,λg c j=>h _ ?_⟩)
 have f:∃q,g.get? a=some q:=let⟨q,_,_,hq,_⟩:=c;⟨q,hq⟩
 exact qHZ I (by rw[e];exact R8) j f (qO6 (F2 (qS0 Af k) z) i (b.drop k) c)
theorem qg5 {v:V}{b:List Value}{Q:Value->Shared->Prop}(I:Inv X Ab σ H s)(e:H a=some (.dK Af))(g:RelV (kV k) u)(l:valV Af k=some v)(j:b=[]\/∃x,b=[x])
  (h:∀w' s',Inv X Ab σ (Ag H a (.dK (qO4 Af k))) s'->RelV v w'->Q w' s'):wpAny (model X.prog X.w) A (call (.builtin "dict.pop") (.ref a::u::b)) Q E s:=by
 obtain⟨z,hd,m,c,n⟩:=qQE I.hok e;obtain⟨w',hw,f⟩:=RelO.some_of (v:=v) (o:=valueAt m k) (by rw[<- l];exact c.val k)
 have hp:(keyPart u).isSome=true:=by
  cases k with
  |inl i=>obtain⟨t,q⟩:=(show∃t,u=O6 i t from g);subst q;rfl
  |inr x=>obtain⟨t,q⟩:=(show∃t,u=A37 x t from g);subst q;rfl
 have y:argsOk "dict.pop" ⟨.ref a::u::b,[]⟩:=by
  rcases j with q|⟨x,q⟩
  ·subst q;exact PySem.F.args_dict_pop_2 _ _
  ·subst q;exact PySem.F.args_dict_pop_3 _ _ _
 refine call_meetsIn A04 n.typeIs PySem.F.entry_dict_pop y (meets_dict_pop_there (qB0 X.prog X.w) a (qNU g) b j hp)
  ⟨m,w',n,by rw[<- c.length];exact z,hw,λr d hs=>h w' _ ?_ f⟩
 have p:∃q,r.get? a=some q:=let⟨q,_,_,hq,_⟩:=d;⟨q,hq⟩
 exact qHZ I (by rw[e];exact R8) hs p (qO6 (F2 (qS0 Af k) z) hd (c.drop k) d)
end
def NoSl (i:Expr):Prop:=∀ov iv,subscripted i false ov iv=operate [ov,iv] (getItem ov iv)
theorem qb9 {prog:B15}{w:World}{A:Around}{E:Value->Shared->Prop}{s:Shared}{env:Env}{b a:Expr}{pos:Pos}{T id:String}{Q:Value->Shared->Prop}
  (j:typeLookup (.type T) "__getitem__" = pure (some (.builtin id))) (k:NoSl a)
  (h:wpAny (model prog w) A (eval b env) (λo s₁=>wpAny (model prog w) A (eval a env) (λi s₂=>s₂.TypeIs o T/\wpAny (model prog w) A (getItem o i) Q E s₂) E s₁) E s):
  wpAny (model prog w) A (eval (.Subscript b a pos) env) Q E s:=by
 refine Subscript_ (B23 h (λo s₁ l=>B23 l (λi s₂ d=>?_) λ_ _ x=>x) λ_ _ x=>x);obtain⟨e,d⟩:=d;unfold subscriptTail;refine B12 ?_;rw[getitemInPython_of_ne e.not_modules];refine B12 (wpAny_specialOf e j ?_);have c:wpAny (model prog w) A (subscripted a false o i) (λr f=>wpAny (model prog w) A (letTemporaryGo b o r >>= λ_=>pure r) Q E f) E s₂:=by
  rw[k o i];exact wpAny_operating (B23 d (λr f g=>B12 (wpAny_letTemporaryGo (B13 g))) λ_ _ x=>x)
 first
  |exact B13 (B12 c)
  |exact B12 (B13 (B12 c))
  |exact B12 c
theorem qQF {X:Cx} {Ab:List (Addr×Obj)} {σ:St} {H:Hp} {s:Shared} {a:Addr} {y:V} {o:Option V} (I:Inv X Ab σ H s) (g:DGet H a y o):s.TypeIs (.ref a) "dict":=by
 rcases g with⟨d,k,e,_,_⟩|⟨d,k,b,e,_,_,_⟩
 ·obtain⟨_,_,h,_,c⟩:=qTJ I.hok e;exact c.typeIs
 ·obtain⟨_,_,f,_,c⟩:=qTI I.hok e;exact c.typeIs
def qf7 (td ty:TE):TE:=λσ H Q=>td σ H λx H1=>ty σ H1 λy H2=>∃a v,x=.ref a/\DGet H2 a y (some v)/\Q v H2
def tDIn (ty td:TE):TE:=λσ H Q=>ty σ H λy H1=>td σ H1 λx H2=>∃a o,x=.ref a/\DGet H2 a y o/\Q (.bl o.isSome) H2
def qb8 (ty td:TE):TE:=λσ H Q=>ty σ H λy H1=>td σ H1 λx H2=>∃a o,x=.ref a/\DGet H2 a y o/\Q (.bl (!o.isSome)) H2
def qfC (td ty tv:TE):TS:=λD σ H=>tv σ H λv H1=>td σ H1 λx H2=>ty σ H2 λy H3=>∃a H4,x=.ref a/\DPut H3 a y v H4/\D.nx σ H4
section
variable{X:Cx}{o i e value:Expr}{pos pos' tpos:Pos}{td ty tv:TE}
theorem qCE (j:X.A.units+1<cLine)(d:PE X o td)(hi:PE X i ty)(f:NoSl i):PE X (.Subscript o i pos) (qf7 td ty):=by
 intro c s σ H Q I h;refine qb9 PySem.F.slot_dict_getitem.lookup f (thn (d c s σ H _ I h) λu s1 ⟨x,H1,I1,rx,q1⟩=>thn (hi c s1 σ H1 _ I1 q1) λiv s2 ⟨y,H2,I2,ry,a,v,ex,g,q2⟩=>?_);subst ex;obtain rfl:u=E2 a:=rx;exact⟨qQF I2 g,qWY j I2 g ry λl k e b=>⟨v,H2,e,b,q2⟩⟩
theorem qUQ (e:X.A.units+1<cLine)(hi:PE X i ty)(c:PE X o td):PC X .In i o (tDIn ty td):=by
 intro b s σ H Q I h;refine thn (hi b s σ H _ I h) λiv s1 ⟨y,H1,I1,ry,q1⟩=>thn (c b s1 σ H1 _ I1 q1) λu s2 ⟨x,H2,I2,rx,a,ov,ex,g,q2⟩=>?_;subst ex;obtain rfl:u=E2 a:=rx;exact d_in e I2 g ry λf d=>⟨.bl ov.isSome,H2,d,rfl,q2⟩
theorem qGU (e:X.A.units+1<cLine)(hi:PE X i ty)(c:PE X o td):PC X .NotIn i o (qb8 ty td):=by
 intro b s σ H Q I h;refine thn (hi b s σ H _ I h) λiv s1 ⟨y,H1,I1,ry,q1⟩=>thn (c b s1 σ H1 _ I1 q1) λu s2 ⟨x,H2,I2,rx,a,ov,ex,g,q2⟩=>?_;subst ex;obtain rfl:u=E2 a:=rx;exact qcK e I2 g ry λf d=>⟨.bl (!ov.isSome),H2,d,rfl,q2⟩
theorem qE4 (j:X.A.units+1<cLine)(c:PE X o td)(hi:PE X i ty)(d:PE X value tv)(e:swapsWith value (some (.Subscript o i pos')) pos.line X.env=pure false):
  PS X (.Assign [.Subscript o i pos'] value pos) (qfC td ty tv):=by
 intro b s σ H D I h;refine wpAny_Assign_Subscript (thn (d b s σ H _ I h) λr s1 ⟨v,H1,I1,rv,q1⟩=>thn (c b s1 σ H1 _ I1 q1) λu s2 ⟨x,H2,I2,rx,q2⟩=>thn (hi b s2 σ H2 _ I2 q2) λiv s3 ⟨y,H3,I3,ry,a,H4,ex,g,q3⟩=>?_) e;subst ex;obtain rfl:u=E2 a:=rx;exact qWX j I3 g ry rv λk f=>⟨σ,H4,f,q3⟩
end
theorem qS1 {P:B15} {w:World} {H:Hp} (h:Heap) (a:B35<h.objs.size):ObjOk P w H (h.push {cls:=.type "dict",data:=.dict #[]}) h.objs.size (.dK []):=
 ⟨D9 _,beq_eq_false_iff_ne.mpr (G4 (D1 a)),[],.nil,A73 h⟩
theorem qZQ {P:B15} {w:World} {H:Hp} (h:Heap) (a:B35<h.objs.size):ObjOk P w H (h.push {cls:=.type "dict",data:=.dict #[]}) h.objs.size (.dT []):=
 ⟨D9 _,beq_eq_false_iff_ne.mpr (G4 (D1 a)),[],.nil,_,#[],0,B5 _ rfl,⟨rfl,rfl,rfl⟩,rfl,rfl,n6⟩
def qd7:TE:=λ_ H Q=>∀p,H p=none->Q (.ref p) (Ag H p (.dK []))
section
variable{X:Cx}{pos:Pos}
theorem qGT:PE X (.Dict [] [] pos) qd7:=λb s σ H Q I h=>
 wpAny_Dict_empty ⟨.ref s.heap.objs.size,_,I.laid (a:=s.heap.objs.size) (o:=.dK []) (t':=s.toks) (λ_ _ q=>A6 _ q) (A7 _) (qS1 s.heap I.big),rfl,h _ (I.hok.fresh (A7 _))⟩
end
def qTW:List (TE×TE)->St->Hp->(List (V×V)->Hp->Prop)->Prop
 |[],_,H,Q=>Q [] H
 |(tk,tv)::r,σ,H,Q=>tk σ H λx H1=>tv σ H1 λy H2=>qTW r σ H2 λps H3=>Q ((x,y)::ps) H3
abbrev VV:List (V×V)->List (Value×Value)->Prop:=Paired λp q=>RelV p.1 q.1/\RelV p.2 q.2
def PPs (X:Cx)(pos:Pos)(keys:List (Option Expr))(values:List Expr)(trs:List (TE×TE)):Prop:=
 ∀(Ab:List (Addr×Obj)) (s:Shared) (σ:St) (H:Hp) (Q:List (V×V)->Hp->Prop),Inv X Ab σ H s->qTW trs σ H Q->
  wpAny (model X.prog X.w) X.A (evalPairs (pairTrees keys values X.env pos)) (λvs s'=>∃ps H',Inv X Ab σ H' s'/\VV ps vs/\Q ps H') X.xe s
theorem qUG {X:Cx}{pos:Pos}:PPs X pos [] [] []:=λa s σ H Q I h=>pairTrees_nil_walk ⟨[],H,I,.nil,h⟩
theorem qM6 {X:Cx}{pos:Pos}{k v:Expr}{ks:List (Option Expr)}{vs:List Expr}{tk d:TE}{a:List (TE×TE)}(g:PE X k tk)(i:PE X v d)(f:PPs X pos ks vs a):
  PPs X pos (some k::ks) (v::vs) ((tk,d)::a):=λb s σ H Q I h=>
 pairTrees_cons_walk (thn (g b s σ H _ I h) fun u s1 ⟨x,H1,I1,rx,q1⟩=>thn (i b s1 σ H1 _ I1 q1) fun w2 s2 ⟨y,H2,I2,ry,q2⟩=>
  thn (f b s2 σ H2 _ I2 q2) λws s3 ⟨ps,H3,I3,rel,q3⟩=>⟨(x,y)::ps,H3,I3,.cons ⟨rx,ry⟩ rel,q3⟩)
noncomputable def qG5 (Af more:List (Key×V)):List (Key×V):=more.foldl (λc e=>putK c e.1 e.2) Af
theorem KV.merge:∀{more:List (Key×V)} {rs:List (Key×Value)} {Af:List (Key×V)} {vs:List (Key×Value)},KV more rs->KV Af vs->KV (qG5 Af more) (merged vs rs):=by
 intro more rs Af vs r;unfold KV at r
 induction r generalizing Af vs with
 |nil=>intro q;exact q
 |@cons p q ps qs h t ih=>
  intro a;have e:KV (putK Af p.1 p.2) (stored vs q.1 q.2):=by
   have:=a.put p.1 h.2;rw[<- h.1];exact this
  exact ih e
theorem qGY:∀(more Af:List (Key×V)),(qG5 Af more).length<=Af.length+more.length
 |[],Af=>by show Af.length<=Af.length+0;lia
 |p::r,Af=>by
  have h1:=qGY r (putK Af p.1 p.2);have h2:=qCM Af p.1 p.2;show(qG5 (putK Af p.1 p.2) r).length<=_;rw[C3];lia
theorem qLF {P:B15}{w:World}:∀{Af:List (Key×V)} {ws:List (Value×Value)},VV (Af.map λkv=>(kV kv.1,kv.2)) ws->∃rs,Carries (qB0 P w) ws rs/\KV Af rs
 |[],_,r=>by rw[A02] at r;cases r;exact⟨[],R8,.nil⟩
 |p::Af,_,r=>by
  rw[C7] at r;cases r with
  |@cons a b as bs h t=>
   obtain⟨rs,c,q⟩:=qLF (P:=P) (w:=w) t;obtain⟨b1,b2⟩:=b;exact⟨(p.1,b2)::rs,⟨qNU h.1,rfl,c⟩,.cons ⟨rfl,h.2⟩ q⟩
def qf6 (trs:List (TE×TE)):TE:=λσ H Q=>∀p,H p=none->qTW trs σ (Ag H p (.dK [])) λps H2=>H2 p=some (.dK [])/\∃Af:List (Key×V),ps=Af.map (λkv=>(kV kv.1,kv.2))/\Af.length<=15/\Q (.ref p) (Ag H2 p (.dK (qG5 [] Af)))
theorem qUP {X:Cx}{pos:Pos}{b:List (Option Expr)}{d:List Expr}{f:List (TE×TE)}(h:PPs X pos b d f)(i:b.all (·.isSome)=true)(t:b.length=d.length)(p:b≠[])
  (j:b.length<=15):PE X (.Dict b d pos) (qf6 f):=by
 intro Ab s σ H Q I q;have x:=I.hok.fresh (A7 s.heap.objs.size);have n:=I.laid (a:=s.heap.objs.size) (o:=.dK []) (h':=s.heap.push {cls:=.type "dict",data:=.dict #[]}) (t':=s.toks) (λ_ _ q=>A6 _ q) (A7 _) (qS1 s.heap I.big);refine wpAny_Dict_walk (knd:=qB0 X.prog X.w) i t p j (thn (h Ab _ σ _ _ n (q _ x)) λws s2 ⟨ps,H2,I2,rel,e,Af,ep,lk,q2⟩=>?_);subst ep;obtain⟨v,c,y⟩:=qLF (P:=X.prog) (w:=X.w) rel;obtain⟨z,u,a0,m,r⟩:=qQE I2.hok e;cases m;refine⟨v,c,r,λh' g hs=>⟨.ref s.heap.objs.size,_,?_,rfl,q2⟩⟩;have hz:(qG5 [] Af).length<=B14:=by
  have l:=qGY Af [];rw[J9] at l;rw[B16];lia
 have k:∃q,h'.get? s.heap.objs.size=some q:=let⟨q,_,_,hq,_⟩:=g;⟨q,hq⟩
 exact qHZ I2 (by rw[e];exact R8) hs k (qO6 hz u (y.merge .nil) g)
structure M1 (X:Cx)(o:Expr)(m:Str)(apos:Pos)(e:Expr)(cpos:Pos):Prop where
 base:B70 o m X.env (eval o X.env)=eval o X.env
 few:((backTo cpos (B17 [e] X.env)).all (fun x=>!x.1) && (backToKw cpos (B72 [] X.env)).all (fun x=>x.1.isSome)
  && decide (([e]:List Expr).length+([]:List B63).length+(if([]:List B63).isEmpty then 0 else 1)<30))=true
 line:(apos.endLine==cpos.line)=true
 trees:backTo cpos (B17 [e] X.env)=[(false,eval e X.env)]
structure M2 (X:Cx)(o:Expr)(m:Str)(apos:Pos)(e f:Expr)(cpos:Pos):Prop where
 base:B70 o m X.env (eval o X.env)=eval o X.env
 few:((backTo cpos (B17 [e,f] X.env)).all (fun x=>!x.1) && (backToKw cpos (B72 [] X.env)).all (fun x=>x.1.isSome)
  && decide (([e,f]:List Expr).length+([]:List B63).length+(if([]:List B63).isEmpty then 0 else 1)<30))=true
 line:(apos.endLine==cpos.line)=true
 trees:backTo cpos (B17 [e,f] X.env)=[(false,eval e X.env),(false,eval f X.env)]
def IsD (H:Hp)(a:Addr):Prop:=(∃Af,Rd H a (.dK Af))\/∃Af,Rd H a (.dT Af)
theorem qeA {X:Cx}{Ab:List (Addr×Obj)}{σ:St}{H:Hp}{s:Shared}{a:Addr}(I:Inv X Ab σ H s)(d:IsD H a):
  s.TypeIs (.ref a) "dict"/\(∀b,E2 a=.ref b->∃ob,s.heap.get? b=some ob/\ob.dict=none)/\(a==B35)=false:=by
 rcases d with⟨i,e⟩|⟨i,e⟩
 ·obtain⟨_,h,k,_,c⟩:=qTJ I.hok e;refine⟨c.typeIs,λb q=>?_,h⟩;cases q;obtain⟨ob,_,_,g,f,_⟩:=c;exact⟨ob,g,f.2.1⟩
 ·obtain⟨_,h,j,_,c⟩:=qTI I.hok e;refine⟨c.typeIs,λb q=>?_,h⟩;cases q;obtain⟨ob,_,_,g,f,_⟩:=c;exact⟨ob,g,f.2.1⟩
def qd6 (td ty:TE):TE:=λσ H Q=>td σ H λx H1=>∃a,x=.ref a/\IsD H1 a/\ty σ H1 λy H2=>∃Af k v,H2 a=some (.dK Af)/\y=kV k/\valV Af k=some v/\Q v (Ag H2 a (.dK (qO4 Af k)))
section
variable{X:Cx}{o e f:Expr}{apos cpos:Pos}{td ty tx:TE}
theorem qYF (f:PE X o td) (g:PE X e ty) (m:M1 X o "pop" apos e cpos):PE X (.Call (.Attribute o "pop" apos) [e] [] cpos) (qd6 td ty):=by
 intro c s σ H Q I h;refine wpAny_Call_method m.base m.few m.line t9 A04 PySem.F.type_dict_pop (thn (f c s σ H _ I h) λu s1 ⟨x,H1,I1,rx,a,ex,d,q1⟩=>?_);subst ex;obtain rfl:u=E2 a:=rx;obtain⟨i,j,_⟩:=qeA I1 d;refine⟨i,j,?_⟩;rw[m.trees];refine W8 rfl (f9 (A42 (thn (g c s1 σ H1 _ I1 q1) λiv s2 ⟨y,H2,I2,ry,Af,k,v,ea,ey,l,q2⟩=>A56 ?_)));subst ey;exact qg5 I2 ea ry l (.inl rfl) λq p n b=>⟨v,_,n,b,q2⟩
end
section
variable{κ:Type}[DecidableEq κ]
theorem qJN:∀{l:List κ} {k:κ},l.Nodup->¬k∈l->(l++[k]).Nodup
 |[],k,_,_=>by simp
 |a::r,k,h,hk=>by
  obtain⟨h1,h2⟩:=L4.mp h;show(a::(r++[k])).Nodup;refine L4.mpr ⟨λm=>?_,qJN h2 λm=>hk (B7.mpr (g8 m))⟩;rcases B4.mp m with q|q
  ·exact h1 q
  ·exact hk (B7.mpr (E1 (A5.mp q).symm))
end
def noX:Value->Shared->Prop:=λ_ _=>False
noncomputable def qH8 (env:Env):List (Str×B66)->List (Str×Addr)->List (Str×Addr)
 |[],acc=>acc
 |(n,k)::r,acc=>qH8 env r (if(k==J7)=true then(n,(env.cells.lookup n).getD 0)::acc else acc)
theorem qFH {env:Env}:∀{names:List (Str×B66)} {acc:List (Str×Addr)},(∀x,(x,J7)∈names->∃c,env.cells.lookup x=some c)->(∀x c,acc.lookup x=some c->env.cells.lookup x=some c)->
  ∀x c,(qH8 env names acc).lookup x=some c->env.cells.lookup x=some c
 |[],acc,_,ha,x,c,h=>ha x c h
 |(n,k)::r,acc,hf,ha,x,c,h=>by
  refine qFH (names:=r) (λy hy=>hf y (A9 _ hy)) (λy d hd=>?_) x c h
  split at hd
  ·rename_i hk
   have hk':k=J7:=by simpa using hk
   subst hk';obtain⟨e,he⟩:=hf n C5;by_cases hyn:y=n
   ·subst hyn;rw[R0,he] at hd;rw[he];exact hd
   ·rw[Y2,beq_eq_false_iff_ne.mpr hyn] at hd;exact ha y d hd
  ·exact ha y d hd
theorem qFI {env:Env}:∀{names:List (Str×B66)} {acc:List (Str×Addr)} {x:Str},((x,J7)∈names\/∃c,acc.lookup x=some c)->∃c,(qH8 env names acc).lookup x=some c
 |[],acc,x,h=>by
  rcases h with h|h
  ·exact absurd h (by simp)
  ·exact h
 |(n,k)::r,acc,x,h=>by
  refine qFI (names:=r) ?_;rcases h with h|⟨c,h⟩
  ·rcases B7.mp h with e|h
   ·cases e;refine .inr ⟨(env.cells.lookup n).getD 0,?_⟩;rw[if_pos (by rfl),R0]
   ·exact .inl h
  ·refine .inr ?_
   split
   ·by_cases hyn:x=n
    ·subst hyn;exact⟨_,R0⟩
    ·refine⟨c,?_⟩;rw[Y2,beq_eq_false_iff_ne.mpr hyn];exact h
   ·exact⟨c,h⟩
theorem qK7 {env:Env}(f:Str×B66->List (Str×Addr)->Sem (ForInStep (List (Str×Addr))))
  (hf:∀n k c,f (n,k) c=(if(k==J7)=true then(do let a <- cellOf env n;pure (O3 ((n,a)::c))) else pure (O3 c))):
  ∀(names:List (Str×B66)) (acc:List (Str×Addr)),(∀x,(x,J7)∈names->∃c,env.cells.lookup x=some c)->forIn names acc f=(pure (qH8 env names acc):Sem _)
 |[],acc,_=>rfl
 |(n,k)::r,acc,h=>by
  have ih:=λacc=>qK7 f hf r acc λx hx=>h x (A9 _ hx);rw[A05,hf];by_cases hk:(k==J7)=true
  ·have hk':k=J7:=by simpa using hk
   subst hk';obtain⟨c,hc⟩:=h n C5;rw[if_pos hk];unfold cellOf qH8;rw[hc,if_pos hk];exact ih _
  ·rw[if_neg hk];unfold qH8;rw[if_neg hk];exact ih _
theorem qI0 {a:Scope}{env:Env}(h:∀x,(x,J7)∈a.names->∃c,env.cells.lookup x=some c):closureFor a env=pure (qH8 env a.names []):=by
 unfold closureFor;dsimp only;rw[qK7 (env:=env) _ (λn k c=>?_) a.names [] h]
 ·rfl
 ·rfl
theorem qE3 {env:Env}{x:Str}:∀{names:List (Str×B66)},
  (names.map λ(n,k)=>if(k==J7&&env.scope.kind == .function&&env.kindOf n==some .cell)=true then(n,A98) else(n,k)).lookup x =
   (names.lookup x).map λk=>if(k==J7&&env.scope.kind == .function&&env.kindOf x==some .cell)=true then A98 else k
 |[]=>rfl
 |(n,k)::r=>by
  have ih:=@qE3 env x r;rw[C7];by_cases hx:x=n
  ·subst hx;dsimp only;rw[R0 (b:=k),T1]
   split
   ·rw[R0]
   ·rw[R0]
  ·have hb:(x==n)=false:=beq_eq_false_iff_ne.mpr hx;dsimp only;rw[Y2 (k:=n) (b:=k),hb];dsimp only;rw[<- ih]
   split
   ·rw[Y2,hb]
   ·rw[Y2,hb]
structure LcZ where
 L:Addr
 cl:List (Str×Addr)
 ex:List Addr
 s₀:Shared
 H₀:Hp
noncomputable def lcCx (X:Cx)(scope:Scope)(own:List Str)(fv:List Nat)(z:LcZ):Cx where
 prog:=X.prog
 w:=X.w
 K:=X.K
 mg:=X.mg
 base:=X.base
 A:=X.A
 N:=own++fv.map λi=>X.N.getD i R3
 s₀:=z.s₀
 H₀:=z.H₀
 env:=compEnvC scope z.cl z.L X.env
 outer:=X.stack
 stack:=X.stack
 ex:=z.ex
 fn:=λ_=>false
 calm:=X.calm
 pn:=[]
 xe:=noX
structure LcScope (X:Cx)(scope:Scope)(own:List Str)(fv:List Nat):Prop where
 kind:scope.kind=.function
 nocell:∀y∈scope.names,y.2≠.cell
 names:∀y∈scope.names,y.2=.local->scope.names.lookup y.1=some .local
 free:∀y∈scope.names,y.2=.free->X.env.kindOf y.1=some .cell\/X.env.kindOf y.1=some .free
 nd:(own++fv.map λi=>X.N.getD i R3).Nodup
 fvs:∀i∈fv,i<X.N.length/\scope.names.lookup (X.N.getD i R3)=some .free
noncomputable def qJR (own:List Str)(fv:List Nat)(σ:St):St:=(own.map λ_=>none)++fv.map λi=>(σ[i]?).join
theorem qOA {prog:B15}{w:World}{A:Around}{R:Result->Shared->Prop}{s:Shared}{g a e:Expr}{f:List Expr}{d:Scope}{pos:Pos}{j acc:Value}{env:Env}(I:Nat->Shared->Prop)
  (i:∀ n s,I n s->wpAny (model prog w) A (pyNext j) (fun r s₁=>match r with
   |none=>R (.ok .next) s₁
   | some v=>wpAny (model prog w) A (B89 a j v) (fun _ s₁=>wpAny (model prog w) A (assign a env v) (fun _ s₂=>
     wpAny (model prog w) A (forIn f true fun c r=>if r=true then do let ok <- isTrue c env (eval c env);pure (O3 ok) else pure (O3 r)) (fun ok s₃=>
      if ok=true then wpAny (model prog w) A (eval g env) (fun x s₄=>
       wpAny (model prog w) A (call (.builtin "list.append") [acc,x]) (λ_ s₅=>∃m,m<n/\I m s₅) noX s₄) noX s₃
      else∃m,m<n/\I m s₃) noX s₂) noX s₁) noX s₁) noX s)
  (n:Nat) (h:I n s):
  B47 (model prog w) A (.compLoop (.ListComp g [⟨a,e,f,0⟩] d pos) 0 j acc env) R s:=by
 refine codeAny_loop rfl I (λn s q=>?_) n h;show wpAny _ A ((compTurn (.ListComp g [⟨a,e,f,0⟩] d pos) 0 j acc env).onRaise (λx=>do noteFrame x env;theTreesLotGoes x)) _ _ s
 refine wpAny_noted ?_;rw[compTurn_list];refine B12 (B69 (B12 (B23 (i n s q) (λr s₁ k=>?_) λ_ _ b=>b.elim)));cases r with
 |none=>exact B13 k
 |some v=>
  refine B12 (B23 k (λ_ s₁ k=>?_) λ_ _ b=>b.elim);refine B12 (B23 k (λ_ s₂ p=>B12 (B23 p (λok s₃ l=>?_) λ_ _ b=>b.elim)) λ_ _ b=>b.elim);cases ok with
  |false=>exact B13 ⟨rfl,l⟩
  |true=>
   exact B12 (B12 (B23 l (λx s₄ o=>B12 (B23 o (λ_ s₅ t=>B13 (B13 ⟨rfl,t⟩)) λ_ _ b=>b.elim)) λ_ _ b=>b.elim))
section
variable{X:Cx}{Ab:List (Addr×Obj)}{σ:St}{H:Hp}{s:Shared}
theorem Inv.other {h':Heap}{L:Addr}{n:Nat}(I:Inv X Ab σ H s)(a:X.s₀.heap.objs.size<=L)(h:H L=none)(f:L≠X.env.locals)(d:∀x c,X.env.cells.lookup x=some c->c≠L)(g:∀p∈X.pn++Ab,p.1≠L)
  (k:Heap.SameBut L s.heap h'):Inv X Ab σ H {s with heap:=h'}:=
 I.turned (t':=s.toks) (λb o a e=>(k.2 b a).trans e) h f (.inr a) d g
theorem qe0 {a:Scope}{own:List Str}{fv:List Nat}{m:List Addr}(I:Inv X Ab σ H s)(S:LcScope X a own fv)(i:∀b∈m,FpOk X Ab H b)(hsz:∀b∈m,b<s.heap.objs.size):
  (lcCx X a own fv ⟨s.heap.objs.size,qH8 X.env a.names [],m,s,H⟩).Ok:=by
 have l:∀x,(x,J7)∈a.names->∃c,X.env.cells.lookup x=some c:=λx h=>I.ok.has x (S.free _ h rfl);have g:=qFH (env:=X.env) (names:=a.names) (acc:=[]) l (λx c z=>by simp at z)
 refine⟨I.ok.mod,S.kind,I.ok.glob,I.ok.blt,A7 _,λx y c q p=>I.ok.inj x y c (g _ _ q) (g _ _ p),λx h=>?_,λx c h=>?_,I.ok.hd,I.ok.frames,.inl rfl,λb f=>⟨?_,λx c e=>?_⟩,I.bs,F2 I.ok.bsz I.sz,λb o e f=>?_,λb f j=>?_,I.stack,I.stkFree⟩
 ·refine qFI (.inl ?_);have d:(relabel a X.env).names.lookup x=some .cell\/(relabel a X.env).names.lookup x=some .free:=h;unfold relabel at d;rw[qE3] at d;cases e:a.names.lookup x with
  |none=>rw[e] at d;simp at d
  |some k=>
   have n:=J6 e;have r:=S.nocell _ n;rw[e] at d;simp only[T1,P2.injEq] at d;cases k with
   |free=>exact n
   |cell=>exact absurd rfl r
   |_=>simp at d
 ·cases h
 ·exact D1 (hsz b f)
 ·exact(i b f).2.2.2.2.1 x c (g _ _ e)
 ·rcases(i b f).2.2.2.1 with z|z
  ·exact I.ok.noex b o e z
  ·exact absurd (E4 (C0 (I.ok.bs b o e).1) z) (Q1 _)
 ·rcases B7.mp (I.stkSub b j) with z|z
  ·exact(i b f).2.1 z
  ·exact(i b f).2.2.1 z
theorem qYV {a:Scope}{own:List Str}{fv:List Nat}{fp:List Addr}{h₁:Heap}{tk:Nat}(I:Inv X Ab σ H s)(S:LcScope X a own fv)(hf:∀b∈fp,FpOk X Ab H b)(hsz:∀b∈fp,b<s.heap.objs.size)
  (a1:h₁.Ns s.heap.objs.size (λ_=>none)) (t:∀b o,s.heap.get? b=some o->h₁.get? b=some o):
  Inv (lcCx X a own fv ⟨s.heap.objs.size,qH8 X.env a.names [],fp,s,H⟩) [] (qJR own fv σ) H {s with heap:=h₁,toks:=tk}:=by
 have a0:∀x,(x,J7)∈a.names->∃c,X.env.cells.lookup x=some c:=λx hx=>I.ok.has x (S.free _ hx rfl);have h:=qFH (env:=X.env) (names:=a.names) (acc:=[]) a0 (λx c z=>by simp at z)
 refine⟨qe0 I S hf hsz,rfl,I.bare,Un.kept t,⟨_,a1,λi x v f d h3=>?_⟩,λx c e=>?_,I.hok.fresh (A7 _),λx c e=>I.freeC x c (h _ _ e),λp hp=>absurd (show p∈([]:List (Addr×Obj)) from hp) (by simp),I.hok.kept t,?_⟩
 ·have f:(own++fv.map λi=>X.N.getD i R3)[i]?=some x:=f;unfold qJR at d;have r:own.length<=i:=by
   apply Y1;intro r;rw[F6 (by simpa using r),C1] at d
   cases e:own[i]? with
   |none=>rw[e] at d;cases d
   |some z=>rw[e] at d;cases d
  rw[P8 (by simpa using r),A0,C1] at d
  rw[P8 r,C1] at f;cases e:fv[i-own.length]? with
  |none=>rw[e] at f;cases f
  |some j=>
   rw[e] at f d;have hj:=S.fvs j (B1 e);have f:X.N.getD j R3=x:=D0 f;have d:(σ[j]?).join=some v:=D0 d;have a2:σ[j]?=some (some v):=by
    cases q:σ[j]? with
    |none=>rw[q] at d;cases d
    |some y=>rw[q] at d;exact congrArg some d
   have hx:X.N[j]?=some x:=by
    rw[P9] at f;rw[A4 hj.1] at f ⊢;exact congrArg some f
   have n:a.names.lookup x=some .free:=f ▸ hj.2;have g:=J6 n;obtain ⟨m,hn,hl⟩:=id I.loc;have k:=S.free _ g rfl;obtain ⟨u,ru,lk⟩:=hl j x v hx a2 (by
    rcases k with z|z
    ·exact .inr (.inl z)
    ·exact .inr (.inr z))
   refine⟨u,ru,?_⟩;rcases lk with⟨z,_⟩|⟨_,c,e1,z⟩
   ·rcases k with y|y
    ·have l:X.env.kindOf x=some .cell:=y;rw[z] at l;cases l
    ·have l:X.env.kindOf x=some .free:=y;rw[z] at l;cases l
   ·obtain⟨c',e2⟩:=qFI (env:=X.env) (names:=a.names) (acc:=[]) (x:=x) (.inl g);have e3:=h _ _ e2;rw[e1] at e3;cases e3;obtain⟨o,w,hd⟩:=z;refine .inr ⟨?_,c,e2,o,t _ _ w,hd⟩;show(relabel a X.env).names.lookup x=some .cell\/(relabel a X.env).names.lookup x=some .free;unfold relabel;rw[qE3,n,T1]
    split
    ·exact .inl rfl
    ·exact .inr rfl
 ·obtain⟨v,o,w,hd⟩:=I.cell x c (h _ _ e);exact⟨v,o,t _ _ w,hd⟩
 ·unfold qJR;show _=(own++fv.map λi=>X.N.getD i R3).length;rw[A8,A8,A0,A0,A0]
theorem qc3 {a:Scope}{own:List Str}{fv:List Nat}{f:List Addr}{c:List (Addr×Obj)}{σ':St}{H':Hp}{g:Shared}{h:List (Str×Addr)}(I:Inv X Ab σ H s)(e:∀b∈f,FpOk X Ab H b)
  (J:Inv (lcCx X a own fv ⟨s.heap.objs.size,h,f,s,H⟩) c σ' H' g):Inv X Ab σ H' g:=
 I.call' (ch:=f) J.os J.base J.hok J.bare λb d=>⟨(e b d).2.2.2.1,(e b d).2.1,(e b d).2.2.2.2.1,(e b d).2.2.2.2.2⟩
end
def PTs (X:Cx)(ifs:List Expr)(t:TT):Prop:=
 ∀(Ab:List (Addr×Obj)) (s:Shared) (σ:St) (H:Hp) (Q:Bool->Hp->Prop),Inv X Ab σ H s->t σ H Q->
  wpAny (model X.prog X.w) X.A (forIn ifs true λc r=>if r=true then do let ok <- isTrue c X.env (eval c X.env);pure (O3 ok) else pure (O3 r)) (TP X Ab σ Q) X.xe s
def qeX:TT:=λ_ H Q=>Q true H
theorem qAY {X:Cx}:PTs X [] qeX:=λa s σ H Q I h=>wpAny_tests_nil ⟨H,I,h⟩
theorem qEJ {X:Cx}{c:Expr}{t:TT}(h:PT X c t):PTs X [c] t:=λb s σ H Q I a=>wpAny_tests_one (h b s σ H Q I a)
def qe1 (own:List Str)(fv:List Nat)(wi:TI)(g:TG)(tc:TT)(te:TE)(K:Addr->Hp->Prop):St->Hp->Prop:=λσ H=>wi σ H λJ H1=>∀p,H1 p=none->
 ∃W:Nat->Nat->St->Hp->Prop,(∃m,W 0 m (qJR own fv σ) (Ag H1 p (.lst [])))/\∀i m σ H,W i m σ H->
  (J.stop i H/\K p H)\/(J.go i H/\∃ N:St->Hp->Prop,(∀ σ' H',N σ' H'->∃ m',m'<m/\W (i+1) m' σ' H')/\∀ x H',J.yld i H x H'->g x σ H' fun σ2 H2=>tc σ2 H2 fun b H3=>
   if b=true then te σ2 H3 λy H4=>∃ys,H4 p=some (.lst ys)/\ys.length<B14/\N σ2 (Ag H4 p (.lst (ys++[y])))
   else N σ2 H3)
def tLc (own:List Str)(fv:List Nat)(wi:TI)(g:TG)(tc:TT)(te:TE):TE:=λσ H Q=>qe1 own fv wi g tc te (λp H'=>Q (.ref p) H') σ H
section
variable{X:Cx}{tg iter elt:Expr}{ifs:List Expr}{scope:Scope}{pos:Pos}{own:List Str}{fv:List Nat}{wi:TI}{g:TG}{tc:TT}{te:TE}
theorem qVN {Ab:List (Addr×Obj)}{s:Shared}{σ:St}{H:Hp}{K:Addr->Hp->Prop}{use:Option (Value->Sem Unit)}{Q:Value->Shared->Prop}{E:Value->Shared->Prop}(hc:X.calm=true)(S:LcScope X scope own fv)(hi:PI X tg iter wi)
  (hg:∀z,PG (lcCx X scope own fv z) tg g) (ht:∀z,PTs (lcCx X scope own fv z) ifs tc) (he:∀z,PE (lcCx X scope own fv z) elt te)
  (I:Inv X Ab σ H s) (h:qe1 own fv wi g tc te K σ H) (ah:∀e s,X.xe e s->E e s)
  (am:∀ (p:Addr) (L:Addr) (H':Hp) (s':Shared) (m:Str->Option Value),Inv X Ab σ H' s'->K p H'->s'.heap.Ns L m->X.s₀.heap.objs.size<=L->H' L=none->L ≠ X.env.locals->(∀ x c,X.env.cells.lookup x=some c->c ≠ L)->(∀ q ∈ X.pn++Ab,q.1 ≠ L)->
   compPost (model X.prog X.w) X.A E use Q (.ref p) L (.ok .next) s') (hs:∀x,B79 iter X.env x=pure x:=by intro _;rfl):
  wpAny (model X.prog X.w) X.A (comprehension (.ListComp elt [⟨tg,iter,ifs,0⟩] scope pos) scope X.env (firstIterPos [⟨tg,iter,ifs,0⟩] pos) (newList []) false (eval iter X.env) use) Q E s:=by
 have an:∀x,(x,J7)∈scope.names->∃c,X.env.cells.lookup x=some c:=λx hx=>I.ok.has x (S.free _ hx rfl);refine wpAny_comprehension_free rfl hs (qI0 an) S.kind S.names (B23 (hi Ab s σ H _ I h) (λv s1 h1=>B23 h1 (λap j h2=>?_) ah) ah);obtain⟨it,k,tn,J,H2,e,I2,T,aa,f2,q2⟩:=h2;subst e
 -- the list
 refine B25 ?_;have a2:H2 j.heap.objs.size=none:=I2.hok.fresh (A7 _);have I3:Inv X Ab σ (Ag H2 j.heap.objs.size (.lst [])) {j with heap:=j.heap.push {cls:=.type "list",dict:=none,data:=.seq ([]:List Value).toArray}}:=
  I2.laid (t':=j.toks) (λb u e=>A6 _ e) (A7 _) ⟨D9 _,[],0,.nil,B5 _ rfl⟩
 obtain⟨W,⟨m0,w0⟩,a8⟩:=q2 j.heap.objs.size a2;have ai:∀b∈k,b<j.heap.objs.size:=λb a=>by
  obtain⟨o,e,_⟩:=T.obj 0 _ aa b a;exact C0 e
 have f3:∀b∈k,FpOk X Ab (Ag H2 j.heap.objs.size (.lst [])) b:=λb a=>⟨by rw[qA8 (D1 (ai b a))];exact(f2 b a).1,(f2 b a).2⟩
 generalize hp:j.heap.objs.size=p at *;generalize hH3:Ag H2 p (.lst [])=H3 at *;have ao:tn 0 (j.heap.push {cls:=.type "list",dict:=none,data:=.seq ([]:List Value).toArray}):=T.keep _ _ _ aa λb _ o e=>A6 _ e;have aj:∀b∈k,b<(j.heap.push {cls:=.type "list",dict:=none,data:=.seq ([]:List Value).toArray}).objs.size:=λb a=>by
  rw[P1];have:=ai b a;rw[hp];exact M6 this
 generalize hs3:({j with heap:=j.heap.push {cls:=.type "list",dict:=none,data:=.seq ([]:List Value).toArray}}:Shared)=f at *;have ab:tn 0 f.heap:=by rw[<- hs3];exact ao
 have a6:∀b∈k,b<f.heap.objs.size:=by rw[<- hs3];exact aj
 -- the block's frame
 refine wpAny_newFunctionEnv S.nocell (by intro y hy;simp at hy) (λh₁ ae ad=>?_) S.kind
 have t:∀b o,f.heap.get? b=some o->h₁.get? b=some o:=λb o e=>ad.extBut b o (D1 (C0 e)) (A6 _ e);have J0:Inv (lcCx X scope own fv ⟨f.heap.objs.size,qH8 X.env scope.names [],k,f,H3⟩) [] (qJR own fv σ) H3 {f with heap:=h₁,toks:=f.toks+([]:List (Str×Value)).length}:=qYV I3 S f3 a6 ae t;have a7:=qe0 I3 S f3 a6;generalize hz:(⟨f.heap.objs.size,qH8 X.env scope.names [],k,f,H3⟩:LcZ)=z at *;have a0:tn 0 h₁:=T.keep _ _ _ ab λb _ o e=>t b o e;have a3:∀b∈k,H3 b=none:=λb a=>(f3 b a).1;have a1:∀{H':Hp},(∀b∈k,H' b=none)->∀b∈k,FpOk (lcCx X scope own fv z) [] H' b:=λhn b a=>by
  subst hz;refine⟨hn b a,(a7.exf b a).1,a7.exfs b a,.inl a,(a7.exf b a).2,λq hq=>absurd (show q∈([]:List (Addr×Obj)) from hq) (by simp)⟩
 have af:({newEnv scope f.heap.objs.size X.env.globals (qH8 X.env scope.names []) X.env.qual none .none (some X.env) B88 with scope:=relabel scope X.env}:Env)=(lcCx X scope own fv z).env:=by
  subst hz
  rfl
 have a5:∀sA:Shared,sA={f with heap:=h₁,toks:=f.toks+([]:List (Str×Value)).length}->B47 (model X.prog X.w) X.A (.compLoop (.ListComp elt [⟨tg,iter,ifs,0⟩] scope pos) 0 (.ref it) (.ref p) (lcCx X scope own fv z).env)
   (compPost (model X.prog X.w) X.A E use Q (.ref p) f.heap.objs.size) sA:=by
  rintro sA rfl;refine qOA (λn s'=>∃i σ' H',Inv (lcCx X scope own fv z) [] σ' H' s'/\tn i s'.heap/\(∀b∈k,H' b=none)/\W i n σ' H') ?_ m0 ⟨0,_,H3,J0,a0,a3,w0⟩;rintro n s4 ⟨i,σ4,H4,I4,a0,a3,w4⟩;rcases a8 i n σ4 H4 w4 with⟨ag,qn⟩|⟨go,Nx,ac,a9⟩
  ·refine thn (T.done (lcCx X scope own fv z) rfl rfl rfl hc i [] s4 σ4 H4 noX I4 (a1 a3) a0 ag) λr s5 ⟨hr,I5⟩=>?_;subst hr;subst hz;have I6:Inv X Ab σ H4 s5:=qc3 I3 f3 I5;obtain⟨m,hn,_⟩:=id I5.loc;have a4:=I3.fpOk (H':=H4) (b:=f.heap.objs.size) (A7 _) I5.free;refine am p f.heap.objs.size H4 s5 m I6 qn hn I3.sz a4.1 a4.2.1 a4.2.2.2.2.1 a4.2.2.2.2.2
  ·refine thn (T.item (lcCx X scope own fv z) rfl rfl rfl hc i [] s4 σ4 H4 noX I4 (a1 a3) a0 go) λr s5 ⟨u,hr,h5⟩=>?_;subst hr;refine thn h5 λ_ s6 ⟨x,H6,I6,r6,y6,st6,fr6⟩=>?_;have al:=I6.pinned (a1 fr6) (T.obj _ _ st6);have l:∀{σ7:St} {H7:Hp} {s7:Shared} {m':Nat},m'<n->Inv (lcCx X scope own fv z) ([]++qNH k s6.heap) σ7 H7 s7->W (i+1) m' σ7 H7->
     ∃m,m<n/\∃i σ' H',Inv (lcCx X scope own fv z) [] σ' H' s7/\tn i s7.heap/\(∀b∈k,H' b=none)/\W i m σ' H':=λ{σ7 H7 s7 m'} hm I7 w7=>by
    refine⟨m',hm,i+1,σ7,H7,I7.unpinned,T.keep _ _ _ st6 λb a o e=>(I7.pin (b,o) (F9 _ (F9 _ (qFU a e)))).1,λb a=>?_,w7⟩;obtain⟨o,e,d⟩:=T.obj _ _ st6 b a;exact(I7.pin (b,o) (F9 _ (F9 _ (qFU a e)))).2.1
   refine thn (hg z _ s6 σ4 H6 x u _ al r6 (a9 x H6 y6)) λ_ s7 ⟨σ7,H7,I7,q7⟩=>?_;refine thn (ht z _ s7 σ7 H7 _ I7 q7) λb s8 ⟨H8,I8,q8⟩=>?_;cases b with
   |false=>
    obtain⟨m',hm,w8⟩:=ac _ _ q8;exact l hm I8 w8
   |true=>
    refine thn (he z _ s8 σ7 H8 _ I8 q8) λv s9 ⟨y,H9,I9,r9,ys,ep,hl,w9⟩=>?_;refine thn (qC0 (X:=lcCx X scope own fv z) _ s9 σ7 H9 (.ref p) [y] (.ref p) [v] (λ_ H'=>Nx σ7 H') I9 rfl (.cons r9 .nil) ⟨p,ys,y,rfl,rfl,ep,hl,w9⟩) λ_ s10 ⟨_,H10,I10,_,q10⟩=>?_;obtain⟨m',hm,ak⟩:=ac _ _ q10;exact l hm I10 ak
 rw[af];exact codeAny_compStart_list (a5 _ rfl) (T.self _ _ _ _ _ a0 (a5 _ rfl))
theorem qC4 (t:X.calm=true)(S:LcScope X scope own fv)(hi:PI X tg iter wi)(r:∀z,PG (lcCx X scope own fv z) tg g)(j:∀z,PTs (lcCx X scope own fv z) ifs tc)(c:∀z,PE (lcCx X scope own fv z) elt te)
  (l:∀x,B79 iter X.env x=pure x:=by intro _;rfl):PE X (.ListComp elt [⟨tg,iter,ifs,0⟩] scope pos) (tLc own fv wi g tc te):=by
 intro w s σ H Q I h;rw[eval_ListComp];refine qVN (use:=none) (K:=λp b=>Q (.ref p) b) t S hi r j c I h (λ_ _ q=>q) (λp L b v m f q o e d i u k=>?_) l;exact⟨m,o,λy a=>⟨.ref p,b,f.other (n:=0) e d i u k a,rfl,q⟩⟩
theorem qPA {i:Nat}{x:Str}{b c:Pos}(hN:X.N.Nodup)(hx:X.N[i]?=some x)(r:X.env.scope.names.lookup x=some .local)(hc:X.calm=true)(S:LcScope X scope own fv)(hi:PI X tg iter wi)(hg:∀z,PG (lcCx X scope own fv z) tg g)
  (ht:∀z,PTs (lcCx X scope own fv z) ifs tc) (u:∀z,PE (lcCx X scope own fv z) elt te) (j:swapsWith (.ListComp elt [⟨tg,iter,ifs,0⟩] scope pos) (some (.Name x b)) c.line X.env=pure true)
  (hs:∀x,B79 iter X.env x=pure x:=by intro _;rfl):PS X (.Assign [.Name x b] (.ListComp elt [⟨tg,iter,ifs,0⟩] scope pos) c) (tAsg (tLc own fv wi g tc te) (qZH i)):=by
 intro Ab s σ H D I h;rw[exec_Assign_Name_used _ _ _ _ j];refine B12 (B69 (B12 ?_));show wpAny _ X.A (do let _ <- comprehension (.ListComp elt [⟨tg,iter,ifs,0⟩] scope pos) scope X.env _ (newList []) false (eval iter X.env) (some (assign (.Name x b) X.env))) _ _ s
 refine B12 (B23 (qVN (use:=some (assign (.Name x b) X.env)) (K:=fun p d=>D.nx (σ.set i (some (.ref p))) d) (Q:=fun _ l=>SP X Ab D .next l) (E:=X.xe) hc S hi hg ht u I h (fun _ _ q=>q) (fun p L d l m I' q hn h1 w o t h5=>?_) hs)
  (λ_ l hq=>B13 (B13 hq)) λ_ _ e=>e)
 show wpAny _ X.A (assign (.Name x b) X.env (.ref p)) _ _ _;refine wpAny_assign_Name (qN5 (v:=.ref p) I' hN hx (.inl r) rfl (λs2 I2 ⟨a,hsb,ha⟩=>?_) (.inr r));have k:L≠a:=by
  rcases ha with z|z
  ·rw[z];exact o
  ·exactλy=>t x a z y.symm
 exact⟨m,hn.sameBut hsb k,λh' f=>⟨_,d,I2.other (n:=0) h1 w o t h5 f,q⟩⟩
end
abbrev LcG (I:It)(g:TG)(tc:TT)(te:TE)(Kf:Hp->Prop)(σ0:St)(H0:Hp)(p:Addr):Prop:=∃W:Nat->Nat->St->Hp->Prop,(∃m,W 0 m σ0 H0)/\∀i m σ H,W i m σ H->(I.stop i H/\Kf H)\/(I.go i H/\∃N:St->Hp->Prop,(∀σ' H',N σ' H'->∃m',m'<m/\W (i+1) m' σ' H')/\∀x H',I.yld i H x H'->g x σ H' λσ2 H2=>tc σ2 H2 λb H3=>if b=true then te σ2 H3 λy H4=>∃ys,H4 p=some (.lst ys)/\ys.length<B14/\N σ2 (Ag H4 p (.lst (ys++[y]))) else N σ2 H3)
theorem qDZ {lo:Int}{n:Nat}{g:TG}{d:TT}{c:TE}{Kf:Hp->Prop}{σ0:St}{H0:Hp}{p:Addr}(Pv:Nat->St->Hp->Prop)(j:Pv 0 σ0 H0)
  (k:∀i σ H,i<n->Pv i σ H->g (.int (lo+i)) σ H λσ2 H2=>d σ2 H2 λb H3=>if b=true then c σ2 H3 λy H4=>∃ys,H4 p=some (.lst ys)/\ys.length<B14/\Pv (i+1) σ2 (Ag H4 p (.lst (ys++[y]))) else Pv (i+1) σ2 H3)
  (h:∀σ H,Pv n σ H->Kf H):
  LcG (Itr lo n) g d c Kf σ0 H0 p:=by
 refine⟨λi m σ H=>m=n-i/\i<=n/\Pv i σ H,⟨n,by simp,D9 _,j⟩,?_⟩
 rintro i m σ H ⟨rfl,hi,q⟩;by_cases a:i<n
 ·refine .inr ⟨a,Pv (i+1),λσ' f l=>⟨n-(i+1),by omega,rfl,a,l⟩,λx f y=>?_⟩
  obtain⟨e,y⟩:=y;subst e y;exact k i σ _ a q
 ·have e:i=n:=by omega
  subst e;exact .inl ⟨A7 _,h σ H q⟩
theorem qDO {K:PySem.W.Frag}{a:Addr}{xs:List V}{g:TG}{h:TT}{f:TE}{Kf:Hp->Prop}{σ0:St}{H0:Hp}{p:Addr}(Pv:Nat->St->Hp->Prop)(n:Pv 0 σ0 H0)(k:∀i σ H,i<=xs.length->Pv i σ H->SqL K H a xs)
  (o:∀i x σ H,xs[i]?=some x->Pv i σ H->g x σ H λσ2 H2=>h σ2 H2 λb H3=>if b=true then f σ2 H3 λy H4=>∃ys,H4 p=some (.lst ys)/\ys.length<B14/\Pv (i+1) σ2 (Ag H4 p (.lst (ys++[y]))) else Pv (i+1) σ2 H3)
  (l:∀σ H,Pv xs.length σ H->Kf H):
  LcG (Itl K a) g h f Kf σ0 H0 p:=by
 refine⟨λi m σ H=>m=xs.length-i/\i<=xs.length/\Pv i σ H,⟨xs.length,by simp,D9 _,n⟩,?_⟩
 rintro i m σ H ⟨rfl,hi,q⟩;have d:=k i σ H hi q;by_cases c:i<xs.length
 ·refine .inr ⟨⟨xs,xs[i],d,by simp[c]⟩,Pv (i+1),λσ' j r=>⟨xs.length-(i+1),by omega,rfl,c,r⟩,λx j y=>?_⟩
  obtain⟨e,y⟩:=y;subst e;exact o i x σ _ (y xs d) q
 ·have e:i=xs.length:=by omega
  subst e;exact .inl ⟨⟨xs,d,A7 _⟩,l σ H q⟩
theorem qD7 {K:PySem.W.Frag}{a:Addr}{xs:List V}{g:TG}{h:TT}{f:TE}{Kf:Hp->Prop}{σ0:St}{H0:Hp}{p:Addr}(Pv:Nat->St->Hp->Prop)(n:Pv 0 σ0 H0)(k:∀i σ H,i<=xs.length->Pv i σ H->SqT K H a xs)
  (o:∀i x σ H,xs[i]?=some x->Pv i σ H->g x σ H λσ2 H2=>h σ2 H2 λb H3=>if b=true then f σ2 H3 λy H4=>∃ys,H4 p=some (.lst ys)/\ys.length<B14/\Pv (i+1) σ2 (Ag H4 p (.lst (ys++[y]))) else Pv (i+1) σ2 H3)
  (l:∀σ H,Pv xs.length σ H->Kf H):
  LcG (Itt K a) g h f Kf σ0 H0 p:=by
 refine⟨λi m σ H=>m=xs.length-i/\i<=xs.length/\Pv i σ H,⟨xs.length,by simp,D9 _,n⟩,?_⟩
 rintro i m σ H ⟨rfl,hi,q⟩;have d:=k i σ H hi q;by_cases c:i<xs.length
 ·refine .inr ⟨⟨xs,xs[i],d,by simp[c]⟩,Pv (i+1),λσ' j r=>⟨xs.length-(i+1),by omega,rfl,c,r⟩,λx j y=>?_⟩
  obtain⟨e,y⟩:=y;subst e;exact o i x σ _ (y xs d) q
 ·have e:i=xs.length:=by omega
  subst e;exact .inl ⟨⟨xs,d,A7 _⟩,l σ H q⟩
noncomputable def qVO (scope:Scope)(own:List Str)(fv:List Nat)(osc:Scope)(N:List Str):Bool:=
 decide (scope.kind=.function)&&scope.names.all (λy=>decide (y.2≠.cell))&&scope.names.all (λy=>decide (y.2≠.local)||decide (scope.names.lookup y.1=some .local)) &&
 scope.names.all (λy=>decide (y.2≠.free)||(decide (osc.names.lookup y.1=some .cell)||decide (osc.names.lookup y.1=some .free)))&&decide ((own++fv.map λi=>N.getD i R3).Nodup) &&
 fv.all λi=>decide (i<N.length)&&decide (scope.names.lookup (N.getD i R3)=some .free)
theorem lcs {X:Cx}{a:Scope}{own:List Str}{fv:List Nat}(h:qVO a own fv X.env.scope X.N=true):LcScope X a own fv:=by
 unfold qVO at h;simp only[O4,decide_eq_true_eq,O5,Z3] at h;obtain⟨⟨⟨⟨⟨d,c⟩,f⟩,j⟩,g⟩,i⟩:=h;exact⟨d,c,λy b e=>(f y b).resolve_left λz=>z e,λy b e=>(j y b).resolve_left λz=>z e,g,i⟩
theorem qfQ {N:List Str}(h:decide N.Nodup=true):N.Nodup:=of_decide_eq_true h
theorem qPH {X:Cx}{K:PySem.W.Frag}{es:List Expr}{k n:Nat}{t:TGs}{pos:Pos}(d:X.K=K)(c:X.calm=true)(h:PGs X es t)(b:(B65 es X.env).length=n)(a:(B65 es X.env).findIdx? (·.1)=none):PG X (.Tuple es k pos) (gTup K n t):=by
 subst d b;exact qG4 c h rfl a
theorem qM8 {X:Cx}{K:PySem.W.Frag}{c l:Expr}{a:TE}(b:X.K=K)(d:PE X l a):PI X c l (iTup K a):=by subst b;exact qCJ d
theorem qEK {X:Cx}{K:PySem.W.Frag}(a:X.K=K):IxR X (rIxT K):=by subst a;exact qBI
theorem qMH {X:Cx}{K:PySem.W.Frag}(a:X.K=K):IxR X (rIxL K):=by subst a;exact qCF
theorem qV1 {X:Cx}{K:PySem.W.Frag}(a:X.K=K):OpR X (B28 .In) (rIn K false):=by subst a;exact qF4
theorem qOE {X:Cx} {K:PySem.W.Frag} (a:X.K=K):qCO X (.builtin "len") (λxs H Q=>∃p ys,xs=[.ref p]/\(SqL K H p ys\/SqT K H p ys)/\Q (.int ys.length) H):=by subst a;exact qAC
theorem qES {X:Cx} {K:PySem.W.Frag} (a:X.K=K):qCO X (.type "tuple") (λxs H Q=>∃p ys,xs=[.ref p]/\((SqL K H p ys/\∀l,H l=none->Q (.ref l) (Ag H l (.tup ys)))\/(SqT K H p ys/\Q (.ref p) H))):=by subst a;exact qAK
theorem qMV {xs:Array Nat}{j:Nat}(up:∀a b,a<b->b<xs.size->xs.getD a j<xs.getD b j):∀(fuel lo hi:Nat),lo<=hi->hi<=xs.size->hi-lo<=fuel->(∀i,i<lo->xs.getD i j<j)->(∀i,hi<=i->i<xs.size->j<=xs.getD i j)->
  b7 xs j fuel lo hi<=xs.size/\(∀i,i<b7 xs j fuel lo hi->xs.getD i j<j)/\(∀i,b7 xs j fuel lo hi<=i->i<xs.size->j<=xs.getD i j)
 |0,lo,hi,h1,h2,h3,a,b=>by
  have e:lo=hi:=by lia
  subst e;exact⟨h2,a,b⟩
 |fuel+1,lo,hi,h1,h2,h3,a,b=>by
  unfold b7;by_cases hlt:lo<hi
  ·rw[if_pos hlt];dsimp only;have hm1:lo<=(lo+hi)/2:=by lia
   have hm2:(lo+hi)/2<hi:=by lia
   by_cases hc:xs.getD ((lo+hi)/2) j<j
   ·rw[if_pos hc];refine qMV up fuel _ _ (by lia) h2 (by lia) (λi hi'=>?_) b
    by_cases e:i=(lo+hi)/2
    ·rw[e];exact hc
    ·exact Y8 (up i ((lo+hi)/2) (by lia) (by lia)) hc
   ·rw[if_neg hc];refine qMV up fuel _ _ (by lia) (by lia) (by lia) a (λi hi' hs=>?_)
    by_cases e:i=(lo+hi)/2
    ·rw[e];lia
    ·have:=up ((lo+hi)/2) i (by lia) hs
     lia
  ·rw[if_neg hlt];have e:lo=hi:=by lia
   subst e;exact⟨h2,a,b⟩
theorem qb4 {xs:Array Nat}(j:Nat)(h:xs.toList.Pairwise (·<·)):∀a b,a<b->b<xs.size->xs.getD a j<xs.getD b j:=λa b c d=>by
 have:=G7.mp h a b (by simpa using Y8 c d) (by simpa using d) c
 rw[F7,F7,E3 (Y8 c d),E3 d];simpa using this
theorem qI1 {xs:Array Nat}{j:Nat}(h:xs.toList.Pairwise (·<·)):E6 xs j<=xs.size/\(∀i,i<E6 xs j->xs.getD i j<j)/\(∀i,E6 xs j<=i->i<xs.size->j<=xs.getD i j):=by
 unfold E6;exact qMV (qb4 j h) xs.size 0 xs.size (D9 _) (A7 _) (by lia) (λi a=>absurd a (by lia)) (λi a b=>absurd b (by lia))
theorem qCG {α:Type}(xs:Array α)(p:Nat)(x:α):(F0 xs p x).toList=xs.toList.take p++x::xs.toList.drop p:=by
 unfold F0;simp[Array.toList_extract,E7]
structure T7 (byText:Bool)(t:B60)(n:Nat):Prop where
 mask:t.mask=7
 dum:t.dummies=#[]
 plain:t.plain=true
 led:t.led=!byText
 size:t.place.size=n
 up:t.place.toList.Pairwise (·<·)
 le:∀j∈t.place.toList,j<=7
section
variable{byText:Bool}{t:B60}{n:Nat}
theorem T7.slot (T:T7 byText t n)(j:Nat):(t.slot j=.empty/\j∉t.place.toList)\/(∃i,t.slot j=.live i/\j∈t.place.toList):=by
 unfold SetTable.slot;dsimp only;have h:B06 t.dummies j=false:=by rw[T.dum];rfl
 obtain⟨o,l,m⟩:=qI1 (j:=j) T.up;by_cases b:t.place[E6 t.place j]?=some j
 ·rw[if_pos (by rw[b];simp)]
  exact .inr ⟨_,rfl,by rw[<- Array.mem_def];exact Array.mem_of_getElem? b⟩
 ·rw[if_neg (by simpa using b),h,if_neg (by simp)]
  refine .inl ⟨rfl,λe=>?_⟩;obtain⟨i,k,c⟩:=X8.mp e;have a:i<t.place.size:=by simpa using k
  have g:t.place.getD i j=j:=by
   rw[F7,E3 a];simpa using c
  have f:¬i<E6 t.place j:=λz=>by have:=l i z;lia
  have d:E6 t.place j=i:=by
   apply Nat.le_antisymm (Y1 f);apply Y1;intro z;have:=m (E6 t.place j) (A7 _) (by lia)
   have:=qb4 j T.up _ _ z a
   lia
  apply b;rw[d,E3 a];simpa using c
def pr (i pt:Nat):SetTable.Probe:={j:=i,more:=0,i:=i,perturb:=pt,dummy:=none}
theorem T7.adv (T:T7 byText t n)(i a:Nat):t.advance (pr i a)=pr ((i*5+1+a/32)%8) (a/32):=by
 unfold SetTable.advance pr SetTable.leap A74;rw[T.mask];dsimp only;rw[if_neg (by lia),if_neg (by lia),Nat.sub_self]
theorem T7.go1 (T:T7 byText t n)(h:Int)(f i a:Nat):
  (R9 t (λ_=>h+1) h (f+1) (pr i a)=some (.empty i none)/\i∉t.place.toList)\/
  (R9 t (λ_=>h+1) h (f+1) (pr i a)=R9 t (λ_=>h+1) h f (pr ((i*5+1+a/32)%8) (a/32))/\i∈t.place.toList):=by
 rcases T.slot i with⟨e,m⟩|⟨k,e,m⟩
 ·left
  refine⟨?_,m⟩;unfold R9;rw[show(pr i a).j=i from rfl,e]
  rfl
 ·right
  refine⟨?_,m⟩;rw[R9];rw[show(pr i a).j=i from rfl,e];dsimp only;rw[if_neg (by simp;lia),T.adv]
def F8 (i:Nat):Nat:=(i*5+1)%8
def F8n:Nat->Nat->Nat
 |0,i=>i
 |m+1,i=>F8n m (F8 i)
theorem T7.go0 (T:T7 byText t n)(h:Int)(f:Nat):∀(m i:Nat),(∃j,R9 t (λ_=>h+1) h (m+f) (pr i 0)=some (.empty j none)/\j∉t.place.toList/\∃q,q<m/\j=F8n q i)\/(∀q,q<m->F8n q i∈t.place.toList)
 |0,i=>.inr λq hq=>absurd hq (by lia)
 |m+1,i=>by
  rcases T.go1 h (m+f) i 0 with⟨e,z⟩|⟨e,z⟩
  ·exact .inl ⟨i,by rw[show m+1+f=m+f+1 by lia];exact e,z,0,by lia,rfl⟩
  ·rw[show m+1+f=m+f+1 by lia,e]
   have e2:(i*5+1+0/32)%8=F8 i:=by unfold F8;lia
   rw[e2];rcases T.go0 h f m (F8 i) with⟨j,e3,z3,q,hq,e4⟩|e3
   ·exact .inl ⟨j,e3,z3,q+1,by lia,e4⟩
   ·refine .inr λq hq=>?_;cases q with
    |zero=>exact z
    |succ q=>exact e3 q (by lia)
theorem qeP:∀i:_root_.Fin 8,∀j:_root_.Fin 8,∃q:_root_.Fin 8,F8n q.1 i.1=j.1:=by decide
theorem qeO:∀(q i:Nat),i<8->F8n q i<8
 |0,i,h=>h
 |q+1,i,h=>qeO q (F8 i) (A13 _ (by decide))
theorem T7.goK (T:T7 byText t n)(hn:n<=7)(h:Int)(f:Nat):∀(k i pt:Nat),i<8->pt<32^k->∃j,R9 t (λ_=>h+1) h (k+(8+f)) (pr i pt)=some (.empty j none)/\j∉t.place.toList/\j<=7
 |0,i,pt,hi,hp=>by
  have e:pt=0:=by lia
  subst e;rw[A62];rcases T.go0 h f 8 i with⟨j,e,z,q,hq,e2⟩|e
  ·exact⟨j,e,z,by have:=qeO q i hi;lia⟩
  ·exfalso
   have sub:[0,1,2,3,4,5,6,7] ⊆ t.place.toList:=λj hj=>by
    have hj8:j<8:=by
     simp at hj
     lia
    obtain⟨q,hq⟩:=qeP ⟨i,hi⟩ ⟨j,hj8⟩;rw[<- show F8n q.1 i=j from hq];exact e q.1 q.2
   have:=V7 (by decide:[0,1,2,3,4,5,6,7].Nodup) sub
   have hs:=T.size;simp at this
   lia
 |k+1,i,pt,hi,hp=>by
  rw[show k+1+(8+f)=k+(8+f)+1 by lia]
  rcases T.go1 h (k+(8+f)) i pt with⟨e,z⟩|⟨e,z⟩
  ·exact⟨i,e,z,by lia⟩
  ·rw[e];refine T.goK hn h f k _ _ (A13 _ (by decide)) ?_
   rw[Nat.pow_succ] at hp
   lia
theorem T7.free (T:T7 byText t n)(f:n<=7)(h:Int):∃j,t.freeSlot h=some (j,false)/\j∉t.place.toList/\j<=7:=by
 have d:Z4 h<32^13:=by
  unfold Z4;have c:0<=h%(2^64:Int):=X0 _ (by decide)
  have b:h%(2^64:Int)<2^64:=U3 _ (by decide)
  have:((2:Int)^64)=18446744073709551616:=by decide
  rw[this] at c b ⊢;have g:(32:Nat)^13=36893488147419103232:=by decide
  lia
 obtain⟨j,e,z,l⟩:=T.goK f h 199 13 (Z4 h%8) (Z4 h) (A13 _ (by decide)) d
 refine⟨j,?_,z,l⟩;have a:t.probeStart h=pr (Z4 h%8) (Z4 h):=by
  unfold SetTable.probeStart pr A74;rw[T.mask];dsimp only;rw[if_neg (by lia),Nat.sub_self]
 unfold SetTable.freeSlot SetTable.probe;rw[a,show 10*SetTable.turns t.mask=13+(8+199) by rw[T.mask];rfl,e]
 rfl
theorem T7.lay (T:T7 byText t n)(hn:n<=3){es:Array (Int×Value)}(v:es.size=n)(h:Int)(x:Value):
  ∃p t',layNew t es h x=(F0 es p (h,x),t',false,false)/\T7 byText t' (n+1)/\t'.tooFull=false/\p<=es.size:=by
 obtain⟨j,e,z,l⟩:=T.free (by lia) h
 obtain⟨k,b2,b3⟩:=qI1 (j:=j) T.up;have y:B06 t.dummies j=false:=by rw[T.dum];rfl
 have q:(F0 t.place (E6 t.place j) j).toList=t.place.toList.take (E6 t.place j)++j::t.place.toList.drop (E6 t.place j):=qCG _ _ _;have m:(F0 t.place (E6 t.place j) j).size=n+1:=by
  rw[<- E5,q,A8,C3,C4,T9,E5,T.size];rw[T.size] at k
  lia
 have T':T7 byText {t with place:=F0 t.place (E6 t.place j) j,dummies:=t.dummies} (n+1):=by
  refine⟨T.mask,T.dum,T.plain,T.led,m,?_,?_⟩
  ·show(F0 t.place (E6 t.place j) j).toList.Pairwise (·<·);rw[q];have s:∀i,i<t.place.size->t.place.getD i j=t.place.toList.getD i j:=λi hi=>by
    rw[F7,P9,L6]
   have u:∀a∈t.place.toList.take (E6 t.place j),a<j:=λa f=>by
    obtain⟨i,hi,c⟩:=X8.mp f;rw[C4,E5] at hi;have o:i<E6 t.place j:=by lia
    have d:i<t.place.size:=by lia
    have:=b2 i o;rw[F7,E3 d] at this;rw[List.getElem_take] at c;rw[<- c];simpa using this
   have hi:∀a∈t.place.toList.drop (E6 t.place j),j<a:=λa f=>by
    have hm:a∈t.place.toList:=V2 f;obtain⟨i,hi,c⟩:=X8.mp f;rw[T9,E5] at hi;have d:E6 t.place j+i<t.place.size:=by lia
    have:=b3 _ (Nat.le_add_right _ i) d;rw[F7,E3 d] at this;rw[List.getElem_drop] at c;have w:j<=a:=by
     rw[<- c];simpa using this
    rcases Nat.lt_or_eq_of_le w with h4|h4
    ·exact h4
    ·exact absurd (h4▸hm) z
   refine g9.mpr ⟨T.up.sublist (X3 _ _),O0.mpr ⟨hi,T.up.sublist (A57 _ _)⟩,λa f b hb=>?_⟩;rcases B7.mp hb with e|hb
   ·rw[e];exact u a f
   ·exact Y8 (u a f) (hi b hb)
  ·show∀i∈(F0 t.place (E6 t.place j) j).toList,i<=7;rw[q];intro i hi;rcases B4.mp hi with hi|hi
   ·exact T.le i (M8 hi)
   ·rcases B7.mp hi with e|hi
    ·lia
    ·exact T.le i (V2 hi)
 have g:A44 {t with place:=F0 t.place (E6 t.place j) j,dummies:=t.dummies} (n+1)=true:=by
  unfold A44 A45;dsimp only;rw[m,T.dum,T.mask];have:((#[]:Array Nat)).size=0:=rfl;simp only[this,beq_self_eq_true,i8,decide_eq_true_eq]
  lia
 have r:(F0 es (E6 t.place j) (h,x)).size=n+1:=by
  rw[<- E5,qCG,A8,C3,C4,T9,E5];rw[T.size] at k
  lia
 refine⟨E6 t.place j,{t with place:=F0 t.place (E6 t.place j) j,dummies:=t.dummies},?_,T',?_,by rw[v,<- T.size];exact k⟩
 ·unfold layNew;rw[e];dsimp only;unfold SetTable.put;rw[y];dsimp only;rw[r];unfold SetTable.orStandIn;simp only[E8,if_false];rw[g];simp
 ·unfold SetTable.tooFull A45;dsimp only;rw[m,T.dum,T.mask];have:((#[]:Array Nat)).size=0:=rfl;rw[this];exact decide_eq_false (by lia)
end
theorem qLD {α:Type}:∀(l:List α) (i:Nat) (h:i<l.length),(l[i]::l.eraseIdx i).Perm l
 |[],i,h=>absurd h (by simp)
 |a::r,0,h=>.refl _
 |a::r,i+1,h=>by
  have hi:i<r.length:=by simpa using h
  have ih:=qLD r i hi;show(r[i]::a::r.eraseIdx i).Perm (a::r);exact(List.Perm.swap _ _ _).trans (ih.cons a)
theorem qUK {α:Type}(next:Nat->Nat):∀(fuel k:Nat) (left:List α) (out:Array α),fuel=left.length->(A63 next fuel k left out).toList.Perm (out.toList++left)
 |0,k,left,out,h=>by
  have:left=[]:=M7.mp h.symm;subst this;unfold A63;simp
 |fuel+1,k,left,out,h=>by
  have hl:0<left.length:=by lia
  have hm:next k%left.length<left.length:=A13 _ hl;unfold A63;rw[A4 hm];dsimp only;refine(qUK next fuel (k+1) _ _ (by rw[List.length_eraseIdx_of_lt hm];lia)).trans ?_
  rw[Array.toList_push,F3];exact A06 _ (qLD left _ hm)
theorem qUJ {α:Type}(next:Nat->Nat)(xs:Array α):(pickOrder next xs).toList.Perm xs.toList:=by
 unfold pickOrder;have:=qUK next xs.size 0 xs.toList #[] (by simp)
 simpa using this
abbrev Ents:List Int->List (Int×Value)->Prop:=Paired λk e=>∃tk,e=(B53 k,O6 k tk)
theorem Ents.perm:∀{es es':List (Int×Value)} {ks:List Int},Ents ks es->es'.Perm es->∃ks',Ents ks' es'/\ks'.Perm ks:=by
 intro es es' ks h p;have e:∀{a b:List (Int×Value)},a.Perm b->∀ks,Ents ks b->∃ks',Ents ks' a/\ks'.Perm ks:=by
  intro a b p
  induction p with
  |nil=>intro ks h;exact⟨ks,h,.refl _⟩
  |cons x p ih=>
   intro ks h;cases h with
   |cons r t=>
    obtain⟨ks',d,c⟩:=ih _ t;exact⟨_::ks',.cons r d,c.cons _⟩
  |swap x y l=>
   intro ks h;cases h with
   |cons r t=>
    cases t with
    |cons r' t'=>exact⟨_,.cons r' (.cons r t'),.swap _ _ _⟩
  |trans p q ih1 ih2=>
   intro ks h;obtain⟨f,d,c⟩:=ih2 ks h;obtain⟨i,g,j⟩:=ih1 f d;exact⟨i,g,j.trans c⟩
 exact e p ks h
theorem Ents.elems {prog:B15}{w:World}{es:List (Int×Value)}{ks:List Int}(h:Ents ks es):ElemsOf (B62 prog w) es:=by
 intro e a;have b:∀{ks:List Int} {es:List (Int×Value)},Ents ks es->∀e∈es,∃k tk,e=(B53 k,O6 k tk):=by
  intro ks es h
  induction h with
  |nil=>intro e a;cases a
  |cons r t ih=>
   intro e a;rcases B7.mp a with z|z
   ·subst z;obtain⟨tk,e⟩:=r;exact⟨_,tk,e⟩
   ·exact ih e z
 obtain⟨k,tk,rfl⟩:=b h e a;exact⟨⟨k,by simp[B62,q9],rfl⟩,rfl⟩
theorem Ents.find {prog:B15}{w:World}{k:Int}:∀{es:List (Int×Value)} {ks:List Int},Ents ks es->((A99 (λe=>(B62 prog w).is k e.2) es).isSome=true↔k∈ks)
 |_,_,.nil=>by simp
 |_,_,.cons r t=>by
  obtain⟨tk,rfl⟩:=r
  rename_i k' ks' es'
  have ih:=Ents.find (prog:=prog) (w:=w) (k:=k) t;rw[List.findIdx?_cons,B7];have hi:(B62 prog w).is k (O6 k' tk)=decide (k=k'):=by
   by_cases e:k=k'
   ·simp[B62,q9,e]
   ·have e':¬k'=k:=λz=>e z.symm;simp[B62,q9,e,e']
  dsimp only;rw[hi];by_cases e:k=k'
  ·simp[e]
  ·simp only[e,decide_false,E8,if_false,false_or,a9];exact ih
noncomputable def byT (w:World):Bool:=w.params.followText "set-order"
def SetI (w:World)(a:Addr)(zs:List Int)(h:Heap):Prop:=
 ∃(es:Array (Int×Value)) (ep:Nat) (t:B60) (ks:List Int),h.get? a=some {cls:=.type "set",data:=.set es ep t}/\T7 (byT w) t es.size/\Ents ks es.toList/\ks.Perm zs/\zs.Nodup/\zs.length<=4
theorem SetI.at {w:World}{a:Addr}{zs:List Int}{h h':Heap}(x:SetI w a zs h)(k:∀o,h.get? a=some o->h'.get? a=some o):SetI w a zs h':=
 let⟨es,ep,t,ks,h1,r⟩:=x;⟨es,ep,t,ks,k _ h1,r⟩
theorem T7.fits {b:Bool}{t:B60}{n:Nat}(T:T7 b t n)(a:n<=7):t.fits n=true:=by
 unfold A44 A45;rw[T.size,T.dum,T.mask];have:((#[]:Array Nat)).size=0:=rfl;simp only[this,beq_self_eq_true,i8,decide_eq_true_eq]
 lia
noncomputable def addI (zs:List Int)(k:Int):List Int:=if k∈zs then zs else zs++[k]
variable{prog:B15}{w:World}{A:Around}{E:Value->Shared->Prop}{s:Shared}
theorem SetI.size {a:Addr}{zs:List Int}{h:Heap}{es:Array (Int×Value)}{ks:List Int}(b:Ents ks es.toList)(c:ks.Perm zs):es.size=zs.length:=by
 rw[<- c.length_eq,B6 b,E5]
theorem qY1 {a:Addr}{zs:List Int}{k:Int}{tk:Tok}{Q:Bool->Shared->Prop}(hS:SetI w a zs s.heap)(f:zs.length<=3\/k∈zs)
  (h:∀h',Heap.SameBut a s.heap h'->SetI w a (addI zs k) h'->∀b,Q b {s with heap:=h'}):wpAny (model prog w) A (setAddHashed a (.int k tk) (B53 k)) Q E s:=by
 obtain⟨es,ep,t,ks,q,T,o,r,u,a0⟩:=id hS;have n:es.size=zs.length:=SetI.size (a:=a) (h:=s.heap) o r;have m:ElemsOf (B62 prog w) es.toList:=o.elems;have hb:es.size<scanBound:=by rw[n];unfold scanBound;lia
 have hf:t.fits es.size=true:=T.fits (by lia)
 unfold setAddHashed setAddHashedIn;refine B20 (B12 (B38 q rfl hf ?_));dsimp only;rw[byScan_of (knd:=B62 prog w) (x:=.int k tk) rfl hb m];simp only[↓reduceIte];unfold setAddByScan;refine B12 ?_;refine B12 (B58 ?_);refine B12 (wpAny_setScan_of (knd:=B62 prog w) (k:=k) (intKind_is _ _ _ _) q rfl hf m ?_);have c:=Ents.find (prog:=prog) (w:=w) (k:=k) o;cases hr:A99 (λe=>(B62 prog w).is k e.2) es.toList with
 |some j=>
  dsimp only;rw[hr] at c;have g:k∈zs:=r.mem_iff.mp (c.mp rfl);refine B13 (B13 ?_);have e:s={s with heap:=s.heap}:=by cases s;rfl
  rw[e];refine h s.heap (Heap.SameBut.refl a s.heap) ?_ _;unfold addI;rw[if_pos g];exact hS
 |none=>
  dsimp only;rw[hr] at c;have g:¬k∈zs:=λz=>by have:=c.mpr (r.mem_iff.mpr z);cases this
  have h3:zs.length<=3:=f.resolve_right g;obtain⟨p,i,e1,T',tf,a1⟩:=T.lay (by lia) rfl (B53 k) (.int k tk)
  rw[e1];dsimp only;refine B12 (B13 ?_);rw[T'.plain];simp only[↓reduceIte];rw[hashByValue_scannable 8 (x:=.int k tk) rfl];refine B12 (B13 ?_);have d:(F0 es p (B53 k,O6 k tk)).size=es.size+1:=by
   rw[<- E5,qCG,A8,C3,C4,T9,E5]
   lia
  rw[show plainKind (O6 k tk)=true from rfl];simp only[↓reduceIte];show wpAny _ _ (storeSet a (F0 es p (B53 k,.int k tk)) i >>= _) _ _ _;refine B12 (wpAny_storeSet_of q rfl ?_ (by rw[d,n,B16];lia))
  rw[tf];simp only[W5,E8,↓reduceIte];refine B13 (B13 ?_);refine h _ (V9 s.heap a _) ?_ _;have hg:(s.heap.update a (Obj.putSet (F0 es p (B53 k,.int k tk)) i)).get? a=some {cls:=.type "set",data:=.set (F0 es p (B53 k,.int k tk)) (ep+1) i}:=by
   have:=G5 (Obj.putSet (F0 es p (B53 k,.int k tk)) i) q (by rw[putSet_of _ _ (ep:=ep) (es:=es) (t:=t) rfl];rfl)
   rw[putSet_of _ _ (ep:=ep) (es:=es) (t:=t) rfl] at this;exact this
  have y:(F0 es p (B53 k,O6 k tk)).toList.Perm (es.toList++[(B53 k,.int k tk)]):=by
   rw[qCG];have e3:es.toList++[(B53 k,O6 k tk)]=es.toList.take p++(es.toList.drop p++[(B53 k,O6 k tk)]):=by
    rw[<- F3,c9]
   rw[e3];exact A06 _ (List.perm_append_singleton _ _).symm
  obtain⟨v,h4,h5⟩:=Ents.perm (ks:=ks++[k]) (T3 o ⟨tk,rfl⟩) y;refine⟨_,_,i,v,hg,by rw[d];exact T',h4,?_,?_,?_⟩
  ·unfold addI;rw[if_neg g];exact h5.trans (r.append_right _)
  ·unfold addI;rw[if_neg g];exact qJN u g
  ·unfold addI;rw[if_neg g,A8,B3]
   lia
noncomputable def dedI:List Int->List Int:=λl=>l.foldl addI []
theorem qZY (zs:List Int)(k:Int):(addI zs k).length<=zs.length+1:=by
 unfold addI
 split<;>simp
theorem qE6:∀(l zs:List Int),(l.foldl addI zs).length<=zs.length+l.length
 |[],zs=>by simp
 |k::r,zs=>by
  have h1:=qE6 r (addI zs k);have h2:=qZY zs k;rw[Q9,C3]
  lia
section
variable{prog:B15}{w:World}{A:Around}{R:Result->Shared->Prop}{I:Addr}{fp wr:List Addr}{G:Array B74->Array B74->Prop}{n:Nat}{P:Nat->Value->Prop}{St:Nat->Shared->Prop}
theorem qNE (W:WalksS prog w A.in1 I fp wr G n P St)(S:Addr)(u:S∉fp)(ns:List Int)(a3:ns.length=n)(h4:n<=4)(f:∀i v,P i v->∃t,v=.int (ns.getD i 0) t):
  ∀(k i:Nat) (s:Shared),n-i=k->i<=n->St i s->SetI w S (dedI (ns.take i)) s.heap->
   (∀s',Moved (S::wr) G s s'->SetI w S (dedI ns) s'.heap->R (.ok (.ret .none)) s')->
   B47 (model prog w) A (.builtin "set.update.loop" ⟨[.ref S,.ref I],[]⟩) R s:=by
 have r:S∉wr:=λh=>u (W.sub _ h);have a:∀b∈wr,b∈S::wr:=λb g=>A9 _ g;intro k
 induction k with
 |zero=>
  intro i s hk hi d hS hR;have a2:i=n:=by lia
  subst a2;refine B26 F.entry_set_update_loop ?_;rw[F1 F.plain_set_update_loop _];show wpAny _ A.in1 (pyNext (.ref I) >>= _) _ _ s;refine B12 (W.done s _ _ d λs' m=>?_);show wpAny _ A.in1 (ret P5) _ _ s';rw[E7 (by lia)] at hS
  exact B13 (hR s' (m.mono a) (hS.at λo e=>m.heap S _ r e))
 |succ k ih=>
  intro i s hk hi d hS hR;have p:i<n:=by lia
  refine B26 F.entry_set_update_loop ?_;rw[F1 F.plain_set_update_loop _];show wpAny _ A.in1 (pyNext (.ref I) >>= _) _ _ s;refine B12 (W.item i s _ _ p d λv s' hP x m=>?_);obtain⟨t,rfl⟩:=f i v hP;have a1:SetI w S (dedI (ns.take i)) s'.heap:=hS.at λo e=>m.heap S _ r e;show wpAny _ A.in1 (B46 [O6 (ns.getD i 0) t] (setAdd S (.int (ns.getD i 0) t)) >>= _) _ _ s';refine B12 (B20 ?_);unfold setAdd;refine B20 ?_;refine B12 ((B62 prog w).pyHash (k:=ns.getD i 0) (intKind_is _ _ _ _) ?_);have c:(dedI (ns.take i)).length<=3:=by
   have:=qE6 (ns.take i) [];rw[C4] at this;unfold dedI;simp at this
   lia
  refine qY1 (s:={s' with toks:=s'.toks+1}) a1 (.inl c) λh' j y b=>?_;have e2:addI (dedI (ns.take i)) (ns.getD i 0)=dedI (ns.take (i+1)):=by
   have l:i<ns.length:=by lia
   rw[C6,A4 l,C8];unfold dedI;rw[List.foldl_append,Q9,A83,P9,A4 l,W3]
  rw[e2] at y;refine B13 ⟨B31 F.plain_set_update_loop _,ih (i+1) _ (by lia) p (W.frame _ s' _ _ x (W2 _) λb g o e=>?_) y λa0 z q=>?_⟩
  ·rw[j.2 b (λh:b=S=>u (by rw[<- h];exact g))];exact e
  ·refine hR a0 (Moved.trans W.gtrans ((m.mono a).then_heap (W2 _) λb o g e=>?_) z) q;rw[j.2 b (λh:b=S=>g (by rw[h];exact C5))];exact e
end
noncomputable abbrev freshSet (w:World):Obj:={cls:=.type "set",dict:=none,data:=.set #[] 0 (.fresh 0 0 (!byT w))}
theorem qUC (a:Value){Q₁:Value->Shared->Prop}(h:Q₁ (.ref s.heap.objs.size) {s with heap:=s.heap.push (freshSet w)}):
  B47 (model prog w) A (.call (.builtin "set.__new__") ⟨[.type "set",a],[]⟩) (wants Q₁ E) s:=by
 refine codeAny_of_tree ?_;show wpAny _ A.in1 (do checkBuiltinCall "set.__new__" ⟨[.type "set",a],[]⟩;again (.builtin "set.__new__" ⟨[.type "set",a],[]⟩)) _ _ s
 refine B12 (B51 (F.newCall_set_1 a) (B13 ⟨B31 F.plain_set_new _,B26 F.entry_set_new ?_⟩));rw[F1 F.plain_set_new _];unfold Builtin.«set.__new__» A82;have b:=sub_set_self;obtain⟨e,g,d,c,f⟩:=s;dsimp only
 wp_walk
 refine B67 (B13 ?_);dsimp only;simp only[newObj];refine B12 (wpAny_alloc (B13 ?_));exact B13 h
theorem SetI.fresh {a:Addr}{h:Heap}(e:h.get? a=some (freshSet w)):SetI w a [] h:=
 ⟨#[],0,_,[],e,⟨rfl,rfl,rfl,rfl,rfl,.nil,λ_ z=>nomatch z⟩,.nil,.refl _,.nil,D9 _⟩
set_option maxHeartbeats 3200000 in
theorem qTM {l:Addr}{a:Array Value}{ns:List Int}{Q:Value->Shared->Prop}(hh:A.handled=none)(hl:s.heap.IsList l a)(hi:B19 a.toList ns)(h4:a.size<=4)
  (h:∀(h':Heap) (tk:Nat),SetI w s.heap.objs.size (dedI ns) h'->(∀b o,s.heap.get? b=some o->h'.get? b=some o)->Q (.ref s.heap.objs.size) {s with heap:=h',toks:=tk}):
  wpAny (model prog w) A (call (.type "set") [.ref l]) Q E s:=by
 have q:ns.length=a.size:=by have:=IntsAre.length hi;simpa using this.symm
 obtain⟨c,tl,af⟩:=X1.mro;have a2:=X1.made;have ac:=X1.sub;refine B90 (codeAny_of_tree ?_);show wpAny _ _ (callAny (.type "set") _) _ _ _;refine B13 ⟨Code.quiet_builtin _ (by decide +kernel),B26 F.entry_type_call ?_⟩
 rw[Around.under_plain (weight_type_call_type "set" [.ref l] []) rfl];have h1:=X1.notType;have h2:=X1.canCreate;have ag:=F.typeCall_set_1 (.ref l)
 repeat (any_goals (first|assumption|wp_step))
 refine B43 (qUC (.ref l) (E:=E) (Q₁:=λn s₁=>n=.ref s.heap.objs.size/\s₁={s with heap:=s.heap.push (freshSet w)}) ⟨rfl,rfl⟩) λr s₁ p=>?_;cases r with
 |error e=>exact p
 |ok fl=>
  cases fl with
  |ret n=>
   obtain⟨rfl,rfl⟩:=p;have hS:(s.heap.push (freshSet w)).get? s.heap.objs.size=some (freshSet w):=B5 _ rfl;have hT:Shared.TypeIs {s with heap:=s.heap.push (freshSet w)} (.ref s.heap.objs.size) "set":=⟨_,hS,rfl⟩;have ah:=X1.init.lookup;have ai:=X1.init.bind (.ref s.heap.objs.size)
   repeat (any_goals (first|assumption|wp_step))
   refine B43 (codeAny_call_builtin (R:=wants (fun r s₂=>r=.none/\∃ h' tk,s₂={ s with heap:=h',toks:=tk }/\SetI w s.heap.objs.size (dedI ns) h'/\
     (∀b o,s.heap.get? b=some o->h'.get? b=some o)) E) X1.init.plain F.entry_set_init (check_set_init_1 hT ?_)) λr₂ s₂ d=>?_
   ·obtain⟨ol,a1,y,nl,u⟩:=hl;obtain⟨ad,j,a8,f⟩:=ol;simp only at y u;subst y;subst u;have a0:(s.heap.push (freshSet w)).get? l=some {cls:=.type "list",dict:=j,data:=.seq a nl,slots:=f}:=A6 _ a1;have ae:=F.sub_list_set;have ab:=F.sub_list_frozenset;have aj:(A90 "list" == A90 "dict")=false:=by decide
    have z:(s.heap.push (freshSet w)).IsList l a:=⟨_,a0,rfl,nl,rfl⟩;unfold Builtin.«set.__init__» noKeywords A70;generalize hPI:pyIter=PI
    wp_walk
    subst hPI;refine B34 z ?_;refine B12 (wpAny_runValue ?_);have x:l<s.heap.objs.size:=C0 a1;have a4:A.in1.in1.in1.handled=none:=by simp[hh]
    have m:l≠(s.heap.push (freshSet w)).objs.size:=by
     rw[P1];exact D1 (M6 x)
    have aa:s.heap.objs.size∉[(s.heap.push (freshSet w)).objs.size,l]:=by
     rw[P1];simp only[B7,A5,L8,or_false,not_or];exact⟨D1 (Nat.lt_succ_self _),R7 x⟩
    have k:∀(i:Nat) (v:Value),a[i]?=some v->∃t,v=.int (ns.getD i 0) t:=λi v hv=>
     k6 hi i v (by rw[L6];exact hv)
    refine qNE ((A14 a4 _ l m a).toS) s.heap.objs.size aa ns q h4 k (a.size-0) 0 _ (by lia) (D9 _)
     ⟨⟨_,B5 _ rfl,rfl,rfl⟩,(z.push _)⟩ ?hS0 ?hR
    case hS0=>exact SetI.fresh (A6 _ hS)
    case hR=>
     intro s' hm g;obtain⟨h',g',d',a9,a6⟩:=s';have eg:g'=s.gens:=hm.gens;have ed:d'=s.drawn:=hm.drawn;have eo:a6=s.os:=hm.os;subst eg;subst ed;subst eo;show wpAny _ _ _ _ _ _;refine B13 ?_;show wpAny _ _ (ret P5) _ _ _;refine B13 ⟨rfl,h',a9,rfl,g,λb o e=>?_⟩;have hb:=C0 e;have a7:b≠s.heap.objs.size:=D1 hb;have a3:b≠(s.heap.push (freshSet w)).objs.size:=by
      rw[P1];exact D1 (M6 hb)
     exact hm.heap b o (by simp only[B7,A5,L8,or_false,not_or];exact⟨a7,a3⟩) (A6 _ (A6 _ e))
   ·cases r₂ with
    |error e=>exact d
    |ok fl₂=>
     cases fl₂ with
     |ret r=>
      obtain⟨rfl,h',tk,rfl,g,a5⟩:=d
      repeat (any_goals (first|assumption|wp_step))
      exact h _ _ g a5
     |next=>exact d
     |brk=>exact d
     |cont=>exact d
  |next=>exact p
  |brk=>exact p
  |cont=>exact p
theorem slot_si_next:Slot "set_iterator" "__next__" "set_iterator.__next__":=
 .of (owner:="set_iterator") (n:="__next__") (by rw[typeLookup_type,B87];kernel_rfl) (by decide +kernel) (by decide +kernel) (by decide +kernel)
  (by first|exact .inl (by decide +kernel)|exact .inr (by decide +kernel)) (by rw[isSubtype_type];kernel_rfl)
theorem qI5:Slot "set_iterator" "__iter__" "set_iterator.__iter__":=
 .of (owner:="set_iterator") (n:="__iter__") (by rw[typeLookup_type,B87];kernel_rfl) (by decide +kernel) (by decide +kernel) (by decide +kernel)
  (by first|exact .inl (by decide +kernel)|exact .inr (by decide +kernel)) (by rw[isSubtype_type];kernel_rfl)
theorem qH7:entryFor table "set_iterator.__next__" = some Builtin.«set_iterator.__next__»:=entryFor_of_tree (by kernel_rfl)
theorem qMQ:entryFor table "set_iterator.__iter__" = some Builtin.«dict_keyiterator.__iter__»:=
 entryFor_alias (id':="dict_keyiterator.__iter__") (by kernel_rfl) rfl (by decide +kernel) (by kernel_rfl)
theorem qKP:entryFor table "set.__iter__" = some Builtin.«frozenset.__iter__»:=
 entryFor_alias (id':="frozenset.__iter__") (by kernel_rfl) rfl (by decide +kernel) (by kernel_rfl)
theorem qRI:Manifest.owners.lookup (String.ofList "set_iterator".toList.reverse.reverse)=some Manifest.sig_set_iterator:=by kernel_rfl
theorem qIE (a:Value):argsOk "set_iterator.__next__" ⟨[a],[]⟩:=by
 unfold argsOk;rw[signature?_of (id:="set_iterator.__next__") (n:="__next__".toList.reverse) (o:="set_iterator".toList.reverse) (by kernel_rfl) qRI];kernel_rfl
theorem qON (a:Value):argsOk "set_iterator.__iter__" ⟨[a],[]⟩:=by
 unfold argsOk;rw[signature?_of (id:="set_iterator.__iter__") (n:="__iter__".toList.reverse) (o:="set_iterator".toList.reverse) (by kernel_rfl) qRI];kernel_rfl
noncomputable def qEZ (w:World)(a:Addr)(ep:Nat)(es:Array (Int×Value)):List (Int×Value):=if byT w=true then(pickOrder (w.params.setOrder a ep) es).toList else es.toList
noncomputable def qF2 (w:World)(t:B60)(i:Nat):Nat:=if byT w=true then 0 else if i=0 then 0 else t.place.getD (i-1) 0+1
theorem qEY (w:World)(a:Addr)(ep:Nat)(es:Array (Int×Value)):(qEZ w a ep es).Perm es.toList:=by
 unfold qEZ
 split
 ·exact qUJ _ _
 ·exact .refl _
theorem T7.below_at {b:Bool}{t:B60}{n:Nat}(T:T7 b t n)(i:Nat)(hi:i<=n):E6 t.place (if i=0 then 0 else t.place.getD (i-1) 0+1)=i:=by
 obtain⟨k,e,g⟩:=qI1 (j:=if i=0 then 0 else t.place.getD (i-1) 0+1) T.up
 have p:=T.size;have h:∀a c d,a<t.place.size->t.place.getD a c=t.place.getD a d:=λa c d l=>by
  rw[F7,F7,E3 l]
  rfl
 by_cases f:i=0
 ·rw[if_pos f] at k e g ⊢;subst f;apply Nat.eq_zero_of_not_pos;intro z;have:=e 0 z;omega
 ·rw[if_neg f] at k e g ⊢;have o:¬E6 t.place (t.place.getD (i-1) 0+1)<i:=λz=>by
   have:=g (i-1) (by omega) (by omega)
   rw[h (i-1) (t.place.getD (i-1) 0+1) 0 (by omega)] at this
   omega
  have m:¬i<E6 t.place (t.place.getD (i-1) 0+1):=λz=>by
   have q:=e i z;have:=qb4 0 T.up (i-1) i (by omega) (by omega)
   rw[h i (t.place.getD (i-1) 0+1) 0 (by omega)] at q
   omega
  omega
def SetIt (w:World)(a I:Addr)(es:Array (Int×Value))(ep:Nat)(t:B60)(i:Nat)(h:Heap):Prop:=
 (∃o,h.get? I=some o/\o.cls=.type "set_iterator"/\o.data=.fields #[.int (qF2 w t i) 0,.int i 0,.ref a,.int es.size 0,.int ep 0])/\h.get? a=some {cls:=.type "set",data:=.set es ep t}
section
variable{prog:B15}{w:World}{A:Around}{E:Value->Shared->Prop}{s:Shared}{a I:Addr}{es:Array (Int×Value)}{ep:Nat}{t:B60}{i:Nat}
theorem SetIt.typeIs (x:SetIt w a I es ep t i s.heap):s.TypeIs (.ref I) "set_iterator":=let⟨⟨o,h1,h2,_⟩,_⟩:=x;⟨o,h1,h2⟩
theorem qNF {Q:Option (Value×Nat)->Shared->Prop} (T:T7 (byT w) t es.size) (k:es.size<=7) (d:s.heap.get? a=some {cls:=.type "set",data:=.set es ep t}) (hi:i<=es.size)
  (h:Q (match(qEZ w a ep es)[i]? with|some e=>some (e.2,qF2 w t (i+1))|none=>none) s):wpAny (model prog w) A (setNext a (qF2 w t i) i ep) Q E s:=by
 have f:=T.fits k;unfold setNext;refine B12 (B38 d rfl f ?_);dsimp only;unfold setsByText;refine B12 (B12 (B67 (B13 ?_)));show wpAny _ _ (if byT w=true then _ else _) _ _ _
 cases hb:byT w with
 |true=>
  rw[if_pos rfl];simp only[bne_self_eq_false,E8,if_false];refine B12 ?_;unfold setWalk;refine B12 (B38 d rfl f ?_);dsimp only;unfold setsByText;refine B12 (B12 (B67 (B13 ?_)));show wpAny _ _ (if byT w=true then _ else _) _ _ _
  rw[hb,if_pos rfl];refine B12 (B67 (B13 (B13 ?_)));have e:qEZ w a ep es=(pickOrder (w.params.setOrder a ep) es).toList:=by unfold qEZ;rw[if_pos hb]
  have c:∀j,qF2 w t j=0:=λj=>by unfold qF2;rw[if_pos hb]
  rw[e,L6,c] at h;rw[c];show Q (Option.map _ (pickOrder (w.params.setOrder a ep) es)[i]?) s;cases hx:(pickOrder (w.params.setOrder a ep) es)[i]? with
  |none=>rw[hx] at h;exact h
  |some v=>rw[hx] at h;exact h
 |false=>
  rw[if_neg (by simp)]
  show wpAny _ _ (if(!t.plain&&decide (es.size>1))=true then _ else _) _ _ _
  rw[T.plain];simp only[A46,m9,E8,if_false];refine B12 ?_;show wpAny _ _ (if(!t.led && !es.isEmpty)=true then _ else _) _ _ _
  rw[T.led,hb];simp only[Bool.not_false,A46,m9,E8,if_false];refine B13 (B13 ?_);have e:qEZ w a ep es=es.toList:=by unfold qEZ;rw[if_neg (by rw[hb];simp)]
  have c:∀j,qF2 w t j=if j=0 then 0 else t.place.getD (j-1) 0+1:=λj=>by unfold qF2;rw[if_neg (by rw[hb];simp)]
  rw[e,L6] at h;rw[c,T.below_at i hi];cases hx:es[i]? with
  |none=>rw[hx] at h;exact h
  |some v=>
   rw[hx] at h;have b:i<t.place.size:=by rw[T.size];exact(Array.getElem?_eq_some_iff.mp hx).1
   rw[E3 b];dsimp only at h ⊢;have g:qF2 w t (i+1)=t.place[i]+1:=by
    rw[c,if_neg (by omega),A47,F7,E3 b]
    rfl
   rw[g] at h;exact h
theorem qbB {Q:Option Value->Shared->Prop}(T:T7 (byT w) t es.size)(k:es.size<=7)(c:SetIt w a I es ep t i s.heap)(d:a≠I){e:Int×Value}(l:(qEZ w a ep es)[i]?=some e)
  (u:∀h',SetIt w a I es ep t (i+1) h'->(∀b o,b≠I->s.heap.get? b=some o->h'.get? b=some o)->Q (some e.2) {s with heap:=h'}):wpAny (model prog w) A (pyNext (.ref I)) Q E s:=by
 obtain⟨⟨o,g,v,f⟩,j⟩:=id c;have p:i<es.size:=by
  have:=(A3.mp l).1;rw[(qEY w a ep es).length_eq,E5] at this;exact this
 unfold pyNext;refine B12 (B71 (wpAny_callSpecial?_slot (name:=B9 "__next__") c.typeIs slot_si_next (B30 slot_si_next c.typeIs qH7 ?_ (qIE _))));unfold Builtin.«set_iterator.__next__»;refine B12 (B13 ?_);refine B12 (wpAny_fieldsOf g f ?_);dsimp only;unfold setEntries;refine B12 (B12 (B38 j rfl (T.fits k) (B13 ?_)));rw[if_neg (by simp)]
 simp only[D2];refine B12 (qNF T k j (R6 p) ?_);rw[l];dsimp only;show wpAny _ _ (setField (.ref I) 0 (rawInt _) >>= _) _ _ s;refine B12 (B54 g f (by simp) ?_)
 have m:=G5 (i9 (·.setIfInBounds 0 (rawInt ((qF2 w t (i+1):Nat):Int)))) g (d0 (U4 f _));have h:=U4 f (·.setIfInBounds 0 (rawInt ((qF2 w t (i+1):Nat):Int)));refine B12 (B54 m h (by simp) ?_)
 have r:=G5 (i9 (·.setIfInBounds 1 (rawInt ((i:Int)+1)))) m (d0 (U4 h _));have q:=U4 h (·.setIfInBounds 1 (rawInt ((i:Int)+1)));refine B13 ⟨_,rfl,B13 (u _ ⟨⟨_,r,(p7 ..).trans ((p7 ..).trans v),?_⟩,?_⟩ λb x n e=>?_)⟩
 ·rw[q];simp[rawInt]
 ·exact(C9 _ _ (G4 d)).trans ((C9 _ _ (G4 d)).trans j)
 ·exact(C9 _ _ (G4 n)).trans ((C9 _ _ (G4 n)).trans e)
theorem qdG {Q:Option Value->Shared->Prop}(i:A.handled=none)(T:T7 (byT w) t es.size)(e:es.size<=7)(c:SetIt w a I es ep t es.size s.heap)
  (j:∀h',(∀b o,b≠I->s.heap.get? b=some o->h'.get? b=some o)->Q none {s with heap:=h'}):wpAny (model prog w) A (pyNext (.ref I)) Q E s:=by
 obtain⟨⟨o,d,k,f⟩,g⟩:=id c;unfold pyNext;refine B12 (B71 (wpAny_callSpecial?_slot (name:=B9 "__next__") c.typeIs slot_si_next (B30 slot_si_next c.typeIs qH7 ?_ (qIE _))));unfold Builtin.«set_iterator.__next__»;refine B12 (B13 ?_);refine B12 (wpAny_fieldsOf d f ?_);dsimp only;unfold setEntries;refine B12 (B12 (B38 g rfl (T.fits e) (B13 ?_)));rw[if_neg (by simp)]
 simp only[D2];have h:(qEZ w a ep es)[es.size]?=none:=O7 (by rw[(qEY w a ep es).length_eq,E5];exact A7 _)
 refine B12 (qNF T e g (A7 _) ?_);rw[h];dsimp only;show wpAny _ _ (setField (.ref I) 2 .none >>= _) _ _ s;refine B12 (B54 d f (by simp) ?_)
 show wpAny _ _ (newExc (.type "StopIteration") [] >>= _) _ _ _;refine B12 ?_;simp only[newExc,newTuple];refine B12 (B25 ?_ (by size_fits))
 refine B12 (m:=B64 _ _) (B51 (a:=P5) (by first|rfl|(simp only[B64];rfl)) ?_)
 refine B25 ?_ (by size_fits)
 simp only[raiseNew];refine B12 (wpAny_handled ?_);rw[show A.in1.handled=none from i];refine B12 (B13 (wpAny_throw ?_));refine B12 (wpAny_isInstance (T:="StopIteration") (b:=true) ⟨_,B5 _ rfl,rfl⟩ isSubtype_stop ?_);exact B13 (j _ (((V9 ..).extBut.push _).push _))
theorem qbA {Q:Value->Shared->Prop}(b:SetIt w a I es ep t i s.heap)(h:Q (.ref I) s):wpAny (model prog w) A (pyIter (.ref I)) Q E s:=by
 refine wpAny_pyIter_slot b.typeIs qI5 (B30 qI5 b.typeIs qMQ ?_ (qON _));show wpAny _ _ (ret (.ref I)) _ _ s;exact B13 ⟨_,rfl,"set_iterator",_,b.typeIs,slot_si_next.lookup,h⟩
theorem qdF {Q:Value->Shared->Prop} (T:T7 (byT w) t es.size) (e:es.size<=7) (b:s.heap.get? a=some {cls:=.type "set",data:=.set es ep t})
  (f:Q (.ref s.heap.objs.size) {s with heap:=s.heap.push {cls:=.type "set_iterator",data:=.fields #[.int 0 0,.int 0 0,.ref a,.int es.size 0,.int ep 0]}}):wpAny (model prog w) A (pyIter (.ref a)) Q E s:=by
 have d:s.TypeIs (.ref a) "set":=⟨_,b,rfl⟩;have c:=T.fits e;refine wpAny_pyIter_slot d F.slot_set_iter (B30 F.slot_set_iter d qKP ?_ (F.args_set_iter_1 _));unfold Builtin.«frozenset.__iter__» B00 A93 setEntries;refine B12 (B12 (B13 ?_));show wpAny _ _ (pure a) _ _ s;refine B13 ?_;refine B12 (B12 (B12 (B38 b rfl c (B13 (B13 ?_)))));unfold setDrawn setsByText;refine B12 (B12 (B38 b rfl c ?_));dsimp only;refine B12 (B12 (B67 (B13 (B13 ?_))));show wpAny _ _ (if(!byT w&&(!t.plain&&decide (es.size>1)))=true then _ else _) _ _ _
 rw[T.plain];simp only[A46,m9,W5,E8,if_false];refine B12 (B13 ?_);unfold setEpoch;refine B12 (B12 (B38 b rfl c (B13 ?_)));refine B12 (B25 (B13 ⟨_,rfl,"set_iterator",_,⟨_,B5 _ rfl,rfl⟩,slot_si_next.lookup,?_⟩));simpa[rawInt] using f
theorem qbC {Q:Bool->Shared->Prop} (d:s.TypeIs (.ref a) "set") (h:Q false s):wpAny (model prog w) A (k7 (.ref a)) Q E s:=by
 unfold k7;refine B12 (wpAny_specialOf d PySem.F.slot_set_len.lookup ?_);generalize hid:("set.__len__" : String)=e
 wp_delta
 rw[show splitId e=some ("set","__len__") from by subst hid;decide +kernel]
 subst hid;refine B12 (wpAny_isInstance (T:="set") (b:=true) d (by rw[isSubtype_type];kernel_rfl) ?_)
 refine wpAny_ite_split (λc=>absurd c (by decide)) (λ_=>?_)
 refine wpAny_ite_split (λ_=>?_) (λc=>absurd (by decide +kernel) c)
 refine B12 (wpAny_typeOf d ?_);exact B13 h
theorem qdE (T:T7 (byT w) t es.size) (l:es.size<=7):PySem.W.KdlSrc prog w "set" a a es.size (λi v=>∃e,(qEZ w a ep es)[i]?=some e/\v=e.2) (λh=>h.get? a=some {cls:=.type "set",data:=.set es ep t}) where
 type:=λs h=>⟨_,h,rfl⟩
 there:=λh x=>⟨C0 x,C0 x⟩
 keep:=λh d x k=>k a (.inl rfl) _ x
 notList:=by decide
 notTuple:=by decide
 hint:=λA E s Q x q=>qbC ⟨_,x,rfl⟩ q
 iter:=λA s u x=>by
  have m:a≠s.heap.objs.size:=D1 (C0 x);refine⟨_,λi h=>SetIt w a s.heap.objs.size es ep t i h,λE Q q=>qdF T l x q,?_,⟨⟨_,B5 _ rfl,rfl,?_⟩,A6 _ x⟩⟩
  ·refine⟨λb f=>?_,λi h d c k=>?_,λi g Q E hi c q=>?_,λg Q E c q=>?_,λi g Q E c q=>qbA c q⟩
   ·have e:b=s.heap.objs.size:=by simpa using f
    simp[e]
   ·obtain⟨⟨o,r,p,y⟩,h4⟩:=c;exact⟨⟨o,k _ (by simp) _ r,p,y⟩,k _ (by simp) _ h4⟩
   ·have n:i<(qEZ w a ep es).length:=by rw[(qEY w a ep es).length_eq,E5];exact hi
    refine qbB T l c m (A4 n) λd j k=>?_;exact q _ d g.toks ⟨_,A4 n,rfl⟩ j λb o f e=>k b o (λz=>f (by simp[z])) e
   ·refine qdG u T l c λd k=>?_;exact q d g.toks λb o f e=>k b o (λz=>f (by simp[z])) e
  ·unfold qF2
   split<;>rfl
end
theorem qBB {ns:List Int}:∀{us:List Value},Vals (ns.map V.int) us->B19 us ns:=by
 induction ns with
 |nil=>intro us h;cases h;exact .nil
 |cons n r ih=>
  intro us h;cases h with
  |cons r1 r2=>
   obtain⟨t,rfl⟩:=r1;exact IntsAre.cons _ _ (ih r2)
theorem qDS:∀{us:List Value} {ns:List Int},B19 us ns->Vals (ns.map V.int) us:=qJ4
def SetO (w:World)(a:Addr)(zs:List Int):HO:=.ext (SetI w a zs)
theorem qS6 (i:X.calm=true):qCO X (.type "set") (λxs H Q=>∃p ns,xs=[.ref p]/\SqL X.K H p (ns.map V.int)/\ns.length<=4/\∀a,H a=none->Q (.ref a) (Ag H a (SetO X.w a (dedI ns)))):=by
 intro Ab s σ H xs us Q I r h;obtain⟨p,ns,rfl,j,h4,q⟩:=h;obtain⟨u,rfl,f⟩:=qDL r;cases f;obtain⟨n,d,l,hz⟩:=I.list j;have b:=d.length;rw[A0] at b;refine qTM (ns:=ns) (I.ok.hd i) l.isList (by simpa using qBB d) (by simp;lia) λz g c m=>?_
 refine⟨.ref s.heap.objs.size,_,I.laid (t':=g) m (A7 _) ?_,rfl,q _ (I.hok.fresh (A7 _))⟩;obtain⟨es,ep,t,y,e,_⟩:=id c;exact⟨c,⟨_,e⟩,λv o x k=>x.at k⟩
theorem Inv.track {Ab:List (Addr×Obj)}{s:Shared}{σ:St}{H:Hp}{T:Addr}{o:HO}(I:Inv X Ab σ H s)(z:H T=none)(k:X.s₀.heap.objs.size<=T)(i:T≠X.env.locals)(m:∀x c,X.env.cells.lookup x=some c->c≠T)(h4:∀p∈X.pn++Ab,p.1≠T)
  (d:ObjOk X.prog X.w (Ag H T o) s.heap T o):Inv X Ab σ (Ag H T o) s:=by
 have f:∀b ob,X.s₀.heap.get? b=some ob->b≠T:=λb ob e=>D1 (E4 (C0 e) k);have a:∀b u,H b=some u->(Ag H T o) b=some u:=λb u e=>by rw[qA8 (qA6 e z)];exact e
 refine⟨I.ok,I.os,I.bare,⟨I.base.keep,I.base.slot,λb ob e n l=>?_,I.base.there,λb y e=>a _ _ (I.base.tups b y e),λb ob u e=>a _ _ (I.base.frzs b ob u e),λb ps e=>?_⟩,I.loc,I.cell,?_,λx c e=>?_,λp h=>?_,λb u e=>?_,I.len⟩
 ·rw[qA8 (f b ob e)];exact I.base.free b ob e n l
 ·exact a _ _ (I.base.tbls b ps e)
 ·rw[qA8 (G4 i)];exact I.free
 ·rw[qA8 (m x c e)];exact I.freeC x c e
 ·obtain⟨j,n,r⟩:=I.pin p h;exact⟨j,by rw[qA8 (h4 p h)];exact n,r⟩
 ·by_cases g:b=T
  ·subst g;rw[qA1] at e;cases e;exact d
  ·rw[qA8 g] at e;exact(I.hok b u e).stay (λc v _ q=>q) (λc q=>a _ _ q) (λc ys q=>a _ _ q) λc t q=>a _ _ q
theorem qXZ {Ab:List (Addr×Obj)}{s:Shared}{σ:St}{H:Hp}{Q:VK}{A:Around}{E:Value->Shared->Prop}{vs:List Value}{ns:List Int}{D:Addr}(I:Inv X Ab σ (Ag H D (.lst (ns.map V.int))) s)(t:H D=none)(l:ns.length<64)
  (q:∀ns':List Int,ns'.Perm ns->ns'.Pairwise (·<=·)->Q (.ref D) (Ag H D (.lst (ns'.map V.int)))):
  wpAny (model X.prog X.w) A (call (.builtin "list.sort") [.ref D]) (λ_ s'=>EP X Ab σ Q (.ref D) s') E s:=by
 obtain⟨z,g,n,h,v,e⟩:=I.lstM qA1;have p:=qBB h;have c:=h.length;rw[A0] at c;refine B30 slot_list_sort ⟨_,e,rfl⟩ B92 (list_sort_tree (ns:=ns) (n:=n) e p (by lia) λout ns' r i j=>⟨_,rfl,?_⟩) (args_list_sort _)
 have a:=sortedHeap_at (vs:=g) (out:=out) e;obtain⟨o,a⟩:=a;refine⟨.ref D,Ag H D (.lst (ns'.map V.int)),?_,rfl,q ns' i j⟩;have m:Ag (Ag H D (.lst (ns.map V.int))) D (.lst (ns'.map V.int))=Ag H D (.lst (ns'.map V.int)):=qHH;rw[<- m];refine I.write (x:=D) (e:=D) (t':=s.toks) (by rw[qA1];exact trivial) (.inl rfl) (λb u k d=>?_) ⟨_,a⟩ ?_
 ·rw[sortedHeap_old k (C0 d)];exact d
 ·refine⟨?_,out.toList,o,qDS r,by simpa using a⟩
  rw[A0,i.length_eq,<- A0 (f:=V.int)];exact z
theorem qHP {Ab:List (Addr×Obj)}{s:Shared}{σ:St}{H:Hp}{vs:List Value}{ns:List Int}(I:Inv X Ab σ H s)(a:B19 vs ns)(b:ns.length<=B14):
  Inv X Ab σ (Ag H s.heap.objs.size (.lst (ns.map V.int))) {s with heap:=s.heap.push {cls:=.type "list",data:=.seq vs.toArray}}:=
 I.lnew (t':=s.toks) (qDS a) (by rw[A0];exact b)
theorem qET (hc:X.calm=true):qCO X (.builtin "sorted") (fun xs H Q=>∃ p ns,xs=[.ref p]/\(SqL X.K H p (ns.map V.int)\/SqT X.K H p (ns.map V.int)\/H p=some (SetO X.w p ns))/\ns.length<64/\
  ∀(a:Addr) (ns':List Int),H a=none->ns'.Perm ns->ns'.Pairwise (·<=·)->Q (.ref a) (Ag H a (.lst (ns'.map V.int)))):=by
 intro Ab s σ H xs us Q I r h;obtain ⟨p,ns,rfl,hq,a4,q⟩:=h;obtain ⟨u,rfl,rx⟩:=qDL r;cases rx;refine n8 kind_sorted plain_sorted entry_sorted (args_sorted1 _) ?_;unfold Builtin.«sorted»;refine B12 (m:=checkCount "sorted" 1 1 _) (B13 ?_);have d:∀ (s1:Shared) (vs:List Value) (zs:List Int),Inv X Ab σ H s1->B19 vs zs->zs.Perm ns->wpAny (model X.prog X.w) X.A.in1 (do
   let l <- newList vs
   let _ <- B46 [l] (call (.builtin "list.sort") [l] [])
   ret l) (λd s'=>∃r,d=.done (.ret r)/\EP X Ab σ Q r s') X.xe s1:=by
  intro s1 vs zs I1 hv g;have c:=IntsAre.length hv;have hz:zs.length<=B14:=by rw[g.length_eq,B16];lia
  refine B12 (B56 ?_ (by rw[c];exact hz))
  have hf:=I1.hok.fresh (A7 s1.heap.objs.size);refine B12 (B20 (B23 (qXZ (E:=X.xe) (vs:=vs) (qHP I1 hv hz) hf (by rw[g.length_eq];exact a4) λns' a b=>q _ ns' hf (a.trans g) b) (λ_ s' x=>?_) λ_ _ e=>e))
  exact B13 ⟨_,rfl,x⟩
 rcases hq with hq|hq|hq
 ·obtain⟨a5,z,pl,hz⟩:=I.list hq;obtain⟨o,ho,f,n,hd⟩:=pl.isList;have c:=z.length;refine B12 (B44 p (.inl rfl) ho f hd (λh' hk=>?_) (by simp;lia))
  exact d _ _ ns (I.kept (t':=s.toks) hk) (by simpa using qBB z) (.refl _)
 ·obtain⟨a5,z,pl,hz⟩:=I.tuple hq;obtain⟨o,ho,f,n,hd⟩:=pl;have c:=z.length;refine B12 (B44 p (.inr rfl) ho f hd (λh' hk=>?_) (by simp;lia))
  exact d _ _ ns (I.kept (t':=s.toks) hk) (by simpa using qBB z) (.refl _)
 ·obtain⟨hS,_,_⟩:=(show ObjOk X.prog X.w H s.heap p (.ext (SetI X.w p ns)) from I.hok p _ hq);obtain⟨es,ep,t,ks,e,T,j,g,a6,h4⟩:=hS;have a0:es.size=ns.length:=SetI.size (a:=p) (h:=s.heap) j g;obtain⟨a3,h1,h2⟩:=j.perm (qEY X.w p ep es);refine B12 (A31 (A:=X.A.in1) (qdE (ep:=ep) T (by lia)) (I.ok.hd hc) e (by rw[a0,B16];lia) λh' tk a1 hk k=>?_)
  refine d _ _ a3 (I.kept (t':=tk) hk) ?_ (h2.trans g);obtain⟨l1,l2⟩:=k;have a2:∀{ks:List Int} {l:List (Int×Value)},Ents ks l->∀vs:List Value,vs.length=l.length->(∀(i:Nat) (v:Value),vs[i]?=some v->∃e:Int×Value,l[i]?=some e/\v=e.2)->B19 vs ks:=by
   intro ks l h
   induction h with
   |nil=>
    intro vs hl _;have:vs=[]:=M7.mp hl;subst this;exact .nil
   |cons r t ih=>
    intro vs hl hv;cases vs with
    |nil=>simp at hl
    |cons v vs=>
     obtain⟨tk,rfl⟩:=r;obtain⟨e,j,rfl⟩:=hv 0 v rfl;simp at j;subst j;exact IntsAre.cons _ _ (ih vs (by simpa using hl) λi v y=>by simpa using hv (i+1) v (by simpa using y))
  refine a2 h1 a1.toList ?_ λi v y=>l2 i v (by rw[<- L6];exact y)
  rw[E5,l1,(qEY X.w p ep es).length_eq,E5]
noncomputable def qI6 (lo y:Int):List V:=(G8 (y-lo).toNat).map λ(i:Nat)=>V.int (lo+i)
theorem qX4:qCO X (.type "range") (λxs H Q=>∃i j,xs=[.int i,.int j]/\∀p,H p=none->Q (.ref p) (Ag H p (.rng i j))):=by
 intro c s σ H xs d Q I r h;obtain⟨i,j,rfl,q⟩:=h;obtain⟨u,v,rfl,⟨t,rfl⟩,⟨a,rfl⟩⟩:=qOV r;refine call_range_2 ⟨.ref s.heap.objs.size,_,I.laid (λb o e=>A6 _ e) (A7 _) ?_,rfl,q _ (I.hok.fresh (A7 _))⟩;exact⟨_,_,_,B5 _ rfl⟩
theorem qY5 {lo hi:Int}{n:Nat}{acc:List Value}(f:n=(hi-lo).toNat)(a:acc.length=n)(h:∀(i:Nat) (v:Value),acc[i]?=some v->∃t,v=.int (lo+i*1) t):Vals (qI6 lo hi) acc:=by
 have b:∀(m:Nat) (acc:List Value),acc.length=m->∀lo:Int,(∀(i:Nat) (v:Value),acc[i]?=some v->∃t,v=.int (lo+i) t)->Vals ((G8 m).map λ(i:Nat)=>V.int (lo+i)) acc:=by
  intro m
  induction m with
  |zero=>
   intro acc a lo h;have:acc=[]:=M7.mp a;subst this;exact .nil
  |succ m ih=>
   intro acc a lo h;cases acc with
   |nil=>simp at a
   |cons v acc=>
    rw[List.range_succ_eq_map,C7,Y9];have d:=h 0 v rfl;refine .cons d ?_;have c:=ih acc (by simpa using a) (lo+1) λi v hi=>by
     have:=h (i+1) v (by simpa using hi)
     obtain⟨t,e⟩:=this;refine⟨t,?_⟩;rw[e];congr 1
     push_cast
     lia
    have e:((λ(i:Nat)=>V.int (lo+i)) ∘ Nat.succ)=λ(i:Nat)=>V.int (lo+1+i):=by
     funext i
     simp only[Function.comp];congr 1
     push_cast
     lia
    rw[e];exact c
 unfold qI6;rw[<- f];refine b n acc a lo λi v hi=>?_;obtain⟨t,e⟩:=h i v hi;exact⟨t,by rw[e,Int.mul_one]⟩
theorem qSU (lo hi:Int):(qI6 lo hi).length=(hi-lo).toNat:=by unfold qI6;simp
theorem qfD {lo hi:Int}:R5 lo hi 1=((hi-lo).toNat:Nat):=by rw[rangeSize_one];split<;>lia
theorem qMT {prog:B15}{w:World}{A:Around}{E:Value->Shared->Prop}{s:Shared}{R:List Value->Shared->Prop}{r:Addr}{a b:Int}{t u v:Tok}{n:Nat}(hh:A.handled=none)(hr:IsRange s.heap r a b 1 t u v)(g:A32 a b 1=true)
  (hn:R5 a b 1=n) (k:n<=2^24)
  (h:∀(h':Heap) (tk:Nat) (acc:Array Value),(∀b o,s.heap.get? b=some o->h'.get? b=some o)->ItemsOf (λi v=>∃t,v=.int (a+i*1) t) acc n->R acc.toList {s with heap:=h',toks:=tk}):
  wpAny (model prog w) A (collect (.ref r)) R E s:=by
 unfold collect;refine B12 (wpAny_runValue (B26 entry_proto_collect' ?_));rw[F1 PySem.F.plain_proto_collect _];show wpAny _ A.in1 (newList [] >>= λl=>again (.builtin "list.__iadd__" ⟨[l,.ref r],[]⟩)) _ _ s;refine B12 (B25 ?_);refine B13 ⟨B31 u6 _,B26 entry_list_iadd' ?_⟩;rw[F1 u6 _];have z:(s.heap.push {cls:=.type "list",data:=.seq ([]:List Value).toArray}).get? s.heap.objs.size=some {cls:=.type "list",data:=.seq #[]}:=B5 _ rfl;show wpAny _ A.in1 (Builtin.List.listExtendWith (.ref s.heap.objs.size) (.ref r) (.ref s.heap.objs.size)) _ _ _;have p:=wpAny_extend_range (prog:=prog) (w:=w) (A:=A) (s:={s with heap:=s.heap.push {cls:=.type "list",data:=.seq ([]:List Value).toArray}})
  (R:=fun (q:Result) (s':Shared)=>∃ (h':Heap) (tk:Nat) (acc':Array Value) (c':Nat),q=.ok (.ret (.ref s.heap.objs.size))/\s'={ s with heap:=h',toks:=tk }/\
   (∀b o,s.heap.get? b=some o->h'.get? b=some o)/\h'.get? s.heap.objs.size=some {cls:=.type "list",dict:=none,data:=.seq acc' c',slots:=#[]}/\ItemsOf (λi v=>∃t,v=.int (a+i*1) t) acc' n)
  hh (A6 _ hr) g hn k s.heap.objs.size (.ref s.heap.objs.size) 0 z
  (λh' tk acc' c' j d c=>⟨h',tk,acc',c',rfl,rfl,λb o e=>j b o (D1 (C0 e)) (A6 _ e),d,c⟩)
 refine B23 p (λm s' x=>?_) λe s' x=>?_
 ·cases m with
  |done f=>
   obtain⟨h',tk,acc',c',e,rfl,j,d,c⟩:=x;cases e;show wpAny _ A (load s.heap.objs.size >>= _) _ _ _;refine B12 (wpAny_load d ?_);exact B13 (h h' tk acc' j c)
  |again c₁=>
   refine⟨x.1,B43 x.2 λq s₂ y=>?_⟩;obtain⟨h',tk,acc',c',rfl,rfl,j,d,c⟩:=y;show wpAny _ A (load s.heap.objs.size >>= _) _ _ _;refine B12 (wpAny_load d ?_);exact B13 (h h' tk acc' j c)
 ·obtain⟨_,_,_,_,e',_⟩:=x;cases e'
theorem qOW {prog:B15}{w:World}{A:Around}{E:Value->Shared->Prop}{s:Shared}{Q:Value->Shared->Prop}{r:Addr}{a b:Int}{t u v:Tok}{n:Nat}(y:A.handled=none)(q:IsRange s.heap r a b 1 t u v)(d:A32 a b 1=true)
  (hn:R5 a b 1=n) (k:n<=2^24)
  (h:∀(h':Heap) (tk:Nat) (acc:Array Value),(∀b o,s.heap.get? b=some o->h'.get? b=some o)->ItemsOf (λi v=>∃t,v=.int (a+i*1) t) acc n->Q (.ref h'.objs.size) {s with heap:=h'.push {cls:=.type "tuple",data:=.seq acc},toks:=tk}):
  wpAny (model prog w) A (call (.type "tuple") [.ref r]) Q E s:=by
 have g:B47 (model prog w) A.in1 (.call (.builtin "tuple.__new__") ⟨[.type "tuple",.ref r],[]⟩) (wants (λc j=>j.TypeIs c "tuple"/\Q c j) E) s:=by
  refine codeAny_of_tree ?_;show wpAny _ A.in1.in1 (do checkBuiltinCall "tuple.__new__" ⟨[.type "tuple",.ref r],[]⟩;again (.builtin "tuple.__new__" ⟨[.type "tuple",.ref r],[]⟩)) _ _ s
  refine B12 (B51 (F.newCall_tuple_1 _) (B13 ⟨B31 A58 _,B26 F.entry_tuple_new ?_⟩));rw[F1 A58 _];have x:=sub_tuple_self;have l:=init_tuple_lookup;have a0:=madeHere_tuple;have p:s.TypeIs (.ref r) "range":=⟨_,q,rfl⟩
  wp_walk using wpAny_typeOf p,qMT (prog:=prog) (w:=w) (A:=A.in1.in1) y q d hn k
  intro h' tk acc z f;show wpAny _ _ (p8 acc.toList.toArray >>= λv=>ret v) _ _ _;unfold p8;refine B12 (B25 ?_ (by show acc.toList.toArray.size<=B14;simp only[Array.toArray_toList];rw[f.1,B16];lia))
  refine B13 ?_;have e:acc.toList.toArray=acc:=by simp
  rw[e];exact⟨⟨_,B5 _ rfl,rfl⟩,h h' tk acc z f⟩
 refine callType_codes (Q₁:=λc j=>j.TypeIs c "tuple"/\Q c j) A25 (F.typeCall_tuple_1 _) F.entry_object_init g λc j m=>?_;exact⟨m.1,A18 c _,object_init_meets A25.init.lookup A25.made (by decide) prog w A.in1 _ j ⟨m.1,rfl,m.2⟩⟩
theorem qKQ (hc:X.calm=true):qCO X (.type "tuple") (λxs H Q=>∃p lo hi,xs=[.ref p]/\H p=some (.rng lo hi)/\-1000000<=lo/\lo<=1000000/\-1000000<=hi/\hi<=1000000/\∀l,H l=none->Q (.ref l) (Ag H l (.tup (qI6 lo hi)))):=by
 intro j s σ H xs us Q I r h;obtain⟨p,lo,hi,rfl,x,l1,l2,l3,l4,q⟩:=h;obtain⟨u,rfl,m⟩:=qDL r;cases m;obtain⟨t,u,v,e⟩:=(show∃t u v,s.heap.get? p=some {cls:=.type "range",data:=.fields #[.int lo t,.int hi u,.int 1 v]} from I.hok p _ x);refine qOW (n:=(hi-lo).toNat) (I.ok.hd hc) (show IsRange s.heap p lo hi 1 t u v from e) (small_one (by lia) (by lia) (by lia) (by lia)) qfD (by lia) λd f a y c=>?_
 obtain⟨z,k⟩:=c;have g:Inv X j σ H {s with heap:=d,toks:=f}:=I.kept y;refine⟨.ref d.objs.size,_,g.laid (t':=f) (λb o e=>A6 _ e) (A7 _) (show ObjOk X.prog X.w _ _ _ (.tup (qI6 lo hi)) from⟨?_,a.toList,qY5 rfl (by simpa using z) λi v hi=>k i v (by rw[<- L6];exact hi),?_⟩),rfl,q _ (g.hok.fresh (A7 _))⟩
 ·rw[qSU,B16]
  lia
 ·have:=IsTup.new d a;simpa using this
theorem qST:∀(bs:List Bool),((G8 bs.length).all λi=>(bs[i]?).getD true)=bs.all id:=by
 intro bs;rw[Q7,O5,O5]
 constructor
 ·intro h b d;obtain⟨i,c,e⟩:=X8.mp d;have:=h i (G3.mpr c);rw[A4 c,e] at this;exact this
 ·intro h i c;have a:=G3.mp c;rw[A4 a];exact h _ (U0 a)
theorem qH9 (t:X.calm=true):qCO X (.builtin "all") (λxs H Q=>∃(p:Addr) (bs:List Bool),xs=[.ref p]/\SqL X.K H p (bs.map V.bl)/\Q (.bl (bs.all id)) H):=by
 intro Ab s σ H xs us Q I r h;obtain⟨p,bs,rfl,z,q⟩:=h;obtain⟨u,rfl,n⟩:=qDL r;cases n;obtain⟨c,m,pl,hz⟩:=I.list z;have g:=pl.isList;have j:p<s.heap.objs.size:=by obtain⟨_,e,_⟩:=g;exact C0 e
 have a:=m.length;rw[A0] at a;refine call_all_walk (B34 g ?_);refine⟨s.heap.objs.size,[s.heap.objs.size,p],[s.heap.objs.size],c.toArray.size,_,_,λi=>(bs[i]?).getD true,rfl,A14 (A:=X.A.in1) (I.ok.hd t) _ p (D1 j) c.toArray,
  ⟨⟨_,B5 _ rfl,rfl,rfl⟩,g.push _⟩,λi v s' Q' E' w f=>?_,λh' tk hk=>?_⟩
 ·have d:c[i]?=some v:=by simpa using w
  have k:i<bs.length:=by rw[a];exact(A3.mp d).1
  obtain⟨u,l,o⟩:=m.get (i:=i) (x:=.bl bs[i]) (by rw[C1,A4 k];rfl)
  rw[d] at l;cases l;cases o;dsimp only at f;rw[A4 k,W3] at f;exact B29 f
 ·have e:((G8 c.toArray.size).all λi=>(bs[i]?).getD true)=bs.all id:=by
   rw[B8,<- a];exact qST bs
  refine⟨.bl (bs.all id),H,I.kept λb x e=>hk b x (λy=>by rw[A5.mp y] at e;exact Q1 _ (C0 e)) (A6 _ e),?_,q⟩
  rw[e]
  rfl
theorem qBM:qCO X (.builtin "isinstance") (λxs H Q=>∃x T t b,xs=[x,.ty T]/\TyOf X.K H x t/\W4 X.K t (.type T)=some b/\Q (.bl b) H):=by
 intro f s σ H xs g Q I r h;obtain⟨x,T,t,b,rfl,d,a,q⟩:=h;obtain⟨u,v,rfl,e,c⟩:=qOV r;cases c;exact qW0 I e d a λi=>⟨.bl b,H,I.tok _,rfl,q⟩
theorem qV3 (f:X.A.units<cLine):OpR X (B28 .Eq) (λx y H Q=>∃p l xs,x=.ref p/\y=.ref l/\SqL X.K H p xs/\SqL X.K H l []/\Q (.bl xs.isEmpty) H):=by
 intro w s σ H x y v u Q I n t h;obtain⟨p,l,xs,rfl,rfl,k,i,q⟩:=h;cases n;cases t;obtain⟨m,g,b,z⟩:=I.list k;obtain⟨c,o,d,z2⟩:=I.list i;cases o;cases xs with
 |nil=>
  cases g;exact A75 (e:=λ_=>true) b.isList d.isList rfl f (λj h _=>absurd h (by simp)) ⟨.bl true,H,I,rfl,q⟩
 |cons a r=>
  cases g;exact SeqAt.eq_list_lengthsAt b.isList d.isList (by simp) f ⟨.bl false,H,I,rfl,q⟩
theorem qOC {X:Cx} {K:PySem.W.Frag} {w:World} (c:X.K=K) (d:X.w=w) (b:X.calm=true):qCO X (.builtin "sorted") (fun xs H Q=>∃ p ns,xs=[.ref p]/\(SqL K H p (ns.map V.int)\/SqT K H p (ns.map V.int)\/H p=some (SetO w p ns))/\ns.length<64/\
  ∀(a:Addr) (ns':List Int),H a=none->ns'.Perm ns->ns'.Pairwise (·<=·)->Q (.ref a) (Ag H a (.lst (ns'.map V.int)))):=by subst c d;exact qET b
theorem qX3 {X:Cx} {K:PySem.W.Frag} {w:World} (c:X.K=K) (d:X.w=w) (b:X.calm=true):qCO X (.type "set") (λxs H Q=>∃p ns,xs=[.ref p]/\SqL K H p (ns.map V.int)/\ns.length<=4/\∀a,H a=none->Q (.ref a) (Ag H a (SetO w a (dedI ns)))):=by subst c d;exact qS6 b
def Ite (K:PySem.W.Frag)(l:Addr):It:=
 ⟨λi H=>∃xs x,SqL K H l xs/\xs[i]?=some x,λi H v H'=>∃T x,H T=none/\v=.ref T/\H'=Ag H T (.tup [.int (i:Int),x])/\∀xs,SqL K H l xs->xs[i]?=some x,λi H=>∃xs,SqL K H l xs/\xs.length<=i⟩
theorem Inv.turnedL {Ab:List (Addr×Obj)}{s:Shared}{σ:St}{H:Hp}{h':Heap}{t':Nat}{ch:List Addr}(I:Inv X Ab σ H s)(k:∀b o,b∉ch->s.heap.get? b=some o->h'.get? b=some o)(d:∀b∈ch,FpOk X Ab H b):Inv X Ab σ H {s with heap:=h',toks:=t'}:=by
 have f:∀b u,H b=some u->b∉ch:=λb u e z=>by rw[(d b z).1] at e;cases e
 refine I.step (g':=s.gens) (d':=s.drawn) (ch:=ch) (λb g=>⟨(d b g).2.2.2.1,(d b g).2.1,(d b g).2.2.2.2.1,(d b g).2.2.2.2.2⟩) (λb o _ _ a e _=>k b o a e) (λb o _ _ a e _=>⟨o.slots,k b o a e⟩) (λ_ _ _ _ n=>n)
  (λb o a e=>⟨o,k b o a e⟩) (λ_ _ e=>e) (λ_ _ _ e=>e) (λ_ _ e=>e) (λm i=>?_) (λb u e=>?_) I.bare
 ·obtain⟨o,j,l,h,r⟩:=i;exact⟨o,j,l,k _ o (λz=>(d _ z).2.1 rfl) h,r⟩
 ·refine(I.hok b u e).stay (λc v a q=>k c v ?_ q) (λ_ q=>q) λ_ _ q=>q;rcases a with z|z
  ·rw[z];exact f b u e
  ·exact f c _ z
theorem qTU {P:B15}{w:World}{K:PySem.W.Frag}{r:List Expr}{k:Nat}{pos:Pos}(l c e:Addr)(m:e≠c):Turn P w K (.Tuple r k pos) (Ite K l) [e,c] e (λi h=>(∃old,IsEnum h e c i old)/\h.IsListIter c l i) where
 mem:=by simp
 obj:=λi h g b f=>by
  obtain⟨⟨old,d⟩,o,a,_,h4⟩:=g;have e':b=e\/b=c:=by simpa using f
  rcases e' with rfl|rfl
  ·exact⟨_,d,λv z=>by
    have z':A29 _=A71 v:=z;cases z'⟩
  ·exact⟨o,a,λv z=>by rw[h4] at z;cases z⟩
 keep:=λi h h' g kk=>by
  obtain⟨⟨old,d⟩,a⟩:=g;exact⟨⟨old,kk e (by simp) _ d⟩,a.at λo q=>kk c (by simp) o q⟩
 item:=by
  intro X hP hw hK hc i Ab s σ H E I t g hg;subst hP hw hK;obtain⟨xs,x,y,hx⟩:=hg;obtain⟨a7,rv,p,hz⟩:=I.list y;obtain⟨u,hu,ru⟩:=rv.get hx;obtain⟨⟨old,d⟩,a⟩:=g;refine wpAny_pyNext_enum_item d a p.isList (x:=u) (by simpa using hu) m λh' a1 a2 a3 a4 a5=>?_
  refine ⟨_,rfl,wpAny_letOwnedTupleGo_enum a1 fun a b1 b2=>?_⟩;have j:e<s.heap.objs.size:=C0 d;have I1:Inv X Ab σ H { s with heap:=a,toks:=s.toks+1 }:=I.turnedL (ch:=[e,c]) (fun b o f q=>by
   have n:b≠e:=λz=>f (by simp[z])
   have a0:b≠c:=λz=>f (by simp[z])
   exact(b2.2 b n).trans (a5 b o n a0 q)) t
  have hT:H s.heap.objs.size=none:=I.hok.fresh (A7 _);have fT:=I.fpOk (H':=H) (b:=s.heap.objs.size) (A7 _) hT;have gT:a.get? s.heap.objs.size=some {cls:=.type "tuple",data:=.seq #[.int i s.toks,u]}:=(b2.2 _ (R7 j)).trans a3;refine⟨.ref s.heap.objs.size,Ag H s.heap.objs.size (.tup [.int (i:Int),x]),I1.track hT I.sz fT.2.1 fT.2.2.2.2.1 fT.2.2.2.2.2 ⟨by simp only[C3,J9];rw[B16];decide,[.int (i:Int) s.toks,u],.cons ⟨_,rfl⟩ (.cons ru .nil),⟨_,gT,rfl,_,rfl⟩⟩,rfl,
   ⟨_,x,hT,rfl,rfl,λys hy=>by rw[I.list_inj hy y];exact hx⟩,⟨⟨_,b1⟩,a2.at λo q=>(b2.2 c (G4 m)).trans q⟩,λb f=>?_⟩
  have a6:b<s.heap.objs.size:=by
   have e':b=e\/b=c:=by simpa using f
   rcases e' with rfl|rfl
   ·exact j
   ·obtain⟨o,q,_⟩:=a;exact C0 (by assumption)
  rw[qA8 (D1 a6)];exact(t b f).1
 done:=by
  intro X hP hw hK hc i Ab s σ H E I t g hg;subst hP hw hK;obtain⟨xs,y,hx⟩:=hg;obtain⟨a7,rv,p,hz⟩:=I.list y;have hl:=rv.length;obtain⟨⟨old,d⟩,a⟩:=g;exact wpAny_pyNext_enum_end (I.ok.hd hc) d a p.isList (by simp;lia) λh' eb=>⟨rfl,I.turnedL (t':=s.toks) (ch:=[e,c]) (λb o f q=>eb b o (λz=>f (by simp[z])) q) t⟩
 self:=λ_ _ _ _ _ g h=>by
  obtain⟨⟨old,d⟩,a⟩:=g;exact B80 d h
def qg3 (K:PySem.W.Frag)(ta:TA):TI:=λσ H R=>ta σ H λvs H1=>∃l,vs=[.ref l]/\(∃xs,SqL K H1 l xs)/\R (Ite K l) H1
theorem qPG {d:List Expr} {k:Nat} {c:Pos} {a:Expr} {g:TA} {p pos:Pos} (v:Gl X "enumerate") (w:X.mg "enumerate" = none) (hv:B18 "enumerate" = some (.type "enumerate")) (ha:PA X [a] g) (y:B17 [a] X.env=[(false,eval a X.env)]:=by rfl):
  PI X (.Tuple d k c) (.Call (.Name "enumerate" p) [a] [] pos) (qg3 X.K g):=by
 intro i s σ H R I h;refine Call_ (qG6 I v w hv (P3 (thn (ha pos i s σ H _ I h) λus s1 ⟨vs,H1,I1,r1,q1⟩=>?_) y rfl));obtain⟨l,e,⟨xs,x⟩,q⟩:=q1;subst e;obtain⟨u,rfl,m⟩:=qDL r1;cases m;obtain⟨a0,rv,z,hz⟩:=I1.list x;refine call_enumerate_list z.isList λn f t o hk=>?_;refine B80 f ?_;have r:Inv X i σ H1 {s1 with heap:=n}:=I1.kept (t':=s1.toks) hk;refine⟨s1.heap.objs.size+1,[s1.heap.objs.size+1,s1.heap.objs.size],_,_,H1,rfl,r,qTU l s1.heap.objs.size (s1.heap.objs.size+1) (d6 _),⟨⟨_,f⟩,t⟩,λb j=>?_,q⟩;have e':b=s1.heap.objs.size+1\/b=s1.heap.objs.size:=by simpa using j
 rcases e' with rfl|rfl
 ·exact I1.fpOk (W2 _) (I1.hok.fresh (W2 _))
 ·exact I1.fpOk (A7 _) (I1.hok.fresh (A7 _))
theorem qVM {K:PySem.W.Frag}{a:Addr}{xs:List V}{g:TG}{h:TT}{f:TE}{Kf:Hp->Prop}{σ0:St}{H0:Hp}{p:Addr}(Pv:Nat->St->Hp->Prop)(s:Pv 0 σ0 H0)(o:∀i σ H,i<=xs.length->Pv i σ H->SqL K H a xs)
  (t:∀i x σ H T,xs[i]?=some x->Pv i σ H->H T=none->g (.ref T) σ (Ag H T (.tup [.int (i:Int),x])) λσ2 H2=>h σ2 H2 λb H3=>if b=true then f σ2 H3 λy H4=>∃ys,H4 p=some (.lst ys)/\ys.length<B14/\Pv (i+1) σ2 (Ag H4 p (.lst (ys++[y]))) else Pv (i+1) σ2 H3)
  (r:∀σ H,Pv xs.length σ H->Kf H):
  LcG (Ite K a) g h f Kf σ0 H0 p:=by
 refine⟨λi m σ H=>m=xs.length-i/\i<=xs.length/\Pv i σ H,⟨xs.length,by simp,D9 _,s⟩,?_⟩
 rintro i m σ H ⟨rfl,hi,q⟩;have d:=o i σ H hi q;by_cases c:i<xs.length
 ·refine .inr ⟨⟨xs,xs[i],d,by simp[c]⟩,Pv (i+1),λσ' l u=>⟨xs.length-(i+1),by lia,rfl,c,u⟩,λv l y=>?_⟩
  obtain⟨T,x,j,k,n,y⟩:=y;subst k n;exact t i x σ H T (y xs d) q j
 ·have e:i=xs.length:=by lia
  subst e;exact .inl ⟨⟨xs,d,A7 _⟩,r σ H q⟩
theorem qHO {prog:B15}{w:World}{A:Around}{E:Value->Shared->Prop}{s:Shared}{c t:Addr}{i:Nat}{a:Array Value}{x:Value}{Q:Value->Shared->Prop}(b:s.heap.IsTupleIter c t i)(j:s.heap.IsTuple t a)(h:a[i]?=some x)
  (k:∀h':Heap,h'.IsTupleIter c t (i+1)->Heap.SameBut c s.heap h'->Q x {s with heap:=h'}):wpAny (model prog w) A (o5 (.ref c)) Q E s:=by
 obtain⟨o,e,l,d⟩:=id b;obtain⟨n,f,_,m,g⟩:=j;refine B12 (wpAny_callSpecial?_slot b.typeIs T8 (B30 T8 b.typeIs k8 ?_ (j3 _)));show wpAny _ _ (field (.ref c) 0 >>= _) _ _ _;refine B12 (wpAny_field e d rfl ?_);refine B93 rfl ?_;show wpAny _ _ (field (.ref c) 1 >>= _) _ _ _;refine B12 (wpAny_field e d rfl ?_);show wpAny _ _ (seqItems? (.ref t) >>= _) _ _ _;refine B12 (B42 f g ?_);show wpAny _ _ (match a[i]? with|some x=>_|none=>_) _ _ _
 rw[h];refine B12 (B54 e d (by simp) ?_)
 refine B13 ⟨x,rfl,B13 (k _ ⟨_,G5 _ e (d0 (U4 d _)),(p7 o _).trans l,?_⟩ (V9 _ _ _))⟩;rw[U4 d];simp
 rfl
theorem qIK {prog:B15}{w:World}{A:Around}{E:Value->Shared->Prop}{s:Shared}{d t:Addr}{i:Nat}{b:Array Value}{Q:Value->Shared->Prop}(n:A.handled=none)(c:s.heap.IsTupleIter d t i)(p:s.heap.IsTuple t b)(k:b[i]?=none)
  (l:∀(h':Heap) (e:Addr),Heap.ExtBut d s.heap h'->(∃o,h'.get? e=some o/\o.cls=.type "StopIteration")->E (.ref e) {s with heap:=h'}):wpAny (model prog w) A (o5 (.ref d)) Q E s:=by
 obtain⟨o,f,u,h⟩:=id c;obtain⟨r,g,_,q,j⟩:=p;refine B12 (wpAny_callSpecial?_slot c.typeIs T8 (B30 T8 c.typeIs k8 ?_ (j3 _)));show wpAny _ _ (field (.ref d) 0 >>= _) _ _ _;refine B12 (wpAny_field f h rfl ?_);refine B93 rfl ?_;show wpAny _ _ (field (.ref d) 1 >>= _) _ _ _;refine B12 (wpAny_field f h rfl ?_);show wpAny _ _ (seqItems? (.ref t) >>= _) _ _ _;refine B12 (B42 g j ?_);show wpAny _ _ (match b[i]? with|some x=>_|none=>_) _ _ _
 rw[k];refine B12 (B58 ?_);refine B12 (B54 f h (by simp) ?_)
 show wpAny _ _ (newExc (.type "StopIteration") [] >>= _) _ _ _;refine B12 ?_;simp only[newExc,newTuple];refine B12 (B25 ?_ (by size_fits))
 refine B12 (m:=B64 _ _) (B51 (a:=P5) (by first|rfl|(simp only[B64];rfl)) ?_)
 refine B25 ?_ (by size_fits)
 simp only[raiseNew];refine B12 (wpAny_handled ?_);rw[show A.in1.handled=none from n];refine B12 (B13 (wpAny_throw ?_));exact l _ _ (((V9 ..).extBut.push _).push _) ⟨_,B5 _ rfl,rfl⟩
def SIt (b:Bool)(h:Heap)(it l:Addr)(i:Nat):Prop:=match b with|true=>h.IsTupleIter it l i|false=>h.IsListIter it l i
def SSq (b:Bool)(h:Heap)(l:Addr)(xs:Array Value):Prop:=match b with|true=>h.IsTuple l xs|false=>h.IsList l xs
noncomputable abbrev itObj (b:Bool) (l:Addr):Obj:={cls:=.type (match b with|true=>"tuple_iterator" |false=>"list_iterator"),data:=.fields #[.ref l,.int 0 0]}
theorem qSV {b:Bool}{prog:B15}{w:World}{A:Around}{E:Value->Shared->Prop}{s:Shared}{l:Addr}{xs:Array Value}{Q:Value->Shared->Prop}(h:SSq b s.heap l xs)(a:Q (.ref s.heap.objs.size) {s with heap:=s.heap.push (itObj b l)}):wpAny (model prog w) A (pyIter (.ref l)) Q E s:=by
 cases b
 ·exact B34 h a
 ·exact wpAny_pyIter_tuple h a
theorem qTL {M:Model}{A:Around}{E:Value->Shared->Prop}{s:Shared}{c:Value}{Q:Bool->Shared->Prop}(h:∀b,Q b s):wpAny M A (Y0 c) Q E s:=by
 unfold Y0;exact B12 (wpAny_stack_any λa=>B13 (h _))
theorem qWO (l:Addr) (a:Array Value):Meets (Builtin.«enumerate.__new__» {pos:=[.type "enumerate",.ref l]}) λ_ R s=>
  s.heap.IsTuple l a/\R (.ok (.ret (.ref (s.heap.push (itObj true l)).objs.size))) {s with heap:=(s.heap.push (itObj true l)).push {cls:=.type "enumerate",data:=.fields #[.none,.bool false,.ref s.heap.objs.size,rawInt 0,.none,.none]}}:=by
 refine Meets.of_wp λc w A R s h=>?_;obtain⟨k,h⟩:=h;refine B12 ?_;refine B12 (B13 ?_);refine B93 rfl ?_;refine B12 (B51 sub_enumerate ?_);refine B93 rfl ?_;refine B13 ?_;refine wpAny_ite_true rfl ?_;refine B12 (qTL λi=>?_);have g:wpAny (model c w) A.in1 (pyIter (.ref l) >>= λj=>j4 (.type "enumerate") (A33++[j,rawInt 0,.none,.none]) >>= λv=>ret v) (λf d=>∃v,f=.done (.ret v)/\R (.ok (.ret v)) d) (λe d=>R (.error e) d) s:=by
  refine B12 (qSV (b:=true) k ?_);refine B12 ?_;unfold j4;dsimp only;refine B25 ?_ (by first|rfl|(show(6:Nat)<=B14+2;rw[B16];decide))
  exact B13 ⟨_,rfl,h⟩
 cases i
 ·exact g
 ·exact g
theorem qTO {prog:B15}{w:World}{A:Around}{E:Value->Shared->Prop}{s:Shared}{l:Addr}{a:Array Value}{Q:Value->Shared->Prop}(f:s.heap.IsTuple l a)
  (h:∀h':Heap,IsEnum h' (s.heap.objs.size+1) s.heap.objs.size 0 .none->h'.IsTupleIter s.heap.objs.size l 0->h'.objs.size=s.heap.objs.size+2->(∀(b:Addr) (o:Obj),s.heap.get? b=some o->h'.get? b=some o)->Q (.ref (s.heap.objs.size+1)) {s with heap:=h'}):
  wpAny (model prog w) A (call (.type "enumerate") [.ref l]) Q E s:=by
 refine callType_new F.called_enumerate (by decide) (F.typeCall_enumerate_1 _) (F.newCall_enumerate_1 _) (λd=>A18 d _) F.entry_enumerate_new (qWO l a) ⟨f,?_⟩
 have c:(s.heap.push (itObj true l)).objs.size=s.heap.objs.size+1:=P1 ..;rw[c];have g:((s.heap.push (itObj true l)).push {cls:=.type "enumerate",data:=.fields #[.none,.bool false,.ref s.heap.objs.size,rawInt 0,.none,.none]}).get? (s.heap.objs.size+1)=some {cls:=.type "enumerate",data:=.fields #[.none,.bool false,.ref s.heap.objs.size,rawInt 0,.none,.none]}:=by
  rw[<- c];exact B5 _ rfl
 exact⟨⟨_,g,rfl⟩,h _ g ⟨_,A6 _ (B5 _ rfl),rfl,rfl⟩ ((P1 ..).trans (by rw[c])) λb o e=>A6 _ (A6 _ e)⟩
theorem qaR {prog:B15}{w:World}{A:Around}(g:A.handled=none)(d l:Addr)(f:l≠d)(c:Array Value):Draws prog w A d [d,l] c.size (λi v=>c[i]?=some v) λi h=>h.IsTupleIter d l i/\h.IsTuple l c where
 live:=λi h ⟨⟨o,e,_⟩,_⟩=>⟨o,e⟩
 frame:=λi h h' ⟨⟨o,e,r⟩,⟨o2,e2,r2⟩⟩ k=>⟨⟨o,k d (by simp) _ e,r⟩,⟨o2,k l (by simp) _ e2,r2⟩⟩
 item:=λi s Q E hi ⟨h1,h2⟩ hQ=>qHO h1 h2 (E3 hi) λh' a b=>hQ _ h' s.toks (E3 hi) ⟨a,by obtain⟨o,e,r⟩:=h2;exact⟨o,(b.2 l f).trans e,r⟩⟩ b
 done:=λs Q E ⟨h1,h2⟩ hE=>qIK g h1 h2 (by simp) hE
def IteT (K:PySem.W.Frag)(l:Addr):It:=
 ⟨λi H=>∃xs x,SqT K H l xs/\xs[i]?=some x,λi H v H'=>∃T x,H T=none/\v=.ref T/\H'=Ag H T (.tup [.int (i:Int),x])/\∀xs,SqT K H l xs->xs[i]?=some x,λi H=>∃xs,SqT K H l xs/\xs.length=i⟩
theorem qSJ {P:B15}{w:World}{K:PySem.W.Frag}{y:List Expr}{k:Nat}{pos:Pos}(l a e:Addr)(n:e≠a)(hl:l≠a)(a9:l≠e):Turn P w K (.Tuple y k pos) (IteT K l) [e,a] e (λi h=>(∃old,IsEnum h e a i old)/\h.IsTupleIter a l i) where
 mem:=by simp
 obj:=λi h j b g=>by
  obtain⟨⟨old,d⟩,o,f,_,h4⟩:=j;have e':b=e\/b=a:=by simpa using g
  rcases e' with rfl|rfl
  ·exact⟨_,d,λv z=>by
    have z':A29 _=A71 v:=z;cases z'⟩
  ·exact⟨o,f,λv z=>by rw[h4] at z;cases z⟩
 keep:=λi h h' j kk=>by
  obtain⟨⟨old,d⟩,f⟩:=j;exact⟨⟨old,kk e (by simp) _ d⟩,f.at λo q=>kk a (by simp) o q⟩
 item:=by
  intro X hP hw hK hc i Ab s σ H E I hf j hg;subst hP hw hK;obtain⟨xs,x,hq,hx⟩:=hg;obtain⟨c,rv,p,hz⟩:=I.tuple hq;obtain⟨u,hu,ru⟩:=rv.get hx;obtain⟨⟨old,d⟩,f⟩:=j;have m:i<c.toArray.size:=by have:=(A3.mp hu).1;simpa using this
  refine wpAny_pyNext_enum_itemD (qaR (A:=X.A.in1) (I.ok.hd hc) a l hl c.toArray) d ⟨f,p⟩ m n (by simp[n,G4 a9]) λu' h' tk a0 a1 a2 a3 a4 a5=>?_
  have eu:u'=u:=by
   have:c[i]?=some u':=by simpa using a0
   rw[hu] at this;exact(D0 this).symm
  subst eu;refine ⟨_,rfl,wpAny_letOwnedTupleGo_enum a1 fun a6 b1 b2=>?_⟩;have r:e<s.heap.objs.size:=C0 d;have I1:Inv X Ab σ H { s with heap:=a6,toks:=tk+1 }:=I.turnedL (ch:=[e,a]) (fun b o g q=>by
   have t:b≠e:=λz=>g (by simp[z])
   have a7:b≠a:=λz=>g (by simp[z])
   exact(b2.2 b t).trans (a5 b o t a7 q)) hf
  have hT:H s.heap.objs.size=none:=I.hok.fresh (A7 _);have fT:=I.fpOk (H':=H) (b:=s.heap.objs.size) (A7 _) hT;have gT:a6.get? s.heap.objs.size=some {cls:=.type "tuple",data:=.seq #[.int i tk,u']}:=(b2.2 _ (R7 r)).trans a3;refine⟨.ref s.heap.objs.size,Ag H s.heap.objs.size (.tup [.int (i:Int),x]),I1.track hT I.sz fT.2.1 fT.2.2.2.2.1 fT.2.2.2.2.2 ⟨by simp only[C3,J9];rw[B16];decide,[.int (i:Int) tk,u'],.cons ⟨_,rfl⟩ (.cons ru .nil),⟨_,gT,rfl,_,rfl⟩⟩,rfl,
   ⟨_,x,hT,rfl,rfl,λys hy=>by rw[I.tuple_inj hy hq];exact hx⟩,⟨⟨_,b1⟩,a2.1.at λo q=>(b2.2 a (G4 n)).trans q⟩,λb g=>?_⟩
  have a8:b<s.heap.objs.size:=by
   have e':b=e\/b=a:=by simpa using g
   rcases e' with rfl|rfl
   ·exact r
   ·obtain⟨o,q,_⟩:=f;exact C0 q
  rw[qA8 (D1 a8)];exact(hf b g).1
 done:=by
  intro X hP hw hK hc i Ab s σ H E I hf j hg;subst hP hw hK;obtain⟨xs,hq,hx⟩:=hg;obtain⟨c,rv,p,hz⟩:=I.tuple hq;have aa:=rv.length;obtain⟨⟨old,d⟩,f⟩:=j;have m:i=c.toArray.size:=by simp;lia
  subst m;exact wpAny_pyNext_enum_endD (qaR (A:=X.A.in1) (I.ok.hd hc) a l hl c.toArray) d ⟨f,p⟩ λh' eb=>⟨rfl,I.turnedL (t':=s.toks) (ch:=[e,a]) (λb o g q=>eb b o (λz=>g (by simp[z])) q) hf⟩
 self:=λ_ _ _ _ _ j h=>by
  obtain⟨⟨old,d⟩,f⟩:=j;exact B80 d h
def qeB (K:PySem.W.Frag)(ta:TA):TI:=λσ H R=>ta σ H λvs H1=>∃l,vs=[.ref l]/\(∃xs,SqT K H1 l xs)/\R (IteT K l) H1
theorem qYA {f:List Expr} {k:Nat} {c:Pos} {a:Expr} {i:TA} {p pos:Pos} (y:Gl X "enumerate") (z:X.mg "enumerate" = none) (hv:B18 "enumerate" = some (.type "enumerate")) (ha:PA X [a] i) (hs:B17 [a] X.env=[(false,eval a X.env)]:=by rfl):
  PI X (.Tuple f k c) (.Call (.Name "enumerate" p) [a] [] pos) (qeB X.K i):=by
 intro j s σ H R I h;refine Call_ (qG6 I y z hv (P3 (thn (ha pos j s σ H _ I h) λus s1 ⟨vs,H1,I1,r1,q1⟩=>?_) hs rfl));obtain⟨l,e,⟨xs,hq⟩,q⟩:=q1;subst e;obtain⟨u,rfl,r⟩:=qDL r1;cases r;obtain⟨a0,rv,m,hz⟩:=I1.tuple hq;have d:l<s1.heap.objs.size:=by obtain⟨o,e,_⟩:=m;exact C0 e
 refine qTO m λt g x v hk=>?_;refine B80 g ?_;have w:Inv X j σ H1 {s1 with heap:=t}:=I1.kept (t':=s1.toks) hk;refine⟨s1.heap.objs.size+1,[s1.heap.objs.size+1,s1.heap.objs.size],_,_,H1,rfl,w,qSJ l s1.heap.objs.size (s1.heap.objs.size+1) (d6 _) (D1 d) (D1 (M6 d)),⟨⟨_,g⟩,x⟩,λb n=>?_,q⟩;have e':b=s1.heap.objs.size+1\/b=s1.heap.objs.size:=by simpa using n
 rcases e' with rfl|rfl
 ·exact I1.fpOk (W2 _) (I1.hok.fresh (W2 _))
 ·exact I1.fpOk (A7 _) (I1.hok.fresh (A7 _))
theorem qZF:PGet X (rIxL X.K):=by
 intro v s σ H o i ov iv Q I y n h;obtain⟨p,xs,i,z,rfl,rfl,x,l,q⟩:=h;cases y;obtain⟨t,rfl⟩:=n;obtain⟨e,r,g,hz⟩:=I.list x;obtain⟨j,b,m,h3,h4,h5⟩:=qQP l;obtain⟨w,k,c⟩:=r.get m;have u:=r.length;have hn:=qL4;have a:EP X v σ Q w s:=⟨z,H,I,c,q⟩;by_cases f:0<=i
 ·have d:i.toNat=j:=by
   rw[seqIndex_of f h5] at b;exact D0 b
  exact wpAny_getItem_list g.isList f (by lia) (by rw[d];simpa using k) a
 ·have d:(i+(e.toArray.size:Int)).toNat=j:=by
   rw[seqIndex_neg (by lia) h4] at b
   rw[B8,<- u];exact D0 b
  exact wpAny_getItem_list_neg g.isList (by lia) (by rw[B8]<;>lia) (by lia) (by rw[d];simpa using k) a
theorem qWD {K:PySem.W.Frag}{a:Addr}{xs:List V}{g:TG}{d:TS}{D:Ends}{σ0:St}{H0:Hp}(Pv:Nat->St->Hp->Prop)(n:Pv 0 σ0 H0)(k:∀i σ H,i<=xs.length->Pv i σ H->SqT K H a xs)
  (o:∀i x σ H T,xs[i]?=some x->Pv i σ H->H T=none->g (.ref T) σ (Ag H T (.tup [.int (i:Int),x])) λσ2 H2=>d {D with nx:=Pv (i+1),ct:=Pv (i+1),bk:=D.nx} σ2 H2)
  (l:∀σ H,Pv xs.length σ H->D.nx σ H):
  ∃W:Nat->Nat->St->Hp->Prop,(∃m,W 0 m σ0 H0)/\∀i m σ H,W i m σ H->
   ((IteT K a).stop i H/\D.nx σ H)\/((IteT K a).go i H/\∃N:St->Hp->Prop,(∀σ' H',N σ' H'->∃m',m'<m/\W (i+1) m' σ' H')/\∀x H',(IteT K a).yld i H x H'->g x σ H' λσ2 H2=>d {D with nx:=N,ct:=N,bk:=D.nx} σ2 H2):=by
 refine⟨λi m σ H=>m=xs.length-i/\i<=xs.length/\Pv i σ H,⟨xs.length,by simp,D9 _,n⟩,?_⟩
 rintro i m σ H ⟨rfl,hi,q⟩;have c:=k i σ H hi q;by_cases b:i<xs.length
 ·refine .inr ⟨⟨xs,xs[i],c,by simp[b]⟩,Pv (i+1),λσ' H' p=>⟨xs.length-(i+1),by lia,rfl,b,p⟩,λv H' y=>?_⟩
  obtain⟨T,x,f,h,j,y⟩:=y;subst h j;exact o i x σ H T (y xs c) q f
 ·have e:i=xs.length:=by lia
  subst e;exact .inl ⟨⟨xs,c,rfl⟩,l σ H q⟩
open PySem
@[irreducible] def cst (i:Int)(p:Pos):Expr:=.Constant (.int i) 0 p
theorem qVB {P:(St->Hp->Prop)->Prop}{B:St->Hp->Prop}(h:∀N:St->Hp->Prop,(∀σ H,B σ H->N σ H)->P N):∃N:St->Hp->Prop,(∀σ' H',N σ' H'->B σ' H')/\P N:=⟨B,λ_ _ z=>z,h B λ_ _ z=>z⟩
theorem qJX {K:PySem.W.Frag}{a:Addr}{xs:List V}{g:TG}{b:TS}{D:Ends}{σ:St}{H:Hp}(Pv:Nat->St->Hp->Prop)(h:Pv 0 σ H)(e:∀i σ H,i<=xs.length->Pv i σ H->SqL K H a xs)
  (j:∀i x σ H,xs[i]?=some x->Pv i σ H->∀N:St->Hp->Prop,(∀σ H,Pv (i+1) σ H->N σ H)->g x σ H λσ2 H2=>b {D with nx:=N,ct:=N,bk:=D.nx} σ2 H2) (f:∀σ H,Pv xs.length σ H->D.nx σ H):
  ForG (Itl K a) g b D σ H:=
 qFW Pv h e (λi x σ H c d=>j i x σ H c d _ λ_ _ z=>z) f
theorem qLA {lo:Int}{n:Nat}{g:TG}{a:TS}{D:Ends}{σ:St}{H:Hp}(Pv:Nat->St->Hp->Prop)(e:Pv 0 σ H)
  (f:∀i σ H,i<n->Pv i σ H->∀N:St->Hp->Prop,(∀σ H,Pv (i+1) σ H->N σ H)->g (.int (lo+i)) σ H λσ2 H2=>a {D with nx:=N,ct:=N,bk:=D.nx} σ2 H2) (d:∀σ H,Pv n σ H->D.nx σ H):
  ForG (Itr lo n) g a D σ H:=
 qFB Pv e (λi σ H c b=>f i σ H c b _ λ_ _ z=>z) d
@[elab_as_elim] theorem us0 {α:Type}{P:List α->Prop}(a:List α)(b:a.length=0)(h:P []):P a:=by
 match a,b with
 |[],_=>exact h
@[elab_as_elim] theorem us1 {α:Type}{P:List α->Prop}(b:List α)(c:b.length=1)(h:∀a,P [a]):P b:=by
 match b,c with
 |[a],_=>exact h a
@[elab_as_elim] theorem us2 {α:Type}{P:List α->Prop}(c:List α)(d:c.length=2)(h:∀a b,P [a,b]):P c:=by
 match c,d with
 |[a,b],_=>exact h a b
@[elab_as_elim] theorem us3 {α:Type}{P:List α->Prop}(d:List α)(e:d.length=3)(h:∀a b c,P [a,b,c]):P d:=by
 match d,e with
 |[a,b,c],_=>exact h a b c
@[elab_as_elim] theorem us4 {α:Type}{P:List α->Prop}(e:List α)(f:e.length=4)(h:∀a b c d,P [a,b,c,d]):P e:=by
 match e,f with
 |[a,b,c,d],_=>exact h a b c d
end L2
namespace L2.G
open PySem PyProof.Rows
abbrev gSM:=StateT SortSt Sem
class NM where
 nm:Value->Int
 good:Value->Prop
variable[NM]
def gkv (p:Keyed):Int:=NM.nm p.1
def gIK (p:Keyed):Prop:=NM.good p.1
class LtOk (prog:B15)(w:World)(A:Around)(s:Shared)(κ0:B68):Prop where
 lt:∀{x y:Value} {Q:Bool->Shared->Prop} {E:Value->Shared->Prop},NM.good x->NM.good y->Q (decide (NM.nm x<NM.nm y)) s->wpAny (model prog w) A (keyLt' κ0 x y) Q E s
noncomputable def gK (xs:Array Keyed)(i:Nat):Int:=match xs[i]? with
 |some p=>NM.nm p.1
 |none=>0
def gSortedTo (xs:Array Keyed)(k:Nat):Prop:=∀i j,i<=j->j<k->gK xs i<=gK xs j
def qCS (xs:Array Keyed):Prop:=∀p,p∈xs.toList->NM.good p.1
theorem qeE {xs:Array Keyed}{i:Nat}(hi:i<xs.size):gK xs i=NM.nm xs[i].1:=by unfold gK;rw[getElem?_pos xs i hi]
theorem qH3 {xs a:Array Keyed}{i j:Nat}(h:xs[i]?=a[j]?):gK xs i=gK a j:=by unfold gK;rw[h]
theorem qJW {xs:Array Keyed}{a d:Nat}(g:a<xs.size)(f:d<=a)(k:Nat):
  gK (bubble xs a d) k=if k=a-d then gK xs a else if a-d<k/\k<=a then gK xs (k-1) else gK xs k:=by
 have e:=getElem?_bubble g d f k;by_cases c:k=a-d
 ·rw[if_pos c] at e ⊢;exact qH3 e
 ·rw[if_neg c] at e ⊢;by_cases b:a-d<k/\k<=a
  ·rw[if_pos b] at e ⊢;exact qH3 e
  ·rw[if_neg b] at e ⊢;exact qH3 e
theorem qH2 {xs:Array Keyed}{i j:Nat}(b:j<=xs.size)(k:Nat):
  gK (mirror xs i j ((j-i)/2)) k=if i<=k/\k<j then gK xs (i+j-1-k) else gK xs k:=by
 have e:=getElem?_mirror_all (i:=i) b k;by_cases a:i<=k/\k<j
 ·rw[if_pos a] at e ⊢;exact qH3 e
 ·rw[if_neg a] at e ⊢;exact qH3 e
theorem qB6 {xs:Array Keyed}{i j:Nat}(b:j<=xs.size)(a:∀k,i<=k->k<j->gK xs k=gK xs (j-1))(k:Nat):
  gK (mirror xs i j ((j-i)/2)) k=gK xs k:=by
 rw[qH2 b]
 split
 ·rw[a _ (by omega) (by omega),a k (by omega) (by omega)]
 ·rfl
section
variable{prog:B15}{w:World}{A:Around}{E:Value->Shared->Prop}{s:Shared}{κ0:B68}[LtOk prog w A s κ0]
theorem qZA {st:SortSt}{x y:Keyed}{Q:Option Bool->SortSt->Prop}(c:kindOf st=κ0)(b:gIK x)(a:gIK y)(h:Q (some (decide (gkv x<gkv y))) st):wpS (model prog w) A E s (lt' x y) Q st:=by
 rw[lt'_eq];refine B22 (wpS_get ?_);rw[c];refine B22 (wpS_lift (B71 (LtOk.lt b a ⟨rfl,?_⟩)));exact B33 h
theorem qW8 {st:SortSt}{a:Array Keyed}{i:Nat}{x:Keyed}{Q:Keyed->SortSt->Prop}(h:a[i]?=some x)(b:Q x st):wpS (model prog w) A E s (elem' a i) Q st:=by
 rw[elem'_eq,h];exact B33 b
end
end L2.G
namespace L2.G
open PySem PyProof.Rows
variable[NM]
structure gMR (R:Keyed->Keyed->Prop)(all out ra rb:List Keyed):Prop where
 perm:(out++(ra++rb)).Perm all
 up:out.Pairwise R
 ua:ra.Pairwise R
 ub:rb.Pairwise R
 la:∀x∈out,∀y∈ra,R x y
 lb:∀x∈out,∀y∈rb,R x y
theorem qWB {a:Array Keyed}{i:Nat}(h:i<a.size):∃x,a[i]?=some x/\a.toList[i]?=some x/\x∈a.toList:=⟨a[i],E3 h,by simp[h],by simp⟩
end L2.G
namespace L2.G
open PySem PyProof.Rows
variable[NM]
theorem gifT {prog:B15}{w:World}{A:Around}{E:Value->Shared->Prop}{s:Shared}{α:Type}{c:Prop}[Decidable c]{x y:gSM α}{Q:α->SortSt->Prop}{st:SortSt}(h:c)(k:wpS (model prog w) A E s x Q st):wpS (model prog w) A E s (if c then x else y) Q st:=by rw[if_pos h];exact k
theorem gifF {prog:B15}{w:World}{A:Around}{E:Value->Shared->Prop}{s:Shared}{α:Type}{c:Prop}[Decidable c]{x y:gSM α}{Q:α->SortSt->Prop}{st:SortSt}(h:¬c)(k:wpS (model prog w) A E s y Q st):wpS (model prog w) A E s (if c then x else y) Q st:=by rw[if_neg h];exact k
end L2.G
namespace L2.G
open PySem PyProof.Rows
variable[NM]
def gSeg (xs:Array Keyed)(lo hi:Nat):Prop:=∀i j,lo<=i->i<=j->j<hi->gK xs i<=gK xs j
theorem qWC {xs:Array Keyed}{i:Nat}{x:Keyed}(h:xs[i]?=some x):gK xs i=gkv x:=by
 unfold gK;rw[h]
 rfl
section
variable{prog:B15}{w:World}{A:Around}{E:Value->Shared->Prop}{s:Shared}{κ0:B68}[LtOk prog w A s κ0]
structure gSG (κ0:B68)(a₀:Array Keyed)(st:SortSt):Prop where
 perm:(arrOf st).Perm a₀
 kind:kindOf st=κ0
 failed:failedOf st=none
theorem gSG.size {a₀:Array Keyed}{st:SortSt}(h:gSG κ0 a₀ st):(arrOf st).size=a₀.size:=h.perm.size_eq
theorem gSG.ik {a₀:Array Keyed}{st:SortSt}(h:gSG κ0 a₀ st)(a:qCS a₀):∀x∈(arrOf st).toList,gIK x:=λx b=>a x ((X6.mp h.perm).mem_iff.mp b)
end
end L2.G
namespace L2.G
open PySem PyProof.Rows
variable[NM]
def gOut (xs ys:Array Keyed)(lo hi:Nat):Prop:=∀k,k<lo\/hi<=k->gK ys k=gK xs k
theorem gOut.refl (xs:Array Keyed)(lo hi:Nat):gOut xs xs lo hi:=λ_ _=>rfl
theorem gOut.trans {xs b zs:Array Keyed}{lo hi:Nat}(d:gOut xs b lo hi)(c:gOut b zs lo hi):gOut xs zs lo hi:=λk a=>(c k a).trans (d k a)
theorem gOut.wide {xs e:Array Keyed}{lo hi d c:Nat}(h:gOut xs e lo hi)(a:d<=lo)(b:hi<=c):gOut xs e d c:=λk f=>h k (by lia)
theorem gSG.lay {κ0:B68}{a₀:Array Keyed}{st:SortSt}(g:gSG κ0 a₀ st){a:Array Keyed}(p:a.Perm (arrOf st)):gSG κ0 a₀ (setArr st a):=⟨p.trans g.perm,g.kind,g.failed⟩
theorem qQ3 {xs:Array Keyed}{i j:Nat}(a:j<=xs.size):gOut xs (mirror xs i j ((j-i)/2)) i j:=λk b=>by rw[qH2 a,if_neg (by lia)]
section
variable{prog:B15}{w:World}{A:Around}{E:Value->Shared->Prop}{s:Shared}{κ0:B68}[LtOk prog w A s κ0]{a₀:Array Keyed}
theorem qH0 {st:SortSt}{i j:Nat}{Q:Option Bool->SortSt->Prop}(e:qCS a₀)(g:gSG κ0 a₀ st)(hi:i<a₀.size)(l:j<a₀.size)(h:Q (some (decide (gK (arrOf st) i<gK (arrOf st) j))) st):wpS (model prog w) A E s (ltAt' i j) Q st:=by
 have b:i<(arrOf st).size:=by rw[g.size];exact hi
 have a:j<(arrOf st).size:=by rw[g.size];exact l
 obtain⟨x,d,_,f⟩:=qWB b;obtain⟨y,c,_,k⟩:=qWB a;rw[qWC d,qWC c] at h;rw[ltAt'_eq];refine B22 (wpS_get ?_);exact B22 (qW8 d (B22 (qW8 c (qZA g.kind (g.ik e x f) (g.ik e y k) h))))
theorem qZD {st:SortSt}{lo n m:Nat}{Q:Bool->SortSt->Prop}(h0:qCS a₀)(g:gSG κ0 a₀ st)(hn:lo+n<=a₀.size)(a0:m<=n)(u:gSeg (arrOf st) lo (lo+m))
  (h:∀st2,gSG κ0 a₀ st2->B21 st2=B21 st->gSeg (arrOf st2) lo (lo+n)->gOut (arrOf st) (arrOf st2) lo (lo+n)->Q true st2):wpS (model prog w) A E s (binarySort' lo n m) Q st:=by
 rw [binarySort'_eq];refine B22 (wpS_mono (B76 (I:=fun k c st2=>c=(none,())/\gSG κ0 a₀ st2/\B21 st2=B21 st/\gSeg (arrOf st2) lo (lo+min k n)/\gOut (arrOf st) (arrOf st2) lo (lo+n))
  (Q:=λc st2=>c=(none,())/\gSG κ0 a₀ st2/\B21 st2=B21 st/\gSeg (arrOf st2) lo (lo+n)/\gOut (arrOf st) (arrOf st2) lo (lo+n)) ?step ?fin ?init) ?post)
 case post=>
  rintro c st2 ⟨rfl,g2,pe,u2,o2⟩;exact B33 (h st2 g2 pe u2 o2)
 case init=>
  refine⟨rfl,g,rfl,λi j v f hj=>?_,.refl _ _ _⟩;by_cases p:m=0
  ·rw[show i=j by lia]
   exact L7 _
  ·exact u i j v f (by lia)
 case fin=>
  rintro c st2 ⟨hc,g2,pe,u2,o2⟩;rw[show min (max (max m 1) n) n=n by lia] at u2
  exact⟨hc,g2,pe,u2,o2⟩
 case step=>
  rintro k c st2 hak hkn ⟨rfl,g2,pe,u2,o2⟩;rw[show min k n=k by lia] at u2
  have t:lo+k<a₀.size:=by lia
  refine B22 (wpS_mono (B76 (I:=fun x c a=>a=st2/\∃ l r,c=(none,l,r)/\l<=r/\r<=k/\r - l<=k - x/\
    (∀i,lo<=i->i<lo+l->gK (arrOf st2) i<=gK (arrOf st2) (lo+k))/\(∀i,lo+r<=i->i<lo+k->gK (arrOf st2) (lo+k)<gK (arrOf st2) i))
   (Q:=fun c a=>a=st2/\∃ l r,c=(none,l,r)/\l<=k/\
    (∀i,lo<=i->i<lo+l->gK (arrOf st2) i<=gK (arrOf st2) (lo+k))/\(∀i,lo+l<=i->i<lo+k->gK (arrOf st2) (lo+k)<gK (arrOf st2) i)) ?istep ?ifin ?iinit) ?ipost)
  case iinit=>exact⟨rfl,0,k,rfl,by lia,by lia,by lia,λi _ z=>by lia,λi p q=>by lia⟩
  case ifin=>
   rintro c a ⟨rfl,l,r,rfl,hlr,hrk,hm,ha,hb⟩;have e:l=r:=by lia
   rw[<- e] at hb hrk;exact⟨rfl,l,r,rfl,hrk,ha,hb⟩
  case istep=>
   rintro x c a _ hxk ⟨rfl,l,r,rfl,hlr,hrk,hm,ha,hb⟩;dsimp only;by_cases o:l>=r
   ·refine gifT o ?_;have e:l=r:=by lia
    rw[<- e] at hb hrk;exact B33 ⟨rfl,l,r,rfl,hrk,ha,hb⟩
   ·refine gifF o ?_;refine B22 (qH0 h0 g2 t (by lia) ?_)
    by_cases b:gK (arrOf a) (lo+k)<gK (arrOf a) (lo+(l+r)/2)
    ·rw[decide_eq_true b];dsimp only;refine gifT rfl ?_;refine B33 ⟨rfl,l,(l+r)/2,rfl,by lia,by lia,by lia,ha,λi p q=>?_⟩
     have:=u2 (lo+(l+r)/2) i (by lia) p q
     lia
    ·rw[decide_eq_false b];dsimp only;rw[if_neg C2];refine B33 ⟨rfl,(l+r)/2+1,r,rfl,by lia,by lia,by lia,λi y p=>?_,hb⟩
     have:=u2 i (lo+(l+r)/2) y (by lia) (by lia)
     lia
  case ipost=>
   rintro c a ⟨rfl,l,r,rfl,hlk,ha,hb⟩;have d:lo+k<(arrOf a).size:=by rw[g2.size];exact t
   show wpS _ _ _ _ (moveDown' (lo+k) (lo+l) >>= λ_=>pure (O3 (none,()))) _ _;rw[moveDown'_eq];refine B22 (B78 (B33 ⟨rfl,g2.lay (bubble_perm _ _ _),pe,?_,o2.trans ?_⟩))
   ·rw[show min (k+1) n=k+1 by lia]
    intro i j v f hj;show gK (bubble (arrOf a) (lo+k) (lo+k-(lo+l))) i<=gK (bubble (arrOf a) (lo+k) (lo+k-(lo+l))) j;rw[qJW d (by lia),qJW d (by lia),show lo+k-(lo+k-(lo+l))=lo+l by lia]
    repeat' split
    all_goals first
     |(exfalso;lia)
     |exact L7 _
     |exact ha _ (by lia) (by lia)
     |exact m5 (hb _ (by lia) (by lia))
     |exact u2 _ _ (by lia) (by lia) (by lia)
   ·intro i z;show gK (bubble (arrOf a) (lo+k) (lo+k-(lo+l))) i=gK (arrOf a) i;rw[qJW d (by lia),if_neg (by lia),if_neg (by lia)]
abbrev gCUp:=Option (Option Nat)×Nat
abbrev gCDn:=Option (Option Nat)×Nat×Nat
noncomputable def gupL (lo a m:Nat):gSM gCUp:=
 forIn [a:m] ((none,a):gCUp) λ_ c=>do
  let t <- ltAt' (lo+c.snd) (lo+c.snd-1)
  match t with
  |some less=>if less=true then pure (c7 (none,c.snd)) else pure (O3 (none,c.snd+1))
  |_=>pure (c7 (some none,c.snd))
noncomputable def qW9 (lo n m:Nat):gSM (Option Nat):=do
 reverseSlice' lo (lo+n)
 let c <- gupL lo n m
 match c.fst with
 |some r=>pure r
 |none=>pure (some c.snd)
noncomputable def gdnL (lo n m:Nat):gSM gCDn:=
 forIn [n:m] ((none,n,0):gCDn) λ_ c=>do
  let t <- ltAt' (lo+c.snd.fst) (lo+c.snd.fst-1)
  match t with
  |some less=>
   if less=true then
    if c.snd.snd>0 then do
     reverseSlice' (lo+c.snd.fst-(c.snd.snd+1)) (lo+c.snd.fst)
     pure (O3 (none,c.snd.fst+1,0))
    else pure (O3 (none,c.snd.fst+1,0))
   else do
    let t <- ltAt' (lo+c.snd.fst-1) (lo+c.snd.fst)
    match t with
    |some more=>
     if more=true then pure (c7 (none,c.snd.fst,c.snd.snd))
     else pure (O3 (none,c.snd.fst+1,c.snd.snd+1))
    |_=>pure (c7 (some none,c.snd.fst,c.snd.snd))
  |_=>pure (c7 (some none,c.snd.fst,c.snd.snd))
noncomputable def gdnP (lo n m:Nat):gSM (Option Nat):=do
 liftM (rule "list.sort.descending-run")
 let c <- gdnL lo (n+1) m
 match c.fst with
 |some r=>pure r
 |none=>
  if c.snd.snd>0 then do
   reverseSlice' (lo+c.snd.fst-(c.snd.snd+1)) (lo+c.snd.fst)
   qW9 lo c.snd.fst m
  else qW9 lo c.snd.fst m
theorem qBJ {α β:Type}{x y:gSM α}{f g:α->gSM β}(h:x=y)(k:∀a,f a=g a):(x >>= f)=(y >>= g):=by rw[h,show f=g from funext k]
theorem qWA (lo m:Nat):countRun' lo m=(do
  let c <- gupL lo 1 m
  match c.fst with
  |some r=>pure r
  |none=>
   if(c.snd==m)=true then pure (some c.snd)
   else if c.snd>1 then do
    let t <- ltAt' lo (lo+c.snd-1)
    match t with
    |some rose=>if rose=true then pure (some c.snd) else do
      reverseSlice' lo (lo+c.snd)
      gdnP lo c.snd m
    |_=>pure none
   else gdnP lo c.snd m):=by
 rw[countRun'_eq];unfold gdnP qW9 gdnL gupL;refine qBJ rfl λc=>?_;obtain⟨r,n⟩:=c;cases r with
 |some r=>rfl
 |none=>
  have f:∀c3:gCUp,(match c3.fst with|some r=>pure r|none=>pure (some c3.snd):gSM (Option Nat))=(match c3.fst with|some r=>pure r|none=>pure (some c3.snd)):=λ_=>rfl
  dsimp only
  split
  ·rfl
  ·split
   ·refine qBJ rfl λx=>?_;cases x with
    |none=>rfl
    |some rose=>
     dsimp only
     split
     ·rfl
     ·refine qBJ rfl λ_=>qBJ rfl λ_=>qBJ rfl λe=>?_;obtain⟨b,h,g⟩:=e;cases b with
      |some b=>rfl
      |none=>
       dsimp only
       split
       ·refine qBJ rfl λ_=>qBJ rfl λ_=>qBJ rfl λc3=>?_;obtain⟨a,d⟩:=c3;cases a<;>rfl
       ·refine qBJ rfl λ_=>qBJ rfl λc3=>?_;obtain⟨a,d⟩:=c3;cases a<;>rfl
   ·refine qBJ rfl λ_=>qBJ rfl λe=>?_;obtain⟨b,h,g⟩:=e;cases b with
    |some b=>rfl
    |none=>
     dsimp only
     split
     ·refine qBJ rfl λ_=>qBJ rfl λ_=>qBJ rfl λc3=>?_;obtain⟨a,d⟩:=c3;cases a<;>rfl
     ·refine qBJ rfl λ_=>qBJ rfl λc3=>?_;obtain⟨a,d⟩:=c3;cases a<;>rfl
def gFal (xs:Array Keyed)(lo hi:Nat):Prop:=∀i j,lo<=i->i<=j->j<hi->gK xs j<=gK xs i
theorem qRW {st:SortSt}{lo a m:Nat}{Q:gCUp->SortSt->Prop}(q:qCS a₀)(g:gSG κ0 a₀ st)(r:lo+m<=a₀.size)(t:1<=a)(f:a<=m)(u:gSeg (arrOf st) lo (lo+a))
  (h:∀n,a<=n->n<=m->gSeg (arrOf st) lo (lo+n)->(n=m\/gK (arrOf st) (lo+n)<gK (arrOf st) (lo+n-1))->Q (none,n) st):wpS (model prog w) A E s (gupL lo a m) Q st:=by
 unfold gupL;refine B76 (I:=λx c d=>d=st/\c=(none,x)/\gSeg (arrOf st) lo (lo+x)) ?step ?fin ⟨rfl,rfl,u⟩
 case fin=>
  rintro c d ⟨rfl,rfl,u2⟩;rw[show max a m=m by lia] at u2 ⊢
  exact h m f (A7 _) u2 (.inl rfl)
 case step=>
  rintro x c d hax hxn ⟨rfl,rfl,u2⟩;dsimp only;refine B22 (qH0 q g (by lia) (by lia) ?_)
  by_cases b:gK (arrOf d) (lo+x)<gK (arrOf d) (lo+x-1)
  ·rw[decide_eq_true b];dsimp only;refine gifT rfl ?_;exact B33 (h x hax (by lia) u2 (.inr b))
  ·rw[decide_eq_false b];dsimp only;rw[if_neg C2];refine B33 ⟨rfl,rfl,λi j l e v=>?_⟩;by_cases k:j<lo+x
   ·exact u2 i j l e k
   ·have p:j=lo+x:=by lia
    rw[p];by_cases o:i=lo+x
    ·rw[o];exact L7 _
    ·have:=u2 i (lo+x-1) l (by lia) (by lia)
     lia
theorem qNW {st:SortSt}{lo n m:Nat}{Q:Option Nat->SortSt->Prop}(p:qCS a₀)(g:gSG κ0 a₀ st)(f:lo+m<=a₀.size)(l:1<=n)(b:n<=m)(u:gFal (arrOf st) lo (lo+n))
  (h:∀k st2,gSG κ0 a₀ st2->B21 st2=B21 st->1<=k->k<=m->gSeg (arrOf st2) lo (lo+k)->gOut (arrOf st) (arrOf st2) lo (lo+m)->Q (some k) st2):wpS (model prog w) A E s (qW9 lo n m) Q st:=by
 unfold qW9;have a:lo+n<=(arrOf st).size:=by rw[g.size];lia
 rw[B83];refine B22 (B78 ?_);have d:gSG κ0 a₀ (setArr st (mirror (arrOf st) lo (lo+n) ((lo+n-lo)/2))):=g.lay (mirror_perm _ _ _ _);refine B22 (qRW p d f l b ?_ λk e c q _=>B33 (h k _ d rfl (by lia) c q ((qQ3 a).wide (A7 _) (by lia))))
 intro i j r o t;show gK (mirror (arrOf st) lo (lo+n) ((lo+n-lo)/2)) i<=gK (mirror (arrOf st) lo (lo+n) ((lo+n-lo)/2)) j;rw[qH2 a,qH2 a,if_pos (by lia),if_pos (by lia)]
 exact u _ _ (by lia) (by lia) (by lia)
theorem qZB {st:SortSt}{lo n m:Nat}{Q:gCDn->SortSt->Prop}(h0:qCS a₀)(g:gSG κ0 a₀ st)(hm:lo+m<=a₀.size)(t:1<=n)(y:n<=m)(u:gFal (arrOf st) lo (lo+n))
  (h:∀k e st2,gSG κ0 a₀ st2->B21 st2=B21 st->n<=k->k<=m->gFal (arrOf st2) lo (lo+k)->e+1<=k->(∀i,lo+k-(e+1)<=i->i<lo+k->gK (arrOf st2) i=gK (arrOf st2) (lo+k-1))->gOut (arrOf st) (arrOf st2) lo (lo+m)->Q (none,k,e) st2):
  wpS (model prog w) A E s (gdnL lo n m) Q st:=by
 unfold gdnL;refine B76 (I:=fun x c st2=>∃ e,c=(none,x,e)/\gSG κ0 a₀ st2/\B21 st2=B21 st/\gFal (arrOf st2) lo (lo+x)/\e+1<=x/\
   (∀i,lo+x-(e+1)<=i->i<lo+x->gK (arrOf st2) i=gK (arrOf st2) (lo+x-1))/\gOut (arrOf st) (arrOf st2) lo (lo+m)) ?step ?fin ⟨0,rfl,g,rfl,u,by lia,λi t v=>by congr 1;lia,.refl _ _ _⟩
 case fin=>
  rintro c st2 ⟨e,rfl,g2,pe,u2,hq,he,o2⟩;rw[show max n m=m by lia] at u2 hq he ⊢
  exact h m e st2 g2 pe y (A7 _) u2 hq he o2
 case step=>
  rintro x c st2 hax hxn ⟨e,rfl,g2,pe,u2,hq,he,o2⟩;dsimp only;have p:lo+x<=(arrOf st2).size:=by rw[g2.size];lia
  refine B22 (qH0 h0 g2 (by lia) (by lia) ?_)
  by_cases b:gK (arrOf st2) (lo+x)<gK (arrOf st2) (lo+x-1)
  ·rw[decide_eq_true b];dsimp only;refine gifT rfl ?_;have a:∀ys:Array Keyed,(∀k,gK ys k=gK (arrOf st2) k)->gFal ys lo (lo+(x+1)):=by
    intro ys hk i j q f hj;rw[hk,hk];by_cases l:j<lo+x
    ·exact u2 i j q f l
    ·have z:j=lo+x:=by lia
     rw[z];by_cases o:i=lo+x
     ·rw[o];exact L7 _
     ·have:=u2 i (lo+x-1) q (by lia) (by lia)
      lia
   by_cases d:e>0
   ·rw[if_pos d,B83];refine B22 (B78 (B33 ⟨0,rfl,g2.lay (mirror_perm _ _ _ _),pe,a _ (qB6 p he),by lia,λi t v=>by congr 1;lia,o2.trans ?_⟩))
    exactλk _=>qB6 p he k
   ·refine gifF d ?_;exact B33 ⟨0,rfl,g2,pe,a _ (λ_=>rfl),by lia,λi t v=>by congr 1;lia,o2⟩
  ·rw[decide_eq_false b];dsimp only;rw[if_neg C2];refine B22 (qH0 h0 g2 (by lia) (by lia) ?_)
   by_cases r:gK (arrOf st2) (lo+x-1)<gK (arrOf st2) (lo+x)
   ·rw[decide_eq_true r];dsimp only;refine gifT rfl ?_;exact B33 (h x e st2 g2 pe hax (by lia) u2 hq he o2)
   ·rw[decide_eq_false r];dsimp only;rw[if_neg C2];have ex:gK (arrOf st2) (lo+x)=gK (arrOf st2) (lo+x-1):=by lia
    refine B33 ⟨e+1,rfl,g2,pe,λi j q f hj=>?_,by lia,λi t v=>?_,o2⟩
    ·by_cases l:j<lo+x
     ·exact u2 i j q f l
     ·have z:j=lo+x:=by lia
      rw[z];by_cases o:i=lo+x
      ·rw[o];exact L7 _
      ·rw[ex];exact u2 i (lo+x-1) q (by lia) (by lia)
    ·rw[show lo+(x+1)-1=lo+x by lia]
     by_cases o:i=lo+x
     ·rw[o]
     ·rw[ex];exact he i (by lia) (by lia)
theorem qRX {st:SortSt}{lo n m:Nat}{Q:Option Nat->SortSt->Prop}(p:qCS a₀)(g:gSG κ0 a₀ st)(y:lo+m<=a₀.size)(x:n+1<=m)(u:gFal (arrOf st) lo (lo+(n+1)))
  (h:∀k st2,gSG κ0 a₀ st2->B21 st2=B21 st->1<=k->k<=m->gSeg (arrOf st2) lo (lo+k)->gOut (arrOf st) (arrOf st2) lo (lo+m)->Q (some k) st2):wpS (model prog w) A E s (gdnP lo n m) Q st:=by
 unfold gdnP;refine B22 (wpS_lift (B58 ⟨rfl,?_⟩));refine B22 (qZB p g y (by lia) x u λk e st2 t pe a0 f u2 hq l o2=>?_)
 dsimp only;have b:lo+k<=(arrOf st2).size:=by rw[t.size];lia
 by_cases a:e>0
 ·rw[if_pos a,B83];refine B22 (B78 (qNW p (t.lay (mirror_perm _ _ _ _)) y (by lia) f ?_ λv d q c a1 o u3 z=>h v d q (c.trans pe) a1 o u3 ?_))
  ·intro i j hl r hj;show gK (mirror (arrOf st2) _ _ _) j<=gK (mirror (arrOf st2) _ _ _) i;rw[qB6 b l,qB6 b l];exact u2 i j hl r hj
  ·exact o2.trans (gOut.trans (λk _=>qB6 b l k) z)
 ·refine gifF a ?_;exact qNW p t y (by lia) f u2 λv d q c a1 o u3 z=>h v d q (c.trans pe) a1 o u3 (o2.trans z)
theorem qZC {st:SortSt}{lo m:Nat}{Q:Option Nat->SortSt->Prop}(t:qCS a₀)(g:gSG κ0 a₀ st)(x:lo+m<=a₀.size)(h1:1<=m)
  (h:∀k st2,gSG κ0 a₀ st2->B21 st2=B21 st->1<=k->k<=m->gSeg (arrOf st2) lo (lo+k)->gOut (arrOf st) (arrOf st2) lo (lo+m)->Q (some k) st2):wpS (model prog w) A E s (countRun' lo m) Q st:=by
 rw[qWA];refine B22 (qRW t g x (A7 1) h1 (λi j d l hj=>by rw[show i=j by lia];exact L7 _) λn q p u or=>?_)
 dsimp only;by_cases e:n=m
 ·refine gifT (by simpa using e) ?_
  exact B33 (h n st g rfl q p u (.refl _ _ _))
 ·refine gifF (by simpa using e) ?_
  have f:gK (arrOf st) (lo+n)<gK (arrOf st) (lo+n-1):=or.resolve_left e;by_cases o:n>1
  ·refine gifT o ?_;refine B22 (qH0 t g (by lia) (by lia) ?_)
   by_cases b:gK (arrOf st) lo<gK (arrOf st) (lo+n-1)
   ·rw[decide_eq_true b];dsimp only;refine gifT rfl ?_;exact B33 (h n st g rfl q p u (.refl _ _ _))
   ·rw[decide_eq_false b];dsimp only;rw[if_neg C2,B83];have c:lo+n<=(arrOf st).size:=by rw[g.size];lia
    have a:∀k,lo<=k->k<lo+n->gK (arrOf st) k=gK (arrOf st) (lo+n-1):=by
     intro k d hk;have a1:=u lo k (by lia) d hk
     have a2:=u k (lo+n-1) d (by lia) (by lia)
     lia
    refine B22 (B78 (qRX t (g.lay (mirror_perm _ _ _ _)) x (by lia) ?_ λk st2 g2 pe a1 a2 u2 o2=>h k st2 g2 pe a1 a2 u2 (gOut.trans (λk _=>qB6 c a k) o2)))
    intro i j d l hj;show gK (mirror (arrOf st) _ _ _) j<=gK (mirror (arrOf st) _ _ _) i;rw[qB6 c a,qB6 c a];by_cases y:j<lo+n
    ·rw[a i d (by lia),a j (by lia) y]
     exact L7 _
    ·have v:j=lo+n:=by lia
     rw[v];by_cases r:i=lo+n
     ·rw[r];exact L7 _
     ·rw[a i d (by lia)]
      exact m5 f
  ·refine gifF o ?_;have z:n=1:=by lia
   rw[z] at f;rw[z];refine qRX t g x (by lia) ?_ h
   intro i j d l hj;by_cases r:i=j
   ·rw[r];exact L7 _
   ·have r:i=lo:=by lia
    have v:j=lo+1:=by lia
    rw[r,v];exact m5 f
end
end L2.G
namespace L2.G
open PySem PyProof.Rows
variable[NM]
def qZG (xs:Array Keyed):List (Nat×Nat×Nat)->Nat->Nat->Prop
 |[],a,b=>a=b
 |r::rs,a,b=>r.1=a/\0<r.2.1/\gSeg xs a (a+r.2.1)/\qZG xs rs (a+r.2.1) b
section
variable{prog:B15}{w:World}{A:Around}{E:Value->Shared->Prop}{s:Shared}{κ0:B68}[LtOk prog w A s κ0]{a₀:Array Keyed}
theorem qZE:∀n:Nat,n<64->minRun' n n 0=n
 |0,_=>rfl
 |n+1,h=>if_pos h
theorem gwpS_runs (hs:a₀.size<64){st:SortSt}{Q:Unit->SortSt->Prop}(y:qCS a₀)(g:gSG κ0 a₀ st)(hp:B21 st=#[])(h:∀st2,gSG κ0 a₀ st2->gSortedTo (arrOf st2) a₀.size->Q () st2):wpS (model prog w) A E s sortRuns' Q st:=by
 rw [sortRuns'_eq];refine B22 (wpS_get ?_);dsimp only;rw [g.size,qZE _ hs];refine B22 (wpS_mono (B76
  (I:=λx c st2=>∃lo,c=(none,lo)/\x<=lo/\lo<=a₀.size/\gSG κ0 a₀ st2/\qZG (arrOf st2) (B21 st2).toList 0 lo/\(lo=0/\B21 st2=#[]\/lo=a₀.size/\(B21 st2).size<=1))
  (Q:=λc st2=>c.1=none/\gSG κ0 a₀ st2/\qZG (arrOf st2) (B21 st2).toList 0 a₀.size/\(B21 st2).size<=1) ?step ?fin ⟨0,rfl,A7 _,D9 _,g,by rw[hp];rfl,.inl ⟨rfl,hp⟩⟩) ?post)
 case fin=>
  rintro c st2 ⟨lo,rfl,h1,h2,g2,r2,d2⟩;have e:lo=a₀.size:=by lia
  rw[e] at r2;refine⟨rfl,g2,r2,?_⟩;rcases d2 with⟨_,d2⟩|⟨_,d2⟩
  ·rw[d2];exact D9 _
  ·exact d2
 case post=>
  rintro ⟨c,lo⟩ st2 ⟨e,g2,r2,o⟩;cases (show c=none from e);dsimp only;refine B22 (wpS_mono (B76 (I:=fun x c a=>c=(none,())/\a=st2)
   (Q:=λc a=>c=(none,())/\a=st2) ?_ ?_ ⟨rfl,rfl⟩) ?_)
  ·rintro x c a _ _ ⟨rfl,rfl⟩;refine B22 (wpS_get ?_);rw[if_pos o];exact B33 ⟨rfl,rfl⟩
  ·rintro c a ⟨e,g3⟩;exact⟨e,g3⟩
  ·rintro c a ⟨rfl,rfl⟩;refine B33 (h a g2 ?_);have q:(B21 a).toList.length<=1:=by simpa using o
   generalize (B21 a).toList=l at r2 q
   match l,r2,q with
   |[],r3,_=>
    have e:0=a₀.size:=r3;intro i j _ hj
    lia
   |[r],r3,_=>
    have e:0+r.2.1=a₀.size:=r3.2.2.2;intro i j t hj;exact r3.2.2.1 i j (D9 _) t (by lia)
   |_::_::_,_,q=>simp at q
 case step=>
  rintro x c st2 _ hx ⟨lo,rfl,hxl,hlo,g2,r2,d2⟩;dsimp only;by_cases z:lo>=a₀.size
  ·rw[if_pos z];have e:lo=a₀.size:=by lia
   rw[e] at r2;refine B33 ⟨rfl,g2,r2,?_⟩;rcases d2 with⟨_,d2⟩|⟨_,d2⟩
   ·rw[d2];exact D9 _
   ·exact d2
  rw[if_neg z];obtain⟨e0,u⟩:lo=0/\B21 st2=#[]:=by
   rcases d2 with d2|⟨d2,_⟩
   ·exact d2
   ·lia
  subst e0;refine B22 (qZC y g2 (by lia) (by lia) λk a g3 b k1 k2 u3 o3=>?_)
  rw[u] at b;dsimp only;have d:∀(st5:SortSt) (n:Nat),gSG κ0 a₀ st5->n=a₀.size->1<=n->gSeg (arrOf st5) 0 (0+n)->B21 st5=#[]->
    ∃lo,((none,0+n):Option Unit×Nat)=(none,lo)/\x+1<=lo/\lo<=a₀.size/\gSG κ0 a₀ (setPending st5 ((B21 st5).push (0,n,0)))/\qZG (arrOf st5) ((B21 st5).push (0,n,0)).toList 0 lo/\(lo=0/\(B21 st5).push (0,n,0)=#[]\/lo=a₀.size/\((B21 st5).push (0,n,0)).size<=1):=by
   intro st5 n v en h1 u5 p;refine⟨0+n,rfl,by lia,by lia,⟨v.perm,v.kind,v.failed⟩,?_,.inr ⟨by lia,?_⟩⟩
   ·rw[p];exact⟨rfl,h1,u5,rfl⟩
   ·rw[p];exact A7 _
  by_cases c2:k<a₀.size
  ·rw[if_pos c2];refine B22 (wpS_lift (B58 ⟨rfl,?_⟩));refine B22 (qZD y g3 (by lia) (by lia) u3 λm g4 f u4 o4=>?_)
   rw[b] at f;rw[if_neg (by simp)]
   refine B22 (wpS_get ?_);rw[show(B21 m).back?=none by rw[f];rfl]
   dsimp only;refine B22 (B78 (B33 ?_));exact d m _ g4 (by lia) (by lia) u4 f
  ·rw[if_neg c2];refine B22 (wpS_get ?_);rw[show(B21 a).back?=none by rw[b];rfl]
   dsimp only;refine B22 (B78 (B33 ?_));exact d a _ g3 (by lia) (by lia) u3 b
end
end L2.G
namespace L2
open PySem PySem.Spec PyProof.Rows
variable{prog:B15}{w:World}{A:Around}{E:Value->Shared->Prop}{s:Shared}
theorem qU9 {a:Addr} {vs:List Value} {ns:List Int} {n:Nat} {P:Fin->Shared->Prop} (l:s.heap.get? a=some (seqObj "list" vs.toArray n)) (e:B19 vs ns) (hs:vs.length<64) (z:vs.length<=B14)
  (h:∀(out:Array Value) (zs:List Int),B19 out.toList zs->zs.Perm ns->zs.Pairwise (·<=·)->P (.done (.ret .none)) {s with heap:=sortedHeap s.heap a vs out}):wpAny (model prog w) A (Builtin.«list.sort» ⟨[.ref a],[]⟩) P E s:=by
 have q:=C0 l;have z0:vs.toArray.size<=B14:=by simpa using z
 rw[list_sort_plain];refine B12 (listItems_at l rfl (B12 (B39 l rfl ?_ z0 (D9 _))));have f:∃k,(s.heap.update a (G0 λ_=>#[])).get? a=some (seqObj "list" #[] k):=⟨_,get?_update_seq l λ_=>#[]⟩;obtain⟨k,f⟩:=f;refine B12 (B61 f rfl (B12 (wpAny_newTuple ?_ (by simpa using z))))
 refine B12 (B56 (B20 ?_));have o:(((s.heap.update a (G0 λ_=>#[])).push (seqObj "tuple" vs.toArray 0)).push (seqObj "list" #[] 0)).get? a=some (seqObj "list" #[] k):=by
  rw[b8,b8]
  ·exact f
  ·rw[d7];exact D1 q
  ·rw[size_push',d7];exact D1 (M6 q)
 have d:∀xs:Array Keyed,xs.Perm (B37 vs)->SortedTo xs (B37 vs).size->P (.done (.ret .none)) {s with heap:=sortedHeap s.heap a vs (xs.map (·.2))}:=by
  intro xs p sx;obtain⟨zs,q1,q2,q3⟩:=sorted_out e p sx;exact h _ zs q1 q2 q3
 have r:∀xs:Array Keyed,xs.Perm (B37 vs)->(xs.map (·.2)).size<=B14+1:=by
  intro xs p;rw[A26,p.size_eq,pairsOf_size]
  lia
 show wpAny _ A _ P E {s with heap:=((s.heap.update a (G0 λ_=>#[])).push (seqObj "tuple" vs.toArray 0)).push (seqObj "list" #[] 0)};dsimp only;by_cases b:vs.toArray.size<2
 ·simp only[if_pos b];refine B12 (B13 ?_);rw[A07];refine B12 (B13 (B12 (B61 o rfl (B12 (B39 o rfl ?_ (D9 _) (r (B37 vs) (.refl _)))))));simp only[bne_self_eq_false,E8,if_false];refine B13 (d (B37 vs) (.refl _) λi j a0 hj=>?_);rw[pairsOf_size] at hj;rw[B8] at b;rw[show i=j by lia]
  exact L7 _
 ·simp only[if_neg b];have kk:keyKind' vs.toArray=pure B84:=by
   match vs,b,e with
   |[],b,_=>exact absurd (by simp) b
   |[_],b,_=>exact absurd (by simp) b
   |_::_::_,_,e=>exact keyKind_ints e
  rw[kk]
  letI:G.NM:=⟨numOf,λv=>∃n t,v=.int n t⟩
  haveI:G.LtOk prog w A {s with heap:=((s.heap.update a (G0 λ_=>#[])).push (seqObj "tuple" vs.toArray 0)).push (seqObj "list" #[] 0)} B84:=⟨λ{x y Q E} hx hy h=>by
   obtain⟨n,t,rfl⟩:=hx;obtain⟨m,u,rfl⟩:=hy;rw[keyLt'_oneType];exact oneLt_int h⟩
  refine B12 (B13 (B12 (B23 (G.gwpS_runs (κ0:=B84) (a₀:=B37 vs) (Q:=λ_ c=>G.gSG B84 (B37 vs) c/\G.gSortedTo (arrOf c) (B37 vs).size) (by simpa[B37] using hs) e.intKeys ⟨.refl _,rfl,rfl⟩ rfl λc g u=>⟨g,u⟩) ?_ λ_ _ x=>x)))
  rintro⟨_,c⟩ s2 ⟨es,g,u⟩;cases(show s2=_ from es);refine B12 (B61 o rfl (B12 (B39 o rfl ?_ (D9 _) (r _ g.perm))));dsimp only;rw[g.failed];simp only[bne_self_eq_false,E8,if_false];exact B13 (d _ g.perm u)
variable{X:Cx}
theorem qU8 {Ab:List (Addr×Obj)}{s:Shared}{σ:St}{H:Hp}{Q:VK}{A:Around}{E:Value->Shared->Prop}{ns:List Int}{D:Addr}(I:Inv X Ab σ (Ag H D (.lst (ns.map V.int))) s)(p:ns.length<64)
  (q:∀zs:List Int,zs.Perm ns->zs.Pairwise (·<=·)->Q (.ref D) (Ag H D (.lst (zs.map V.int)))):
  wpAny (model X.prog X.w) A (call (.builtin "list.sort") [.ref D]) (λ_ s'=>EP X Ab σ Q (.ref D) s') E s:=by
 obtain⟨z,g,n,h,t,e⟩:=I.lstM qA1;have j:=qBB h;have a:=h.length;refine B30 slot_list_sort ⟨_,e,rfl⟩ B92 (qU9 (ns:=ns) (n:=n) e j (by rw[<- a,A0];exact p) (by rw[<- a];exact z) λout zs r i k=>⟨_,rfl,?_⟩) (args_list_sort _)
 obtain⟨o,d⟩:=sortedHeap_at (vs:=g) (out:=out) e;refine⟨.ref D,Ag H D (.lst (zs.map V.int)),?_,rfl,q zs i k⟩;have m:Ag (Ag H D (.lst (ns.map V.int))) D (.lst (zs.map V.int))=Ag H D (.lst (zs.map V.int)):=qHH;rw[<- m];refine I.write (x:=D) (e:=D) (t':=s.toks) (by rw[qA1];exact trivial) (.inl rfl) (λb u l c=>?_) ⟨_,d⟩ ?_
 ·rw[sortedHeap_old l (C0 c)];exact c
 ·refine⟨?_,out.toList,o,qDS r,by simpa using d⟩
  rw[A0,i.length_eq,<- A0 (f:=V.int)];exact z
theorem qW4:∀{vs:List Value} {ns:List Int},vs.length=ns.length->(∀(i:Nat) (v:Value),vs[i]?=some v->∃n t,ns[i]?=some n/\v=.int n t)->B19 vs ns
 |[],[],_,_=>.nil
 |[],_::_,h,_=>by simp at h
 |_::_,[],h,_=>by simp at h
 |v::vs,n::ns,h,f=>by
  obtain⟨m,t,e1,e2⟩:=f 0 v rfl;cases(show n=m from D0 e1);rw[e2];exact .cons _ _ (qW4 (by simpa using h) λi u hu=>by simpa using f (i+1) u (by simpa using hu))
theorem qc5 {κ:Type}:∀{Af:List (κ×V)} {vs:List (κ×Value)},KV Af vs->Af.map (·.1)=vs.map (·.1):=by
 intro Af vs r;unfold KV at r
 induction r with
 |nil=>rfl
 |cons h t ih=>rw[C7,C7,ih,h.1]
theorem qIC (hc:X.calm=true):qCO X (.builtin "sorted") (fun xs H Q=>∃ p ns,xs=[.ref p]/\(SqL X.K H p (ns.map V.int)\/SqT X.K H p (ns.map V.int)\/∃ Af,H p=some (.dK Af)/\Af.map (·.1)=ns.map D7)/\ns.length<64/\
  ∀(a:Addr) (zs:List Int),H a=none->zs.Perm ns->zs.Pairwise (·<=·)->Q (.ref a) (Ag H a (.lst (zs.map V.int)))):=by
 intro Ab s σ H xs us Q I r h;obtain ⟨p,ns,rfl,hq,a0,q⟩:=h;obtain ⟨u,rfl,rx⟩:=qDL r;cases rx;refine n8 kind_sorted plain_sorted entry_sorted (args_sorted1 _) ?_;unfold Builtin.«sorted»;refine B12 (m:=checkCount "sorted" 1 1 _) (B13 ?_);have f:∀ (s1:Shared) (vs:List Value) (zs:List Int),Inv X Ab σ H s1->B19 vs zs->zs.length<=B14->zs.Perm ns->wpAny (model X.prog X.w) X.A.in1 (do
   let l <- newList vs
   let _ <- B46 [l] (call (.builtin "list.sort") [l] [])
   ret l) (λf s'=>∃r,f=.done (.ret r)/\EP X Ab σ Q r s') X.xe s1:=by
  intro s1 vs zs I1 hv d hp;have c:=IntsAre.length hv;refine B12 (B56 ?_ (by rw[c];exact d))
  have hf:=I1.hok.fresh (A7 s1.heap.objs.size);refine B12 (B20 (B23 (qU8 (E:=X.xe) (qHP I1 hv d) (by rw[hp.length_eq];exact a0) λzs a b=>q _ zs hf (a.trans hp) b) (λ_ s' x=>?_) λ_ _ e=>e))
  exact B13 ⟨_,rfl,x⟩
 rcases hq with hq|hq|⟨Af,hq,hk⟩
 ·obtain⟨a1,rv,pl,d⟩:=I.list hq;obtain⟨o,ho,j,n,hd⟩:=pl.isList;have c:=rv.length;refine B12 (B44 p (.inl rfl) ho j hd (λh' hk=>?_) (by rw[B8,<- c];exact d))
  exact f _ _ ns (I.kept (t':=s.toks) hk) (by simpa using qBB rv) (by rw[A0] at d;exact d) (.refl _)
 ·obtain⟨a1,rv,pl,d⟩:=I.tuple hq;obtain⟨o,ho,j,n,hd⟩:=pl;have c:=rv.length;refine B12 (B44 p (.inr rfl) ho j hd (λh' hk=>?_) (by rw[B8,<- c];exact d))
  exact f _ _ ns (I.kept (t':=s.toks) hk) (by simpa using qBB rv) (by rw[A0] at d;exact d) (.refl _)
 ·obtain⟨d,hd,vs,z,dd⟩:=qQE I.hok hq;obtain⟨ep,da⟩:=dd.dictAt;have lv:vs.length=Af.length:=z.length.symm;have ln:ns.length=Af.length:=by
   have:=congrArg j9 hk;simpa using this.symm
  refine B12 (A31 (A:=X.A.in1) (PySem.W.kdl_dict (ep:=ep) hd) (I.ok.hd hc) da (by rw[lv];exact d) λh' tk a2 kept g=>?_)
  refine f _ _ ns (I.kept (t':=tk) kept) ?_ (by rw[ln];exact d) (.refl _)
  obtain⟨l1,l2⟩:=g;refine qW4 (by rw[E5,l1,lv,ln]) λi v hv=>?_
  obtain⟨k,x,e1,e2⟩:=l2 i v (by rw[<- L6];exact hv)
  have y:(Af.map (·.1))[i]?=some k:=by rw[qc5 z,C1,e1];rfl
  rw[hk,C1] at y;cases en:ns[i]? with
  |none=>rw[en] at y;cases y
  |some n=>
   rw[en] at y;cases y;obtain⟨t,e3⟩:=o8 (k:=n) (v:=v) e2;exact⟨n,t,rfl,e3⟩
noncomputable def Itd (lo:Int)(n:Nat):It:=⟨λi _=>i<n,λi H x H'=>H'=H/\x=.int (lo-i),λi _=>n<=i⟩
theorem qTV {P:B15}{w:World}{K:PySem.W.Frag}{tg:Expr}(d:Addr)(lo:Int)(n:Nat):Turn P w K tg (Itd lo n) [d] d (λi h=>IsRangeIter h d (lo+(i:Nat)*(-1)) ((n:Int)-(i:Nat)) (-1)) where
 mem:=A5.mpr rfl
 obj:=λi h a b c=>by
  cases A5.mp c;exact⟨_,a,λv z=>nomatch(show A29 _=A71 v from z)⟩
 keep:=λi h g a k=>k d (A5.mpr rfl) _ a
 item:=by
  intro X x p hK r i Ab s σ H E I j a q;subst x p hK;obtain⟨f0,m,f2,y,l,u⟩:=j d (A5.mpr rfl);refine(Walks.range (prog:=X.prog) (w:=X.w) (I.ok.hd r) d lo (-1) n).item i s _ _ q a λv g tk hv f kk=>?_;obtain⟨t,rfl⟩:=hv;have I1:Inv X Ab σ H {s with heap:=g,toks:=tk}:=I.turned (λb o c e=>kk b o (by simpa using c) e) f0 m y l u
  refine⟨_,rfl,qTA (s:={s with heap:=g,toks:=tk}) (n:="range_iterator") f rfl rfl (by decide) ⟨.int (lo-i),H,I1,⟨t,?_⟩,⟨rfl,rfl⟩,f,λb c=>(j b c).1⟩⟩
  rw[show lo+(i:Int)*(-1)=lo-i by lia]
 done:=by
  intro X x p hK r i Ab s σ H E I j a q;subst x p hK;obtain⟨f0,m,f2,y,l,u⟩:=j d (A5.mpr rfl);have a0:n<=i:=q;exact wpAny_pyNext_range_end (I.ok.hd r) a (by lia) λg eb=>⟨rfl,I.turned (t':=s.toks) (λb o c e=>eb b o c e) f0 m y l u⟩
 self:=λ_ _ _ _ _ a h=>wpAny_pyIter_rangeiter a h
def qg0 (ta:TA):TI:=λσ H R=>ta σ H λvs H1=>∃i j:Int,vs=[.int i,.int j,.int (-1)]/\(-(2^62)<=i/\i<2^62/\-(2^62)<=j/\j<2^62)/\R (Itd i (i-j).toNat) H1
theorem qUL {tg a b c:Expr} {n:TA} {p pos:Pos} (z:Gl X "range") (hm:X.mg "range" = none) (ha:PA X [a,b,c] n) (hs:B17 [a,b,c] X.env=[(false,eval a X.env),(false,eval b X.env),(false,eval c X.env)]:=by rfl)
  (f:B17 [b,c] X.env=[(false,eval b X.env),(false,eval c X.env)]:=by rfl):PI X tg (.Call (.Name "range" p) [a,b,c] [] pos) (qg0 n):=by
 intro t s σ H R I h;refine Call_ (qG6 I z hm boot_range (P3 (thn (ha pos t s σ H _ I h) λus s1 ⟨vs,H1,I1,r1,q1⟩=>?_) (by rw[hs,f]) (by rw[f];rfl)))
 obtain⟨i,j,e,⟨q1,q2,x,q4⟩,q⟩:=q1;subst e;obtain⟨u1,d,rfl,⟨m,rfl⟩,y⟩:∃u d,us=u::d/\RelV (.int i) u/\Vals [.int j,.int (-1)] d:=by cases r1 with|cons r d=>exact⟨_,_,rfl,r,d⟩
 obtain⟨u2,u3,rfl,⟨k,rfl⟩,⟨g,rfl⟩⟩:=qOV y;refine call_range_3 (by decide) ?_ (E1 (Z6 (by lia)))
 refine wpAny_pyIter_range (B09 ..) (PySem.W.small_down q1 q2 x q4) ?_;have l:Inv X t σ H1 {s1 with heap:=s1.heap.push {cls:=.type "range",data:=.fields #[.int i m,.int j k,.int (-1) g]},toks:=s1.toks}:=I1.kept λb o e=>A6 _ e;refine⟨(s1.heap.push {cls:=.type "range",data:=.fields #[.int i m,.int j k,.int (-1) g]}).objs.size,[(s1.heap.push {cls:=.type "range",data:=.fields #[.int i m,.int j k,.int (-1) g]}).objs.size],_,_,H1,rfl,
  l.kept (t':=s1.toks) λb o e=>A6 _ e,qTV _ i (i-j).toNat,?_,λb w=>?_,q⟩
 ·have v:i+((0:Nat):Int)*(-1)=i:=by simp
  have e2:(((i-j).toNat:Nat):Int)-((0:Nat):Int)=R5 i j (-1):=by rw[PySem.W.rangeSize_downNat];simp
  show IsRangeIter _ _ (i+((0:Nat):Int)*(-1)) ((((i-j).toNat:Nat):Int)-((0:Nat):Int)) (-1);rw[v,e2];exact B5 _ rfl
 ·cases A5.mp w;exact l.fpOk (A7 _) (l.hok.fresh (A7 _))
theorem qRY {lo:Int}{n:Nat}{g:TG}{a:TS}{D:Ends}{σ:St}{H:Hp}(Pv:Nat->St->Hp->Prop)(f:Pv 0 σ H)
  (h:∀i σ H,i<n->Pv i σ H->g (.int (lo-i)) σ H λσ2 H2=>a {D with nx:=Pv (i+1),ct:=Pv (i+1),bk:=D.nx} σ2 H2) (d:∀σ H,Pv n σ H->D.nx σ H):
  ForG (Itd lo n) g a D σ H:=by
 refine⟨λi m σ H=>m=n-i/\i<=n/\Pv i σ H,⟨n,by simp,D9 _,f⟩,λi m σ H ⟨e,hi,p⟩=>?_⟩
 rcases Nat.lt_or_ge i n with hlt|hge
 ·refine .inr ⟨hlt,Pv (i+1),λσ' b j=>⟨n-(i+1),by lia,rfl,hlt,j⟩,λx b y=>?_⟩
  rw[y.1,y.2];exact h i σ H hlt p
 ·have c:i=n:=by lia
  rw[c] at p;exact .inl ⟨hge,d σ H p⟩
theorem qUY (f:X.A.units<cLine):OpR X (B28 .NotEq) (λx y H Q=>∃p l xs,x=.ref p/\y=.ref l/\SqL X.K H p xs/\SqL X.K H l []/\Q (.bl (!xs.isEmpty)) H):=by
 intro w s σ H x y v u Q I m o h;obtain⟨p,l,xs,rfl,rfl,i,g,q⟩:=h;cases m;cases o;obtain⟨k,t,b,z⟩:=I.list i;obtain⟨c,n,d,z2⟩:=I.list g;cases n;cases t with
 |nil=>exact A94 (e:=λ_=>true) b.isList d.isList rfl f (λj h _=>absurd h (by simp)) _ _ _ _ ⟨.bl false,H,I,rfl,q⟩
 |cons a r=>exact A52 b.isList d.isList (by simp) f _ _ _ _ ⟨.bl true,H,I,rfl,q⟩
open PySem.AutoSeq1 in
noncomputable def topI (b:Int)(l:List Int):Int:=l.foldl (λb x=>if x>b then x else b) b
theorem qF0:∀(l:List Int) (b:Int),b<=topI b l/\(∀x∈l,x<=topI b l)/\(topI b l=b\/topI b l∈l)
 |[],b=>⟨L7 _,(λ_ z=>nomatch z),.inl rfl⟩
 |y::l,b=>by
  obtain⟨h1,h2,h3⟩:=qF0 l (if y>b then y else b)
  have e:topI b (y::l)=topI (if y>b then y else b) l:=rfl
  rw[e];have hb:b<=(if y>b then y else b)/\y<=(if y>b then y else b):=by split<;>omega
  refine⟨by omega,λx hx=>?_,?_⟩
  ·rcases B7.mp hx with hx|hx
   ·omega
   ·exact h2 x hx
  ·rcases h3 with h3|h3
   ·split at h3
    ·rw[if_pos (by assumption)]
     exact .inr (by rw[h3];exact C5)
    ·rw[if_neg (by assumption)]
     exact .inl h3
   ·exact .inr (A9 _ h3)
section
variable{prog:B15}{w:World}{A:Around}{R:Result->Shared->Prop}{I:Addr}{fp wr:List Addr}{n:Nat}{P:Nat->Value->Prop}{St:Nat->Heap->Prop}
theorem qbZ (W:Walks prog w A.in1 I fp wr n P St)(kw:List (Str×Value))(ns:List Int)(hn:ns.length=n)(a0:∀i v,P i v->∃t,v=.int (ns.getD i 0) t)(S:Addr)(a4:S∉fp):
  ∀(k j:Nat) (s:Shared) (b:Int) (t:Tok) (c:Nat),n-j=k->j<=n->St j s.heap->s.heap.get? S=some {cls:=.type "list",dict:=none,data:=.seq #[.int b t,.int b t] c,slots:=#[]}->
  (∀t' h' tk,(∀x o,x∉wr->x≠S->s.heap.get? x=some o->h'.get? x=some o)->R (.ok (.ret (.int (topI b (ns.drop j)) t'))) {s with heap:=h',toks:=tk})->
  B47 (model prog w) A (.builtin "max.loop" ⟨[.ref I,.none,.ref S],kw⟩) R s:=by
 have a3:S∉wr:=λh=>a4 (W.sub _ h);have f:(toString "max" ++ toString ".loop" : String) = "max.loop":=by decide
 intro k
 induction k with
 |zero=>
  intro j s b t c hk hj st hS g;have e:j=n:=by omega
  refine B26 y3 ?_;rw[F1 U1 _];show wpAny _ A.in1 (seqItems? (.ref S) >>= _) _ _ s;refine B12 (B42 hS rfl ?_);show wpAny _ A.in1 (tryCatch (pyNext (.ref I)) _ >>= _) _ _ s;refine B12 (B32 (W.done s _ _ (e▸st) λh' tk a=>?_));show wpAny _ A.in1 (updateSeq S (λ_=>#[]) >>= _) _ _ _;refine B12 (B59 (a S _ a3 hS) rfl (B12 (B52 (B13 ?_))));rw[Z7 (by omega)] at g
  exact g t _ tk λx o l d ex=>(C9 _ _ (G4 d)).trans (a x o l ex)
 |succ k ih=>
  intro j s b t c hk hj st hS g;have p:j<n:=by omega
  refine B26 y3 ?_;rw[F1 U1 _];show wpAny _ A.in1 (seqItems? (.ref S) >>= _) _ _ s;refine B12 (B42 hS rfl ?_);show wpAny _ A.in1 (tryCatch (pyNext (.ref I)) _ >>= _) _ _ s;refine B12 (B32 (W.item j s _ _ p st λv h' tk hP a2 a=>?_));have q:=a S _ a3 hS;obtain⟨u,rfl⟩:=a0 j v hP;have ed:ns.drop j=ns.getD j 0::ns.drop (j+1):=by
   have a1:j<ns.length:=by omega
   rw[Q4 a1,P9,A4 a1]
   rfl
  rw[ed] at g;generalize ns.getD j 0=y at g hP ⊢;show wpAny _ A.in1 (tryCatch (B46 [O6 y u,O6 y u] (richCompare .Gt (.int y u) (.int b t) >>= _)) _ >>= _) _ _ _;refine B12 (B32 (B20 (B12 (richCompare_gives (op:=.Gt) (typeIs_int _ _ u) (typeIs_int _ _ t) F.slot_int_gt F.entry_int_gt (F.args_int_gt_2 _ _) (gives_int_gt _ _ u t) (λx=>nomatch x) ?_))));refine B12 (B20 (B29 (B12 (B52 (B13 ?_)))));by_cases hb:y>b
  ·rw[decide_eq_true hb,if_pos rfl];have et:topI b (y::ns.drop (j+1))=topI y (ns.drop (j+1)):=by show topI (if y>b then y else b) _=_;rw[if_pos hb]
   rw[et] at g;refine B12 (B59 q rfl (B12 (B52 ?_)));rw[f];refine B13 ⟨B31 U1 _,ih (j+1) _ y u _ (by omega) p (W.frame _ _ _ a2 λx l o ex=>?_) (G5 _ q rfl) λt' h2 m r=>?_⟩
   ·exact(C9 _ _ (λz:S=x=>a4 (by rw[z];exact l))).trans ex
   ·exact g t' h2 m λx o l d ex=>r x o l d ((C9 _ _ (G4 d)).trans (a x o l ex))
  ·rw[decide_eq_false hb,if_neg C2];have et:topI b (y::ns.drop (j+1))=topI b (ns.drop (j+1)):=by show topI (if y>b then y else b) _=_;rw[if_neg hb]
   rw[et] at g;refine B12 (B52 ?_);rw[f];exact B13 ⟨B31 U1 _,ih (j+1) _ b t c (by omega) p a2 q λt' h2 m r=>g t' h2 m λx o l d ex=>r x o l d (a x o l ex)⟩
theorem qVI (W:Walks prog w A.in1 I fp wr n P St)(kw:List (Str×Value))(ns:List Int)(l:ns.length=n)(b:∀i v,P i v->∃t,v=.int (ns.getD i 0) t)(S:Addr)(e:S∉fp){s:Shared}{c:Nat}(st:St 0 s.heap)
  (hS:s.heap.get? S=some {cls:=.type "list",dict:=none,data:=.seq #[] c,slots:=#[]})
  (h1:∀y r,ns=y::r->∀t' h' tk,(∀x o,x∉wr->x≠S->s.heap.get? x=some o->h'.get? x=some o)->R (.ok (.ret (.int (topI y r) t'))) {s with heap:=h',toks:=tk})
  (m:ns=[]->∃nm dv,kw=[(nm,dv)]/\∀h' tk,(∀x o,x∉wr->x≠S->s.heap.get? x=some o->h'.get? x=some o)->R (.ok (.ret dv)) {s with heap:=h',toks:=tk}):
  B47 (model prog w) A (.builtin "max.loop" ⟨[.ref I,.none,.ref S],kw⟩) R s:=by
 have a0:S∉wr:=λh=>e (W.sub _ h);have d:(toString "max" ++ toString ".loop" : String) = "max.loop":=by decide
 refine B26 y3 ?_;rw[F1 U1 _];show wpAny _ A.in1 (seqItems? (.ref S) >>= _) _ _ s;refine B12 (B42 hS rfl ?_);show wpAny _ A.in1 (tryCatch (pyNext (.ref I)) _ >>= _) _ _ s;cases ns with
 |nil=>
  obtain⟨nm,dv,rfl,h3⟩:=m rfl;refine B12 (B32 (W.done s _ _ (l▸st) λh' tk a=>?_));show wpAny _ A.in1 (rule _ >>= λ_=>ret dv) _ _ _;exact B12 (B58 (B13 (h3 _ tk λx o f _ k=>a x o f k)))
 |cons y r=>
  refine B12 (B32 (W.item 0 s _ _ (by rw[<- l];simp) st λv h' tk hP p a=>?_))
  have j:=a S _ a0 hS;obtain⟨u,rfl⟩:=b 0 v hP;show wpAny _ A.in1 (updateSeq S (λ_=>#[O6 y u,O6 y u]) >>= _) _ _ _;refine B12 (B59 j rfl ?_);rw[d];refine B13 ⟨B31 U1 _,qbZ W kw (y::r) l b S e _ 1 _ y u _ rfl (by rw[<- l];simp) (W.frame _ _ _ p λx f o k=>?_) (G5 _ j rfl) λt' m q a1=>?_⟩
  ·exact(C9 _ _ (λz:S=x=>e (by rw[z];exact f))).trans k
  ·exact h1 y r rfl t' m q λx o f g k=>a1 x o f g ((C9 _ _ (G4 g)).trans (a x o f k))
end
theorem qIB {id:String}{b:Builtin}{a:List Value}{d:List (Str×Value)}{Q:Value->Shared->Prop}(l:builtinKind id=none)(k:plainId id=true)(i:entryFor table id=some b)(j:argsOk id ⟨a,d⟩)
  (m:wpAny (model prog w) A.in1 (b ⟨a,d⟩) (λfin s'=>∃c',fin=.again c'/\c'.quiet=true/\B47 (model prog w) A c' (λr s'=>∃v,r=.ok (.ret v)/\Q v s') s') E s):wpAny (model prog w) A (call (.builtin id) a d) Q E s:=by
 refine B90 (codeAny_call_builtin k i ?_);have c:=B23 m (Q':=fun fin s'=>match fin with
   |.done f=>(match(Except.ok f:Result) with|.ok (.ret v)=>Q v s'|.ok _=>False|.error e=>E e s')
   |.again c'=>c'.quiet=true/\B47 (model prog w) A c' (λr s'=>match r with|.ok (.ret v)=>Q v s'|.ok _=>False|.error e=>E e s') s')
  (λfin s' ⟨c',e,h1,c⟩=>by subst e;exact⟨h1,B43 c λr s' ⟨v,e,q⟩=>by subst e;exact q⟩) λ_ _ h=>h
 simp only[checkBuiltinCall,l];cases sg:Manifest.signature? id with
 |none=>exact B13 c
 |some sig=>
  have g:Bind.checkArgs id sig ⟨a,d⟩=pure ():=by simpa only[argsOk,sg] using j
  simp only[g];exact B13 c
noncomputable def topD (dv:Option Int):List Int->Option Int
 |[]=>dv
 |y::r=>some (topI y r)
theorem qc0 {Ab:List (Addr×Obj)}{s:Shared}{σ:St}{H:Hp}{Q:VK}{p:Addr}{ns:List Int}{k:List (Str×Value)}{u:Option Int}(hc:X.calm=true)(I:Inv X Ab σ H s)(hq:SqL X.K H p (ns.map V.int))
  (ok:argsOk "max" ⟨[.ref p],k⟩) (l:Option Value) (hb:T5 "max" ["key","default"] 0 ⟨[],k⟩=pure [none,l]) (z:l=none/\u=none\/∃d t,l=some (.int d t)/\u=some d)
  (m:Int) (j:topD u ns=some m) (q:Q (.int m) H):wpAny (model X.prog X.w) X.A (call (.builtin "max") [.ref p] k) (EP X Ab σ Q) X.xe s:=by
 obtain⟨a0,rv,pl,hz⟩:=I.list hq;have n:=pl.isList;have h:p<s.heap.objs.size:=by obtain⟨_,e,_⟩:=n;exact C0 e
 have a:=rv.length;rw[A0] at a;have ia:=qBB rv;have g:(toString "max" ++ toString ".loop" : String) = "max.loop":=by decide
 refine qIB F.kind_max F.plain_max F.entry_max ok ?_;show wpAny _ _ (T5 "max" ["key","default"] 0 ⟨[],k⟩ >>= _) _ _ s;refine B12 (B51 hb ?_);refine B12 (B13 ?_);refine B12 (B34 n ?_);refine B12 (B25 ?_);rw[g];have w0:X.A.in1.handled=none:=I.ok.hd hc;refine B13 ⟨_,rfl,B31 U1 _,?_⟩;refine qVI (A14 w0 _ p (D1 h) a0.toArray) _ ns (by simpa using a) (λi v hv=>?_) _ ?_ (c:=0) ?_ (B5 _ rfl) ?_ ?_
 ·exact k6 ia i v (by simpa using hv)
 ·simp only[P1,B7,L8,or_false,not_or];exact⟨d6 _,R7 (M6 h)⟩
 ·exact⟨⟨_,A6 _ (B5 _ rfl),rfl,rfl⟩,(n.push _).push _⟩
 ·intro y r e t' h' x hk;subst e;cases j;refine⟨_,rfl,.int _,H,I.kept (t':=x) λb o f=>hk b o ?_ ?_ (A6 _ (A6 _ f)),⟨t',rfl⟩,q⟩
  ·simp only[B7,L8,or_false];exact D1 (C0 f)
  ·rw[P1];exact D1 (M6 (C0 f))
 ·intro e;subst e;rcases z with⟨_,e2⟩|⟨d,t,rfl,rfl⟩
  ·rw[e2] at j;cases j
  ·cases j;refine⟨_,_,rfl,λh' x hk=>⟨_,rfl,.int _,H,I.kept (t':=x) λb o f=>hk b o ?_ ?_ (A6 _ (A6 _ f)),⟨t,rfl⟩,q⟩⟩
   ·simp only[B7,L8,or_false];exact D1 (C0 f)
   ·rw[P1];exact D1 (M6 (C0 f))
theorem qK8 (c:X.calm=true):qCO X (.builtin "max") (λxs H Q=>∃p ns m,xs=[.ref p]/\SqL X.K H p (ns.map V.int)/\topD none ns=some m/\Q (.int m) H):=by
 intro e s σ H xs f Q I r h;obtain⟨p,ns,m,rfl,b,d,q⟩:=h;obtain⟨u,rfl,a⟩:=qDL r;cases a;exact qc0 c I b (F.args_max1 _) none rfl (.inl ⟨rfl,rfl⟩) m d q
theorem qO3:entryFor table "dict.update.loop" = some Builtin.«dict.update.loop»:=entryFor_of_tree (by kernel_rfl)
theorem qGQ:plainId "dict.update.loop" = true:=by decide +kernel
theorem qPV:typeLookup (.type "list") "keys" = pure none:=by rw[typeLookup_type,B87];kernel_rfl
theorem qVH {a:Addr} {o:Obj} {xs:Array Value} {k:Nat} {Q:Option Value->Shared->Prop} (m:s.heap.get? a=some o) (j:o.cls=.type "list") (d:o.data=.seq xs k) (i:o.dict=none) (p:A.handled=none)
  (h:∀h' tk,(∀b u,s.heap.get? b=some u->h'.get? b=some u)->Q none {s with heap:=h',toks:=tk}):wpAny (model prog w) A (getAttr? (.ref a) "keys") Q E s:=by
 obtain⟨c,r,q,v⟩:=o;simp only at j d i;subst j d i;obtain⟨x,g,t,tk,n⟩:=s;have l:∀tk',(⟨x,g,t,tk',n⟩:Shared).TypeIs (.ref a) "list":=λ_=>⟨_,m,rfl⟩;have f1:=sub_AttributeError;have f3:=Z0.lookup;have f4:=Z0.bind (.ref a);have f5:=am_list_getattr_none;unfold getAttr? getAttrBy? getAttrBy
 repeat (any_goals (first|assumption|exact l _|((with_reducible show wpAny _ _ (call (Value.builtin "list.__getattribute__") _ _) _ _ _);refine B77 Z0 (l _) am_entry_list_getattribute (F.args_list_getattribute_2 _ _) (meets_getattribute_miss_list a xs k v "keys" _ qPV (by decide +kernel) (by decide +kernel)) ⟨m,p,λh' tk' e f=>?_⟩)|wp_step))
 obtain⟨y,u',z⟩:=f.there;show wpAny _ _ (getattributeRaised _ _ _ _ _ _ _) _ _ _;unfold getattributeRaised
 repeat (any_goals (first|assumption|wp_step))
 exact h _ _ f.of.keeps
section
variable{prog:B15}{w:World}{A:Around}{R:Result->Shared->Prop}{I:Addr}{fp wr:List Addr}{n:Nat}{P:Nat->Value->Prop}{St:Nat->Heap->Prop}
theorem qZT (W:Walks prog w A.in1 I fp wr n P St)(h0:Heap)(d:Addr)(a0:d∉fp)(ps:List (Int×Value))(hn:ps.length=n)(hz:n<=B14)
  (a9:∀i v,P i v->∃r k t x,v=.ref r/\r∉wr/\r≠d/\h0.IsTuple r #[.int k t,x]/\ps[i]?=some (k,x)):
  ∀(m i:Nat) (j:Int) (tj:Tok) (s:Shared) (Af:List (Key×Value)),n-i=m->i<=n->St i s.heap->s.heap.DictOf (qB0 prog w) d Af->Af.length<=i->(∀b o,b∉wr->b≠d->h0.get? b=some o->s.heap.get? b=some o)->
  (∀h' tk,h'.DictOf (qB0 prog w) d ((ps.drop i).foldl (λm q=>stored m (D7 q.1) q.2) Af)->(∀b o,b∉wr->b≠d->h0.get? b=some o->h'.get? b=some o)->R (.ok (.ret .none)) {s with heap:=h',toks:=tk})->
  B47 (model prog w) A (.builtin "dict.update.loop" ⟨[.ref d,.ref I,.int j tj,.none],[]⟩) R s:=by
 have a1:d∉wr:=λh=>a0 (W.sub _ h);intro m
 induction m with
 |zero=>
  intro i j tj s Af hm hi st hd hl hk u;have e:i=n:=by lia
  refine B26 qO3 ?_;rw[F1 qGQ _];show wpAny _ A.in1 (pyNext (.ref I) >>= _) _ _ s;refine B12 (W.done s _ _ (e▸st) λh' tk a=>?_);show wpAny _ A.in1 (Builtin.Dict.addKeywords d [] >>= λ_=>ret P5) _ _ _;rw[Z7 (by lia)] at u
  exact B12 (B13 (B13 (u h' tk (hd.at λo eo=>a d o a1 eo) λb o f c l=>a b o f (hk b o f c l))))
 |succ m ih=>
  intro i j tj s Af hm hi st hd hl hk u;have p:i<n:=by lia
  refine B26 qO3 ?_;rw[F1 qGQ _];show wpAny _ A.in1 (pyNext (.ref I) >>= _) _ _ s;refine B12 (W.item i s _ _ p st λv h' tk hP a5 a=>?_);obtain⟨r,k,t,x,rfl,g,a7,ht,ep⟩:=a9 i v hP;have ed:ps.drop i=(k,x)::ps.drop (i+1):=by
   obtain⟨a4,e⟩:=A3.mp ep;rw[Q4 a4,e]
  rw[ed] at u;have aa:h'.IsTuple r #[.int k t,x]:=by
   obtain⟨o,e1,e2,e3⟩:=ht;exact⟨o,a r o g (hk r o g a7 e1),e2,e3⟩
  obtain⟨o,ho,a2,no,ac⟩:=aa;have a8:h'.DictOf (qB0 prog w) d Af:=hd.at λo eo=>a d o a1 eo;refine B12 (B20 (B12 ?_));show wpAny _ A.in1 (tryCatch (y9 (.ref r)) _) _ _ _;refine B32 ?_;unfold y9;refine B12 (wpAny_typeOf (T:="tuple") ⟨o,ho,a2⟩ ?_);rw[if_pos (by decide)]
  refine B12 (B42 ho ac (B13 ?_));show wpAny _ A.in1 (B46 [O6 k t,x] (dictSet d (.int k t) x)) _ _ _;refine B20 (wpAny_dictSet_pairs (hsz:=by lia) (k:=D7 k) (by rw[qT1];exact qNR k t) a8 λh2 a3 sb=>?_)
  have y:(stored Af (D7 k) x).length<=i+1:=by
   unfold stored
   split
   ·rw[A0];lia
   ·rw[A8,B3];lia
  refine B13 ⟨B31 qGQ _,ih (i+1) _ _ _ (stored Af (D7 k) x) (by lia) p (W.frame _ _ _ a5 λb f o l=>?_) a3 y (λb o f c l=>?_) λh3 a6 ab ad=>u h3 a6 ab ad⟩
  ·rw[sb.2 b (λz:b=d=>a0 (z▸f))];exact l
  ·rw[sb.2 b c];exact a b o f (hk b o f c l)
end
theorem qOG {l:Addr} {o:Obj} {a:Array Value} {nl:Nat} {ps:List (Int×Value)} {Q:Value->Shared->Prop} (hA:A.handled=none) (hl:s.heap.get? l=some o) (hc:o.cls=.type "list") (d:o.data=.seq a nl) (a1:o.dict=none) (hn:ps.length=a.size) (hz:a.size<=B14)
  (a5:∀(i:Nat) v,a[i]?=some v->∃r k t x,v=.ref r/\s.heap.IsTuple r #[.int k t,x]/\ps[i]?=some (k,x))
  (h:∀h' tk,h'.DictOf (qB0 prog w) s.heap.objs.size (ps.foldl (λm q=>stored m (D7 q.1) q.2) [])->(∀b u,s.heap.get? b=some u->h'.get? b=some u)->Q (.ref s.heap.objs.size) {s with heap:=h',toks:=tk}):
  wpAny (model prog w) A (call (.type "dict") [.ref l]) Q E s:=by
 refine callType_codes (Q₁:=λj s₁=>j=.ref s.heap.objs.size/\s₁={s with heap:=s.heap.push {cls:=.type "dict",data:=.dict #[]}}) F.kt_called_dict (F.kt_typeCall_dict_1 _) F.entry_dict_init (kt_code_dict_new _ ⟨rfl,rfl⟩) ?_;rintro j s₁ ⟨rfl,rfl⟩;have nw:(s.heap.push {cls:=.type "dict",data:=.dict #[]}).DictOf (qB0 prog w) s.heap.objs.size []:=A73 s.heap;have c:(s.heap.push {cls:=.type "dict",data:=.dict #[]}).get? l=some o:=A6 _ hl;have a3:l<s.heap.objs.size:=C0 hl;refine⟨nw.typeIs,F.args_dict_init_2 _ _,?_⟩;unfold Builtin.«dict.__init__»;refine B12 ?_;unfold Builtin.Dict.selfAndRest;refine B12 (wpAny_notOrdered_dict nw.typeIs ?_);show wpAny _ _ (pure (s.heap.objs.size,[E2 l])) _ _ _;refine B13 ?_;show wpAny _ _ (u7 "dict.__init__" s.heap.objs.size (.ref l) [] .none) _ _ _;unfold u7;refine B12 (wpAny_typeOf (T:="list") ⟨o,c,hc⟩ ?_);rw[if_pos (by decide)]
 refine B12 (qVH c hc d a1 hA λh1 a8 g=>?_);rw[if_pos (show(none:Option Value).isNone=true from rfl)];have p:h1.IsList l a:=⟨o,g _ _ c,hc,nl,d⟩;have z:l<h1.objs.size:=C0 (g _ _ c);have f:s.heap.objs.size<h1.objs.size:=by
  obtain⟨_,_,_,e,_⟩:=nw;exact C0 (g _ _ e)
 refine B12 (B58 (B12 (B34 p ?_)));refine B13 ⟨B31 qGQ _,?_⟩;refine qZT (n:=a.size) (A14 (A:=A.in1.in1) hA _ l (D1 z) a) h1 s.heap.objs.size ?_ ps hn hz (λi v hv=>?_) a.size 0 _ _ _ [] rfl (D9 _) ⟨⟨_,B5 _ rfl,rfl,rfl⟩,p.push _⟩ ((nw.keep g).push _) (A7 _) (λb u hb a9 eb=>A6 _ eb) λh' tk a6 a4=>?_
 ·simp only[B7,L8,or_false,not_or];exact⟨D1 f,R7 a3⟩
 ·obtain⟨r,k,t,x,e1,e2,e3⟩:=a5 i v hv;obtain⟨or,hr,a7,a2⟩:=e2;have y:=C0 hr;refine⟨r,k,t,x,e1,?_,D1 y,⟨or,g _ _ (A6 _ hr),a7,a2⟩,e3⟩;simp only[B7,L8,or_false];exact D1 (Y8 y f)
 ·refine⟨rfl,h h' tk a6 λb u eb=>?_⟩;have a0:=C0 eb;refine a4 b u ?_ (D1 a0) (g _ _ (A6 _ eb));simp only[B7,L8,or_false];exact D1 (Y8 a0 f)
theorem qIV {α β:Type}{F:α->β->Prop}:∀{l₁:List α} {l₂:List β} {i:Nat} {a:α},Paired F l₁ l₂->l₁[i]?=some a->∃b,l₂[i]?=some b/\F a b
 |_,_,_,_,.nil,e=>by simp at e
 |_,_,0,_,.cons r _,e=>by simp at e;subst e;exact⟨_,rfl,r⟩
 |_,_,i+1,a,.cons _ t,e=>by
  obtain⟨b,h1,h2⟩:=qIV (i:=i) (a:=a) t (by simpa using e)
  exact⟨b,by simpa using h1,h2⟩
theorem qPF {h:Heap} {p:Addr} {a:Array Value} (x:PlainL h p a):∃o,h.get? p=some o/\o.cls=.type "list"/\o.dict=none/\∃n,o.data=.seq a n:=by
 obtain⟨o,n,b,c,e,d⟩:=x;exact⟨o,b,c,e,n,d⟩
def qUR (H:Hp)(K:PySem.W.Frag)(rs:List Addr)(ps:List (Int×V)):Prop:=Paired (λr (q:Int×V)=>SqT K H r [.int q.1,q.2]) rs ps
noncomputable def qDM (Af:List (Key×V))(ps:List (Int×V)):List (Key×V):=ps.foldl (λm q=>putK m (D7 q.1) q.2) Af
theorem qKZ:∀(ps:List (Int×V)) (Af:List (Key×V)),(qDM Af ps).length<=Af.length+ps.length
 |[],Af=>by simp[qDM]
 |q::ps,Af=>by
  have:=qKZ ps (putK Af (D7 q.1) q.2);have:=qCM Af (D7 q.1) q.2;show(qDM (putK Af (D7 q.1) q.2) ps).length<=Af.length+(q::ps).length;rw[C3]
  lia
theorem qUE {Ab:List (Addr×Obj)}{σ:St}{H:Hp}{s:Shared}(I:Inv X Ab σ H s):∀{rs:List Addr} {ps:List (Int×V)},qUR H X.K rs ps->
  ∃qs:List (Int×Value),Paired (λr (q:Int×Value)=>∃t,s.heap.IsTuple r #[.int q.1 t,q.2]) rs qs/\Paired (λ(p:Int×V) (q:Int×Value)=>p.1=q.1/\RelV p.2 q.2) ps qs:=by
 intro rs ps h;unfold qUR at h
 induction h with
 |nil=>exact⟨[],.nil,.nil⟩
 |@cons r q rs ps h t ih=>
  obtain⟨qs,c,a⟩:=ih;obtain⟨i,b,d,k⟩:=I.tuple h;obtain⟨j,f,rfl,⟨g,rfl⟩,e⟩:=qOV b;exact⟨(q.1,f)::qs,.cons ⟨g,d⟩ c,.cons ⟨rfl,e⟩ a⟩
theorem qbI:∀{ps:List (Int×V)} {qs:List (Int×Value)} {Af:List (Key×V)} {vs:List (Key×Value)},Paired (λ(p:Int×V) (q:Int×Value)=>p.1=q.1/\RelV p.2 q.2) ps qs->KV Af vs->KV (qDM Af ps) (qs.foldl (λm q=>stored m (D7 q.1) q.2) vs):=by
 intro ps qs Af vs h
 induction h generalizing Af vs with
 |nil=>exactλr=>r
 |cons h t ih=>
  intro r;refine ih ?_;dsimp only;rw[<- h.1];exact r.put _ h.2
theorem qLG (hc:X.calm=true):qCO X (.type "dict") (λxs H Q=>∃(p:Addr) (rs:List Addr) (ps:List (Int×V)),xs=[.ref p]/\SqL X.K H p (rs.map V.ref)/\qUR H X.K rs ps/\∀d,H d=none->Q (.ref d) (Ag H d (.dK (qDM [] ps)))):=by
 intro Ab s σ H xs us Q I r h;obtain⟨p,rs,ps,rfl,hq,hp,q⟩:=h;obtain⟨u,rfl,rx⟩:=qDL r;cases rx;obtain⟨l,rv,pl,hz⟩:=I.list hq;obtain⟨g,w,m⟩:=qUE I hp;have l0:=rv.length;rw[A0] at l0;have l1:rs.length=g.length:=B6 w;have l2:ps.length=g.length:=B6 m;obtain⟨o,ho,f,j,n,e⟩:=qPF pl;rw[A0] at hz;refine qOG (ps:=g) (I.ok.hd hc) ho f e j (by simp;lia) (by simp;lia) (λi v hv=>?_) λh' tk k hk=>?_
 ·have c:l[i]?=some v:=by simpa using hv
  have y:i<rs.length:=by rw[l0];exact(A3.mp c).1
  obtain⟨u,hu,ru⟩:=rv.get (i:=i) (x:=.ref rs[i]) (by rw[C1,A4 y];rfl)
  rw[c] at hu;cases hu;cases ru;obtain⟨b,hb,t,ht⟩:=qIV w (A4 y);exact⟨rs[i],b.1,t,b.2,rfl,ht,hb⟩
 ·have z:(qDM [] ps).length<=B14:=by
   have:=qKZ ps [];simp at this
   lia
  refine⟨.ref s.heap.objs.size,_,I.laid (a:=s.heap.objs.size) (o:=.dK (qDM [] ps)) (t':=tk) hk (A7 _) (qO6 z (beq_eq_false_iff_ne.mpr (G4 (D1 I.big))) (qbI m .nil) k),rfl,q _ (I.hok.fresh (A7 _))⟩
theorem qW3 {A:Around}{s:Shared}{zs:List Int}{a vs:List Value}(b:Vals (zs.map V.int) a)(e:Vals (zs.map V.int) vs):∀j (j1:j<a.toArray.size) (j2:j<vs.toArray.size),SeqAt.EqAt A s a.toArray[j] vs.toArray[j] true:=by
 intro j j1 j2;have i:=b.length;rw[A0] at i;have l:j<zs.length:=by simp at j1;lia
 have c:(zs.map V.int)[j]?=some (.int zs[j]):=by rw[C1,A4 l];rfl
 obtain⟨u,n,t,g⟩:=b.get c;obtain⟨v,k,d,f⟩:=e.get c;have o:a.toArray[j]=u:=by
  rw[i0];exact(A3.mp n).2
 have m:vs.toArray[j]=v:=by
  rw[i0];exact(A3.mp k).2
 rw[o,m,g,f];have h:=m4 (A:=A) (s:=s) zs[j] t zs[j] d;rw[beq_self_eq_true] at h;exact h
theorem qPI (r:X.A.units<cLine):OpR X (B28 .NotEq) (λx y H Q=>∃(p l:Addr) (zs:List Int),x=.ref p/\y=.ref l/\SqT X.K H p (zs.map V.int)/\SqT X.K H l (zs.map V.int)/\Q (.bl false) H):=by
 intro t s σ H x y v u Q I k o h;obtain⟨p,l,zs,rfl,rfl,j,g,q⟩:=h;cases k;cases o;obtain⟨c,d,f,w⟩:=I.tuple j;obtain⟨b,a,n,z⟩:=I.tuple g;refine A84 (e:=λ_=>true) f n r (qW3 d a) _ _ _ _ ⟨.bl false,H,I,?_,q⟩;have i:(G8 (min c.toArray.size b.toArray.size)).all (λ_=>true)=true:=by simp
 have m:(c.toArray.size==b.toArray.size)=true:=by simp[<- d.length,<- a.length]
 rw[i,m]
 rfl
def qfI (K:PySem.W.Frag):R2:=λx y H Q=>∃a b xs ys,x=.ref a/\y=.ref b/\SqT K H a xs/\SqT K H b ys/\ys≠[]/\xs.length+ys.length<=B14/\(xs=[]->Q (.ref b) H)/\(xs≠[]->∀p,H p=none->Q (.ref p) (Ag H p (.tup (xs++ys))))
theorem qPL:OpR X (B36 .Add) (qfI X.K):=by
 intro Ab s σ H x y v u Q I m o h;obtain⟨a,b,xs,ys,rfl,rfl,ha,l,hy,hz,q1,q2⟩:=h;by_cases k:xs=[]
 ·subst k;cases m;cases o;obtain⟨a1,r1,p1,_⟩:=I.tuple ha;obtain⟨d,r2,p2,_⟩:=I.tuple l;cases r1;obtain⟨⟨a0,dd,w,sl⟩,q,t,n,r⟩:=id p1;obtain⟨⟨p,j,i,g⟩,e,f,n2,c⟩:=id p2;simp only at t r f c;subst t r f c;exact concat_meets ⟨_,q,rfl⟩ ⟨_,e,rfl⟩ B82 seq_tuple_add W7 V8 (V3 _ _) (tuple_addW0 a b #[] d.toArray n n2 dd j sl g rfl) ⟨q,e,.ref b,H,I,rfl,q1 rfl⟩
 ·exact qV5 Ab s σ H (.ref a) (.ref b) v u Q I m o ⟨a,b,xs,ys,rfl,rfl,ha,l,k,hz,λz=>absurd z hy,λ_=>q2 k⟩
theorem qZI {K:PySem.W.Frag}{a:Addr}{xs:List V}{g:TG}{d:TS}{D:Ends}{σ0:St}{H0:Hp}(Pv:Nat->St->Hp->Prop)(n:Pv 0 σ0 H0)(k:∀i σ H,i<=xs.length->Pv i σ H->SqL K H a xs)
  (o:∀i x σ H T,xs[i]?=some x->Pv i σ H->H T=none->g (.ref T) σ (Ag H T (.tup [.int (i:Int),x])) λσ2 H2=>d {D with nx:=Pv (i+1),ct:=Pv (i+1),bk:=D.nx} σ2 H2)
  (l:∀σ H,Pv xs.length σ H->D.nx σ H):
  ∃W:Nat->Nat->St->Hp->Prop,(∃m,W 0 m σ0 H0)/\∀i m σ H,W i m σ H->
   ((Ite K a).stop i H/\D.nx σ H)\/((Ite K a).go i H/\∃N:St->Hp->Prop,(∀σ' H',N σ' H'->∃m',m'<m/\W (i+1) m' σ' H')/\∀x H',(Ite K a).yld i H x H'->g x σ H' λσ2 H2=>d {D with nx:=N,ct:=N,bk:=D.nx} σ2 H2):=by
 refine⟨λi m σ H=>m=xs.length-i/\i<=xs.length/\Pv i σ H,⟨xs.length,by simp,D9 _,n⟩,?_⟩
 rintro i m σ H ⟨rfl,hi,q⟩;have c:=k i σ H hi q;by_cases b:i<xs.length
 ·refine .inr ⟨⟨xs,xs[i],c,by simp[b]⟩,Pv (i+1),λσ' H' p=>⟨xs.length-(i+1),by lia,rfl,b,p⟩,λv H' y=>?_⟩
  obtain⟨T,x,f,h,j,y⟩:=y;subst h j;exact o i x σ H T (y xs c) q f
 ·have e:i=xs.length:=by lia
  subst e;exact .inl ⟨⟨xs,c,A7 _⟩,l σ H q⟩
open PySem
noncomputable def g5:Nat->Nat
 |0=>0
 |n+1=>5*g5 n+1
structure TabG (byText:Bool×Bool)(t:B60)(n:Nat):Prop where
 pow:∃k,3<=k/\t.mask+1=2^k
 dum:t.dummies=#[]
 plain:t.plain=byText.2
 led:t.led=!byText.1
 size:t.place.size=n
 up:t.place.toList.Pairwise (·<·)
 le:∀j∈t.place.toList,j<=t.mask
structure Own (N:Nat)(L:List Nat)(owner:Array (Option Nat)):Prop where
 size:owner.size=N
 nd:L.Nodup
 lt:∀j∈L,j<N
 at_:∀(m j:Nat),L[m]?=some j->owner[j]?=some (some m)
 no:∀j,j<N->j∉L->owner[j]?=some none
theorem qPK (m:X.A.units<cLine):OpR X (B28 .Eq) (λx y H Q=>∃(p l:Addr) (zs:List Int),x=.ref p/\y=.ref l/\SqL X.K H p (zs.map V.int)/\SqL X.K H l (zs.map V.int)/\Q (.bl true) H):=by
 intro n s σ H x y v u Q I g j h;obtain⟨p,l,zs,rfl,rfl,f,d,q⟩:=h;cases g;cases j;obtain⟨k,b,c,o⟩:=I.list f;obtain⟨r,a,i,t⟩:=I.list d;refine A75 (e:=λ_=>true) c.isList i.isList (by simp[<- b.length,<- a.length]) m (qW3 b a) ⟨.bl true,H,I,?_,q⟩
 have:(G8 k.toArray.size).all (λ_=>true)=true:=by simp
 rw[this]
 rfl
def qfG (K:PySem.W.Frag):R2:=λx y H Q=>∃a b xs ys,x=.ref a/\y=.ref b/\SqT K H a xs/\SqT K H b ys/\((xs≠[]/\H a=some (.tup xs))\/(ys≠[]/\H b=some (.tup ys)))/\xs.length+ys.length<=B14/\∀p H',Same H H'->H' p=some (.tup (xs++ys))->Q (.ref p) H'
theorem qbU:OpR X (B36 .Add) (qfG X.K):=by
 intro f s σ H x y v u Q I j k h;obtain⟨a,b,c,d,rfl,rfl,i,g,t,m,q⟩:=h;have l:∀p,H p=none->Q (.ref p) (Ag H p (.tup (c++d))):=λp r=>q p _ (λb u e=>by rw[qA8 (qA6 e r)];exact e) qA1
 rcases t with⟨n,o⟩|⟨w,gb⟩
 ·exact qV5 f s σ H (.ref a) (.ref b) v u Q I j k ⟨a,b,c,d,rfl,rfl,i,g,n,m,λz=>q a H (λ_ _ e=>e) (by rw[z,K0];exact o),λ_=>l⟩
 ·exact qPL f s σ H (.ref a) (.ref b) v u Q I j k ⟨a,b,c,d,rfl,rfl,i,g,w,m,λz=>q b H (λ_ _ e=>e) (by rw[z];exact gb),λ_=>l⟩
structure Ex (B:Heap)(l:List Env)(e:Addr)(cls:Value)(dd:Option Addr)(nt:Bool)(h:Heap):Prop where
 stays:B.StaysIn h
 new:B.get? e=none
 frames:h.FunFrames B l
 rec_:∃(oe:Obj) (vs:Array Value) (x1:Value),h.get? e=some oe/\oe.cls=cls/\oe.dict=dd/\oe.data=.fields vs/\vs[1]?=some x1/\
  ((x1=.none/\nt=false)\/∃(T:Addr) (oT:Obj) (ts:Array Value) (x3:Value),x1=.ref T/\B.get? T=none/\T≠e/\h.get? T=some oT/\oT.data=.fields ts/\ts[3]?=some x3)
def Kp (outer:List Env)(H':Hp)(h0:Heap)(b:Addr):Prop:=(∃o,H' b=some o)\/((∃o,h0.get? b=some o)/\b∉frs outer)
structure XD (P:B15)(w:World)(outer l:List Env)(H:Hp)(h0:Heap)(e:Addr)(cls:Value)(dd:Option Addr)(H':Hp)(B:Heap)(nt:Bool)(h:Heap):Prop where
 un:Un (frs outer) [] H H' h0 h
 hok:HOk P w H' h
 ex:Ex B l e cls dd nt h
 kp:∀b o,h.get? b=some o->Kp outer H' h0 b->B.get? b=some o
 ne:H' e=none
 ge:h0.objs.size<=e
def XP (X:Cx)(G:XK)(ev:Value)(s':Shared):Prop:=X.A.frames=some X.stack/\∃(e:Addr) (cls:Value) (dd:Option Addr) (H':Hp) (B:Heap) (nt:Bool),ev=.ref e/\s'.os=X.s₀.os/\AllBare s'.gens/\XD X.prog X.w X.outer X.stack X.H₀ X.s₀.heap e cls dd H' B nt s'.heap/\G cls dd H'
def Ends.off (D:Ends):Option Nat->Ends
 |none=>D
 |some j=>{nx:=λσ H=>D.nx (σ.set j none) H,rt:=D.rt,bk:=λσ H=>D.bk (σ.set j none) H,ct:=λσ H=>D.ct (σ.set j none) H}
noncomputable def bmV:List Value:=[.type "ValueError",.type "Exception",.type "BaseException",.type "object"]
noncomputable def xcIn (K:PySem.W.Frag)(C:Addr)(init:Option Value):Bool:=match K.lookup C with
 | some ⟨.type "type",_,.cls cd,sl⟩=>(match cd.mro,sl.toList with
  |.ref C'::bm,[_,_,_,_,some (.builtin n),_]=>C'==C&&n == "ValueError.__new__" && !cd.hasDel&&cd.hasDict&&PySem.W.tailIn K bmV bm&&PySem.W.nsOkIn K cd.ns&&d3 K cd.ns "__init__" == some init
  |_,_=>false)
 |_=>false
structure XCls (K:PySem.W.Frag)(C:Addr)(init:Option Value):Prop where
 cls:xcIn K C init=true
 set:Q2 K (.ref C) "__setattr__" = some (some (.builtin "object.__setattr__"))
 kp:Q3 K (.ref C)=true
structure XGet (K:PySem.W.Frag)(C:Addr):Prop where
 ga:Q2 K (.ref C) "__getattribute__" = some (some (.builtin "BaseException.__getattribute__"))
 gt:Q2 K (.ref C) "__getattr__" = some none
 be:A41 K C (.type "BaseException")=some true
 hd:A53 K C=true
structure XTy (K:PySem.W.Frag)(C:Addr):Prop extends XGet K C where
 ca:Q2 K (.ref C) "__class__" = some (some (.builtin "object.__class__"))
 cn:p5 K (.builtin "object.__class__") "__get__" = some (some (.builtin "getset_descriptor.__get__"))
 ct:A72 K (.builtin "object.__class__")=some true
 cm:A41 K C (.type "object")=some true
structure RoomH (k:Nat)(A:Around):Prop where
 dp:A.depth+3*k+5<recursionLimit
 un:A.units+16*k+200<cLine
structure FnOkH (P:B15)(w:World)(K:PySem.W.Frag)(mg:Str->Option Value)(base:Heap)(CX:CXT)(k:Nat)(f:Addr)(fd:B27)(ps:List Str)(sp:Sp):Prop where
 len:∀vs H Q E,sp vs H Q E->vs.length=ps.length
 run:∀(A:Around) (outer:List Env) (s:Shared) (H:Hp) (args:Args) (us:List Value) (vs:List V) (Q:VK) (E:XK),RoomH k A->Env0 P w K mg base A outer s H->BindsTo s fd args (ps.zip us)->Vals vs us->sp vs H Q E->
  B47 (model P w) A (.call (.ref f) args) (CR CX outer P w H s Q E) s
theorem qS5 (t:X.calm=true):qCO X (.builtin "sum") (λxs H Q=>∃(p:Addr) (ns:List Int),xs=[.ref p]/\SqL X.K H p (ns.map V.int)/\Q (.int ns.sum) H):=by
 intro w s σ H xs z Q I r h;obtain⟨p,ns,rfl,m,q⟩:=h;obtain⟨u,rfl,k⟩:=qDL r;cases k;obtain⟨c,i,j,hz⟩:=I.list m;have f:=qBB i;obtain⟨xs,d⟩:=f.allInts.items;have a:s.heap.IsList p (intItems xs):=d▸j.isList;refine sum_intListG (I.ok.hd t) a λx y v n=>?_;have g:ns=xs.toList.map (·.1):=by
  rw[<- nums_intItems,<- d];exact(show numsOf c.toArray.toList=ns from f.numsOf).symm
 have l:preSum (numAt xs) xs.size=ns.sum:=by
  rw[preSum_eq,E7 (by simp),g]
 rw[l];exact⟨.int ns.sum,H,I.kept λb o e=>n b o e,⟨_,rfl⟩,q⟩
structure LcScopeO (X:Cx)(scope:Scope)(own:List Str)(fv:List Nat):Prop where
 kind:scope.kind=.function
 names:∀y∈scope.names,y.2=.local->scope.names.lookup y.1=some .local
 cells:∀y∈scope.names,y.2=.cell->scope.names.lookup y.1=some .cell
 frees:∀y∈scope.names,y.2=.free->scope.names.lookup y.1=some .free
 free:∀y∈scope.names,y.2=.free->X.env.kindOf y.1=some .cell\/X.env.kindOf y.1=some .free
 nd:(own++fv.map λi=>X.N.getD i R3).Nodup
 fvs:∀i∈fv,i<X.N.length/\scope.names.lookup (X.N.getD i R3)=some .free
 owns:∀x∈own,scope.names.lookup x=some .local\/scope.names.lookup x=some .cell
theorem qV4:OpR X (B36 .Add) (λx y H Q=>∃a b xs ys,x=.ref a/\y=.ref b/\H a=some (.tup xs)/\H b=some (.tup ys)/\xs.length+ys.length<=B14/\∀p H',Same H H'->H' p=some (.tup (xs++ys))->Q (.ref p) H'):=by
 intro Ab s σ H x y v u Q I o r h;obtain⟨a,b,xs,ys,rfl,rfl,m,j,hz,q⟩:=h;by_cases hx:xs=[]
 ·subst hx;cases o;cases r;obtain⟨a2,r1,p1,_⟩:=I.tuple (SqT.of m);obtain⟨d,r2,p2,_⟩:=I.tuple (SqT.of j);cases r1;obtain⟨⟨a1,dd,a0,sl⟩,w,hc,n,z⟩:=id p1;obtain⟨⟨t,l,k,i⟩,f,g,n2,c⟩:=id p2;simp only at hc z g c;subst hc z g c;exact concat_meets ⟨_,w,rfl⟩ ⟨_,f,rfl⟩ B82 seq_tuple_add W7 V8 (V3 _ _) (tuple_addW0 a b #[] d.toArray n n2 dd l sl i rfl) ⟨w,f,.ref b,H,I,rfl,q b H (λ_ _ e=>e) j⟩
 ·exact qbU Ab s σ H (.ref a) (.ref b) v u Q I o r ⟨a,b,xs,ys,rfl,rfl,SqT.of m,SqT.of j,.inl ⟨hx,m⟩,hz,q⟩
theorem qeK:B18 "any" = some (.builtin "any"):=by decide +kernel
theorem qaV:B18 "sum" = some (.builtin "sum"):=by decide +kernel
theorem qSS (d:List Bool):((G8 d.length).any λi=>(d[i]?).getD false)=d.any id:=by
 rw[Q7,y4,y4]
 constructor
 ·rintro⟨i,c,h⟩;have a:=G3.mp c;rw[A4 a] at h;exact⟨_,U0 a,h⟩
 ·rintro⟨b,f,h⟩;obtain⟨i,c,e⟩:=Y4 f;exact⟨i,G3.mpr c,by rw[A4 c,e];exact h⟩
theorem qZV (t:X.calm=true):qCO X (.builtin "any") (λxs H Q=>∃(p:Addr) (bs:List Bool),xs=[.ref p]/\SqL X.K H p (bs.map V.bl)/\Q (.bl (bs.any id)) H):=by
 intro Ab s σ H xs us Q I r h;obtain⟨p,bs,rfl,z,q⟩:=h;obtain⟨u,rfl,n⟩:=qDL r;cases n;obtain⟨c,m,pl,hz⟩:=I.list z;have g:=pl.isList;have j:p<s.heap.objs.size:=by obtain⟨_,e,_⟩:=g;exact C0 e
 have a:=m.length;rw[A0] at a;refine call_any_walk (B34 g ?_);refine⟨s.heap.objs.size,[s.heap.objs.size,p],[s.heap.objs.size],c.toArray.size,_,_,λi=>(bs[i]?).getD false,rfl,A14 (A:=X.A.in1) (I.ok.hd t) _ p (D1 j) c.toArray,
  ⟨⟨_,B5 _ rfl,rfl,rfl⟩,g.push _⟩,λi v s' Q' E' w f=>?_,λh' tk hk=>?_⟩
 ·have d:c[i]?=some v:=by simpa using w
  have k:i<bs.length:=by rw[a];exact(A3.mp d).1
  obtain⟨u,l,o⟩:=m.get (i:=i) (x:=.bl bs[i]) (by rw[C1,A4 k];rfl)
  rw[d] at l;cases l;cases o;dsimp only at f;rw[A4 k,W3] at f;exact B29 f
 ·have e:((G8 c.toArray.size).any λi=>(bs[i]?).getD false)=bs.any id:=by
   rw[B8,<- a];exact qSS bs
  refine⟨.bl (bs.any id),H,I.kept λb x e=>hk b x (λy=>by rw[A5.mp y] at e;exact Q1 _ (C0 e)) (A6 _ e),?_,q⟩
  rw[e]
  rfl
def BareT (H:Hp) (a:Addr) (xs:List V):Prop:=∃o:Obj,H a=some (.frz o (.tup xs))/\o.cls=.type "tuple"/\o.dict=none
theorem BareT.sq {K:PySem.W.Frag}{H:Hp}{a:Addr}{xs:List V}(h:BareT H a xs):SqT K H a xs:=by
 obtain⟨o,h,_⟩:=h;exact .inl (.inr ⟨o,h⟩)
theorem BareT.same {H H':Hp}{a:Addr}{xs:List V}(h:BareT H a xs)(s:∀b o,H b=some o->H' b=some o):BareT H' a xs:=by
 obtain⟨o,d,c⟩:=h;exact⟨o,s _ _ d,c⟩
theorem qQK:qCO X (.type "tuple") (λxs H Q=>∃p ys,xs=[.ref p]/\SqL X.K H p ys/\∀l o,H l=none->o.cls=.type "tuple"->o.dict=none->Q (.ref l) (Ag H l (.frz o (.tup ys)))):=by
 intro d s σ H xs x Q I r h;obtain⟨p,ys,rfl,n,q⟩:=h;obtain⟨u,rfl,m⟩:=qDL r;cases m;obtain⟨a,f,j,v⟩:=I.list n;have i:=f.length;refine call_tuple_list j.isList (λc k=>?_) (by simp only[B8]<;>lia)
 have g:Inv X d σ H {s with heap:=c}:=I.kept (t':=s.toks) k;have t:Inv X d σ (Ag H c.objs.size (.frz {cls:=.type "tuple",data:=.seq a.toArray} (.tup ys))) {s with heap:=c.push {cls:=.type "tuple",data:=.seq a.toArray}}:=
  g.laid (t':=s.toks) (λb o e=>A6 _ e) (A7 _) ⟨B5 _ rfl,show ObjOk X.prog X.w _ _ _ (.tup ys) from⟨v,a,f,IsTup.new _ _⟩⟩
 exact⟨.ref c.objs.size,_,t,rfl,q _ _ (g.hok.fresh (A7 _)) rfl rfl⟩
def qbE:V->List V->Hp->VK->Prop:=λx vs H Q=>∃(l:Addr) (zs:List Int) (y:Int) (j:Nat),x=.ref l/\vs=[.int y]/\H l=some (.lst (zs.map V.int))/\zs[j]?=some y/\(∀i,i<j->zs[i]?≠some y)/\Q (.int j) H
theorem qVC:MtM X "list.index" qbE:=by
 intro Ab s σ H x vs v us Q I rx rv h;obtain⟨l,p,y,j,rfl,rfl,hH,hj,hn,q⟩:=h;cases rx;obtain⟨u,rfl,w⟩:=rv.one;obtain⟨t,rfl⟩:=w;obtain⟨z,a,n,r,hl,e⟩:=I.lstM hH;have d:=r.length;rw[A0] at d;rw[A0] at z;have a1:j<p.length:=(A3.mp hj).1;have f:j<a.toArray.size:=by simp;lia
 have b:∀(m:Nat) (hm:m<a.toArray.size),∃(k:Int) (tk:Tok),a.toArray[m]=.int k tk/\p[m]?=some k:=by
  intro m hm;have g:m<p.length:=by simp at hm;lia
  obtain⟨u,eu,tk,w⟩:=r.get (i:=m) (x:=.int p[m]) (by rw[C1,A4 g];rfl)
  refine⟨p[m],tk,?_,A4 g⟩;rw[i0,<- w];exact(A3.mp eu).2
 let ev:Value->Bool:=λv=>match v with|.int k _=>k==y|_=>false
 refine B77 F.slot_list_index ⟨_,e,rfl⟩ F.entry_list_index (F.args_list_index_2 _ _) (PySem.SeqAt.list_indexAt l a.toArray n none _ (.int y t) ev j f (by rw[B16] at z;lia) ?_ (λm hm a0=>?_)) ⟨e,λv hv=>?_,?_⟩
 ·obtain⟨k,tk,c,o⟩:=b j f;rw[c];rw[hj] at o;cases o;exact beq_self_eq_true _
 ·obtain⟨k,tk,c,o⟩:=b m hm;rw[c];have:k≠y:=λz=>hn m a0 (by rw[o,z])
  show(k==y)=false;simpa using this
 ·obtain⟨m,hm,em⟩:=Array.getElem_of_mem hv;obtain⟨k,tk,c,o⟩:=b m hm;rw[<- em,c];exact A95 k tk y t
 ·exact⟨.int j,H,I.tok _,⟨_,rfl⟩,q⟩
theorem qV0:OpR X (B28 .IsNot) (λx y H Q=>∃a b:Bool,x=.bl a/\y=.bl b/\Q (.bl (a != b)) H):=by
 intro e s σ H x y v u Q I d c h;obtain⟨a,b,rfl,rfl,q⟩:=h;cases d;cases c;exact wpAny_isNot_plain (by cases a<;>cases b<;>rfl) ⟨.bl (a != b),H,I,by cases a<;>cases b<;>rfl,q⟩
theorem qZ2:∀{vs us:List Value} {ns ms:List Int},B19 vs ns->B19 us ms->B19 (vs++us) (ns++ms):=by
 intro vs us ns ms h k
 induction h with
 |nil=>exact k
 |cons n t _ ih=>exact .cons n t ih
theorem qZ0:∀{vs:List Value} {ns:List Int},B19 vs ns->B19 vs.reverse ns.reverse:=by
 intro vs ns h
 induction h with
 |nil=>exact .nil
 |cons n t _ ih=>rw[V4,V4];exact qZ2 ih (.cons n t .nil)
theorem qSO {a:Addr} {vs:List Value} {ns:List Int} {n:Nat} {P:Fin->Shared->Prop} (o:s.heap.get? a=some (seqObj "list" vs.toArray n)) (f:B19 vs ns) (hs:vs.length<64) (hz:vs.length<=B14)
  (h:∀(out:Array Value) (zs:List Int),B19 out.toList zs->zs.Perm ns->zs.Pairwise (· >= ·)->P (.done (.ret .none)) {s with heap:=sortedHeap s.heap a vs out}):wpAny (model prog w) A (Builtin.«list.sort» ⟨[.ref a],[(B9 "reverse",.bool true)]⟩) P E s:=by
 have z:=C0 o;have z0:vs.toArray.size<=B14:=by simpa using hz
 unfold Builtin.«list.sort»;dsimp only;rw[if_neg (show¬([]:List Value).length+[(B9 "reverse",Z9 true)].length>2 by decide)]
 rw[if_neg (show¬(!([]:List Value).isEmpty)=true by decide)]
 have k1:List.lookup (B9 "key") [(B9 "reverse",Z9 true)]=none:=by kernel_rfl
 have k2:List.lookup (B9 "reverse") [(B9 "reverse",Z9 true)]=some (.bool true):=by kernel_rfl
 have k3:((B9 "reverse" : Str) != B9 "key" && (B9 "reverse" : Str) != B9 "reverse")=false:=by kernel_rfl
 have k4:(P5 != P5)=false:=by kernel_rfl
 simp only[k1,k2,k3,w6,k4,E8,if_false,A05,A85,pure_bind];refine B12 (B29 ?_);simp only[if_true];refine B12 (listItems_at o rfl (B12 (B39 o rfl ?_ z0 (D9 _))));have l:∃k,(s.heap.update a (G0 λ_=>#[])).get? a=some (seqObj "list" #[] k):=⟨_,get?_update_seq o λ_=>#[]⟩;obtain⟨k,l⟩:=l;refine B12 (B61 l rfl (B12 (wpAny_newTuple ?_ (by simpa using hz))))
 refine B12 (B56 (B20 ?_));have p:(((s.heap.update a (G0 λ_=>#[])).push (seqObj "tuple" vs.toArray 0)).push (seqObj "list" #[] 0)).get? a=some (seqObj "list" #[] k):=by
  rw[b8,b8]
  ·exact l
  ·rw[d7];exact D1 z
  ·rw[size_push',d7];exact D1 (M6 z)
 have d:∀xs:Array Keyed,xs.Perm (B37 vs)->SortedTo xs (B37 vs).size->P (.done (.ret .none)) {s with heap:=sortedHeap s.heap a vs (xs.map (·.2)).reverse}:=by
  intro xs r sx;obtain⟨zs,q1,q2,q3⟩:=sorted_out f r sx;refine h _ zs.reverse ?_ ((b9 _).trans q2) (d4.mpr q3);rw[A19];exact qZ0 q1
 have sz:∀xs:Array Keyed,xs.Perm (B37 vs)->(xs.map (·.2)).reverse.size<=B14+1:=by
  intro xs r;rw[Array.size_reverse,A26,r.size_eq,pairsOf_size]
  lia
 refine B12 (B58 ?_);show wpAny _ A _ P E {s with heap:=((s.heap.update a (G0 λ_=>#[])).push (seqObj "tuple" vs.toArray 0)).push (seqObj "list" #[] 0)};have q:(B37 vs).reverse.Perm (B37 vs):=X6.mpr (by rw[A19];exact b9 _)
 by_cases b:vs.toArray.size<2
 ·simp only[if_pos b];rw[A07];refine B12 (B13 (B12 (B61 p rfl (B12 (B39 p rfl ?_ (D9 _) (sz (B37 vs).reverse q))))));simp only[bne_self_eq_false,E8,if_false];refine B13 (d (B37 vs).reverse q λi j a0 hj=>?_);rw[pairsOf_size] at hj;rw[B8] at b;rw[show i=j by lia]
  exact L7 _
 ·simp only[if_neg b];have kk:keyKind' vs.toArray=pure B84:=by
   match vs,b,f with
   |[],b,_=>exact absurd (by simp) b
   |[_],b,_=>exact absurd (by simp) b
   |_::_::_,_,f=>exact keyKind_ints f
  letI:G.NM:=⟨numOf,λv=>∃n t,v=.int n t⟩
  haveI:G.LtOk prog w A {s with heap:=((s.heap.update a (G0 λ_=>#[])).push (seqObj "tuple" vs.toArray 0)).push (seqObj "list" #[] 0)} B84:=⟨λ{x y Q E} hx hy h=>by
   obtain⟨n,t,rfl⟩:=hx;obtain⟨m,u,rfl⟩:=hy;rw[keyLt'_oneType];exact oneLt_int h⟩
  refine B12 (B51 kk (B12 (B23 (G.gwpS_runs (κ0:=B84) (a₀:=B37 vs) (Q:=λ_ c=>G.gSG B84 (B37 vs) c/\G.gSortedTo (arrOf c) (B37 vs).size) (by simpa[B37] using hs) f.intKeys ⟨q,rfl,rfl⟩ rfl λc g u=>⟨g,u⟩) ?_ λ_ _ x=>x)))
  rintro⟨_,c⟩ s2 ⟨es,g,u⟩;cases(show s2=_ from es);refine B12 (B61 p rfl (B12 (B39 p rfl ?_ (D9 _) (sz _ g.perm))));have gf:failedOf c=none:=g.failed;dsimp only
  split
  ·rename_i e he
   have:failedOf c=some e:=he;rw[gf] at this;cases this
  ·simp only[bne_self_eq_false,E8,if_false];exact B13 (d _ g.perm u)
theorem qKB (a:Value):argsOk "list.sort" ⟨[a],[(B9 "reverse",.bool true)]⟩:=by unfold argsOk;kernel_rfl
theorem qU7 {Ab:List (Addr×Obj)}{s:Shared}{σ:St}{H:Hp}{Q:VK}{A:Around}{E:Value->Shared->Prop}{ns:List Int}{D:Addr}(I:Inv X Ab σ (Ag H D (.lst (ns.map V.int))) s)(p:ns.length<64)
  (q:∀zs:List Int,zs.Perm ns->zs.Pairwise (· >= ·)->Q (.ref D) (Ag H D (.lst (zs.map V.int)))):
  wpAny (model X.prog X.w) A (call (.builtin "list.sort") [.ref D] [(B9 "reverse",.bool true)]) (λ_ s'=>EP X Ab σ Q (.ref D) s') E s:=by
 obtain⟨z,g,n,h,t,e⟩:=I.lstM qA1;have j:=qBB h;have a:=h.length;refine wpAny_call_entry_kw slot_list_sort ⟨_,e,rfl⟩ B92 (qSO (ns:=ns) (n:=n) e j (by rw[<- a,A0];exact p) (by rw[<- a];exact z) λout zs r i k=>⟨_,rfl,?_⟩) (qKB _)
 obtain⟨o,d⟩:=sortedHeap_at (vs:=g) (out:=out) e;refine⟨.ref D,Ag H D (.lst (zs.map V.int)),?_,rfl,q zs i k⟩;have m:Ag (Ag H D (.lst (ns.map V.int))) D (.lst (zs.map V.int))=Ag H D (.lst (zs.map V.int)):=qHH;rw[<- m];refine I.write (x:=D) (e:=D) (t':=s.toks) (by rw[qA1];exact trivial) (.inl rfl) (λb u l c=>?_) ⟨_,d⟩ ?_
 ·rw[sortedHeap_old l (C0 c)];exact c
 ·refine⟨?_,out.toList,o,qDS r,by simpa using d⟩
  rw[A0,i.length_eq,<- A0 (f:=V.int)];exact z
theorem qOM (a d:Value):argsOk "sorted" ⟨[a],[(B9 "reverse",d)]⟩:=by unfold argsOk;kernel_rfl
def qd2 (K:PySem.W.Frag)(t tk:TA):TE:=λσ H Q=>t σ H λvs H1=>tk σ H1 λws H2=>∃p ns,vs=[.ref p]/\ws=[.bl true]/\SqL K H2 p (ns.map V.int)/\ns.length<64/\∀(a:Addr) (zs:List Int),H2 a=none->zs.Perm ns->zs.Pairwise (· >= ·)->Q (.ref a) (Ag H2 a (.lst (zs.map V.int)))
theorem qYC {e d:Expr} {t tk:TA} {p pos kpos:Pos} (hc:X.calm=true) (hg:Gl X "sorted") (hm:X.mg "sorted" = none) (k:B18 "sorted" = some (.builtin "sorted")) (ha:PA X [e] t) (v:PK X [⟨some "reverse",d,kpos⟩] tk)
  (hs:B17 [e] X.env=[(false,eval e X.env)]:=by rfl):PE X (.Call (.Name "sorted" p) [e] [⟨some "reverse",d,kpos⟩] pos) (qd2 X.K t tk):=by
 intro j s σ H Q I h;refine B41 (qG6 I hg hm k ?_ (by decide) (by decide))
 refine Z1 (thn (ha pos j s σ H _ I h) λus s1 ⟨vs,H1,I1,r1,q1⟩=>?_) (by rw[hs];rfl) (by rw[hs];rfl)
 refine thn (v pos j s1 σ H1 _ I1 q1) fun ws s2 ⟨zs,H2,I2,rz,q2⟩=>?_;obtain ⟨p,z,rfl,rfl,hq,i,q⟩:=q2;obtain ⟨u,rfl,rx⟩:=qDL r1;cases rx;obtain ⟨u2,rfl,ry⟩:=qDL rz;cases ry;refine call_function_entry_kw kind_sorted plain_sorted entry_sorted (qOM _ _) ?_;unfold Builtin.«sorted»;refine B12 (m:=checkCount "sorted" 1 1 _) (B13 ?_);have f:∀ (s1:Shared) (vs:List Value),Inv X j σ H2 s1->B19 vs z->z.length<=B14->wpAny (model X.prog X.w) X.A.in1 (do
   let l <- newList vs
   let _ <- B46 [l] (call (.builtin "list.sort") [l] [(B9 "reverse",.bool true)])
   ret l) (λf s'=>∃r,f=.done (.ret r)/\EP X j σ Q r s') X.xe s1:=by
  intro s1 vs I1 k g;have c:=IntsAre.length k;refine B12 (B56 ?_ (by rw[c];exact g))
  have hf:=I1.hok.fresh (A7 s1.heap.objs.size);refine B12 (B20 (B23 (qU7 (E:=X.xe) (qHP I1 k g) i λzs a b=>q _ zs hf a b) (λ_ s' x=>?_) λ_ _ e=>e));exact B13 ⟨_,rfl,x⟩
 obtain⟨a0,rv,pl,g⟩:=I2.list hq;obtain⟨o,ho,y,n,v⟩:=pl.isList;have c:=rv.length;refine B12 (B44 p (.inl rfl) ho y v (λh' hk=>?_) (by rw[B8,<- c];exact g))
 exact f _ _ (I2.kept (t':=s2.toks) hk) (by simpa using qBB rv) (by rw[A0] at g;exact g)
theorem qL0 {α β:Type}{F G:α->β->Prop}:∀{l₁:List α} {l₂:List β},Paired F l₁ l₂->(∀a b,a∈l₁->F a b->G a b)->Paired G l₁ l₂:=by
 intro l₁ l₂ h f
 induction h with
 |nil=>exact .nil
 |cons r t ih=>exact .cons (f _ _ C5 r) (ih λa b c=>f a b (A9 _ c))
theorem Inv.laidN {Ab:List (Addr×Obj)}{σ:St}{H H':Hp}{s:Shared}{h':Heap}{t':Nat}(I:Inv X Ab σ H s)(k:∀b u,s.heap.get? b=some u->h'.get? b=some u)(ext:∀b o,H b=some o->H' b=some o)
  (d:∀b o,H' b=some o->H b=some o\/(s.heap.objs.size<=b/\ObjOk X.prog X.w H' h' b o)):Inv X Ab σ H' {s with heap:=h',toks:=t'}:=by
 refine I.un ⟨λb u q _ _ _=>k b u q,λb u q _ _ _=>⟨u.slots,k b u q⟩,λb u q n _=>?_,λb u q _=>⟨u,k b u q⟩,λb f q=>ext _ _ q,λb o u q=>ext _ _ q,λb g q=>ext _ _ q⟩ λb o e=>?_
 ·cases e:H' b with
  |none=>rfl
  |some o=>
   rcases d b o e with z|z
   ·rw[n] at z;cases z
   ·exact absurd (C0 q) (Nat.not_lt.mpr z.1)
 ·rcases d b o e with z|z
  ·exact(I.hok b o z).stay (λc v _ q=>k c v q) (λc q=>ext _ _ q) (λc f q=>ext _ _ q) λc t q=>ext _ _ q
  ·exact z.2
noncomputable def qG2:List Addr->List (Key×V)->Hp->Hp
 |a::as,kv::Af,H=>Ag (qG2 as Af H) a (.tup [kV kv.1,kv.2])
 |_,_,H=>H
theorem qKT:∀{as:List Addr} {Af:List (Key×V)} {H:Hp} {b:Addr},b∉as->qG2 as Af H b=H b
 |[],_,_,_,_=>by simp[qG2]
 |a::as,[],_,_,_=>rfl
 |a::as,kv::Af,H,b,h=>by
  show Ag _ _ _ _=_;rw[qA8 (λz=>h (by rw[z];exact C5))]
  exact qKT λz=>h (A9 _ z)
theorem qN3:∀{as:List Addr} {Af:List (Key×V)} {H:Hp} {b:Addr} {o:HO},qG2 as Af H b=some o->H b=some o\/∃(j:Nat) (kv:Key×V),as[j]?=some b/\Af[j]?=some kv/\o=.tup [kV kv.1,kv.2]
 |[],_,_,_,_,h=>.inl (by simpa[qG2] using h)
 |a::as,[],_,_,_,h=>.inl h
 |a::as,kv::Af,H,b,o,h=>by
  by_cases e:b=a
  ·subst e;have h':Ag (qG2 as Af H) b (.tup [kV kv.1,kv.2]) b=some o:=h;rw[qA1] at h';exact .inr ⟨0,kv,rfl,rfl,(D0 h').symm⟩
  ·have h':Ag (qG2 as Af H) a (.tup [kV kv.1,kv.2]) b=some o:=h;rw[qA8 e] at h';rcases qN3 h' with z|⟨j,kv',z1,z2,z3⟩
   ·exact .inl z
   ·exact .inr ⟨j+1,kv',z1,z2,z3⟩
theorem qJ5:∀{as:List Addr} {Af:List (Key×V)} {H:Hp},as.length=Af.length->as.Pairwise (·<·)->Paired (λr kv=>qG2 as Af H r=some (.tup [kV kv.1,kv.2])) as Af
 |[],[],_,_,_=>.nil
 |[],_::_,_,h,_=>by cases h
 |_::_,[],_,h,_=>by cases h
 |a::as,kv::Af,H,h,p=>by
  have p2:=O0.mp p;refine .cons qA1 (qL0 (qJ5 (H:=H) (by simpa using h) p2.2) λr kv' hr e=>?_)
  show Ag _ _ _ _=_;rw[qA8 (R7 (p2.1 r hr))];exact e
noncomputable def qXH (r d:Addr):HO:=.ext λh=>h.get? r=some {cls:=.type "dict_items",data:=.fields #[.ref d]}
def qdL:V->List V->Hp->VK->Prop:=λx vs H Q=>∃(d:Addr) (Af:List (Key×V)),x=.ref d/\vs=[]/\H d=some (.dK Af)/\∀r,H r=none->Q (.ref r) (Ag H r (qXH r d))
theorem qYR:MtM X "dict.items" qdL:=by
 intro l s σ H x t v y Q I i g h;obtain⟨d,p,rfl,rfl,k,q⟩:=h;cases i;cases g;obtain⟨z,j,r,f,c⟩:=qQE I.hok k;refine call_meetsIn F.slot_dict_items c.typeIs F.entry_dict_items (F.args_dict_items_1 _) (meets_dict_items (qB0 X.prog X.w) d j) ⟨⟨_,c⟩,?_⟩;refine⟨.ref s.heap.objs.size,_,I.laid (a:=s.heap.objs.size) (o:=qXH s.heap.objs.size d) (t':=s.toks) (λb u e=>A6 _ e) (A7 _) ?_,rfl,q _ (I.hok.fresh (A7 _))⟩;exact⟨B5 _ rfl,⟨_,B5 _ rfl⟩,λn m a b=>b _ a⟩
theorem qMX:∀(as:List Addr),Vals (as.map V.ref) (as.map E2)
 |[]=>.nil
 |_::as=>.cons rfl (qMX as)
theorem qTN (hc:X.calm=true):qCO X (.type "list") (fun xs H Q=>∃ (r d:Addr) (Af:List (Key × V)),xs=[.ref r]/\H r=some (qXH r d)/\H d=some (.dK Af)/\(∀ p ∈ Af,∃ n,p.1=D7 n)/\
  ∀l rs H',H l=none->(∀b o,H b=some o->H' b=some o)->H' l=some (.lst (rs.map V.ref))->Paired (λr (kv:Key×V)=>H' r=some (.tup [kV kv.1,kv.2])) rs Af->Q (.ref l) H'):=by
 intro Ab s σ H xs us Q I rr h;obtain⟨r,d,Af,rfl,hr,hq,hk,q⟩:=h;obtain⟨u,rfl,rx⟩:=qDL rr;cases rx;obtain⟨hz,hd,ws,m,dd⟩:=qQE I.hok hq;have lw:ws.length=Af.length:=m.length.symm;have hv:s.heap.get? r=some {cls:=.type "dict_items",data:=.fields #[.ref d]}:=(show ObjOk X.prog X.w H s.heap r (qXH r d) from I.hok r _ hr).1;have a1:=C0 hv;have a2:d<s.heap.objs.size:=I.hok.lt hq;refine callType_codes (Q₁:=λg s₁=>g=.ref s.heap.objs.size/\s₁={s with heap:=s.heap.push {cls:=.type "list",data:=.seq #[]}}) F.called_list (F.typeCall_list_1 _) F.entry_list_init (code_list_new _ ⟨rfl,rfl⟩) ?_;rintro g s₁ ⟨rfl,rfl⟩;obtain⟨ep,da⟩:=(dd.push {cls:=.type "list",data:=.seq #[]}).dictAt;refine⟨⟨_,B5 _ rfl,rfl⟩,F.args_list_init_2 _ _,?_⟩;refine PySem.W.kdx_init (A:=X.A.in1) (I.ok.hd hc) ⟨_,A6 _ hv,rfl,rfl⟩ da s.heap.objs.size (R7 a1) (D1 a2) (B5 _ rfl) (λh' tk a6 c a i a5 la G ea=>?_) (by rw[lw];exact hz)
 refine⟨rfl,?_⟩;have a3:s.heap.objs.size∉a:=λz=>absurd (G.above _ z) (Q1 _);have y:a.length=Af.length:=la.trans lw;have fr:∀b,s.heap.objs.size<=b->H b=none:=λb f=>I.hok.fresh f;have ext:∀b o,H b=some o->Ag (qG2 a Af H) s.heap.objs.size (.lst (a.map V.ref)) b=some o:=λb o e=>by
  have f:b<s.heap.objs.size:=I.hok.lt e;rw[qA8 (D1 f),qKT λz=>absurd (G.above _ z) (Nat.lt_asymm f)];exact e
 refine⟨.ref s.heap.objs.size,Ag (qG2 a Af H) s.heap.objs.size (.lst (a.map V.ref)),I.laidN (t':=tk) (λb u e=>i b u (D1 (C0 e)) (A6 _ e)) ext (λb o e=>?_),rfl,q _ a _ (fr _ (A7 _)) ext qA1 (qL0 (qJ5 (H:=H) y G.rise) λx kv hx e=>?_)⟩
 ·by_cases eb:b=s.heap.objs.size
  ·subst eb;rw[qA1] at e;cases e;refine .inr ⟨A7 _,by rw[A0,y];exact hz,a.map E2,c,qMX a,?_⟩
   rw[<- ea];simpa using a5
  ·rw[qA8 eb] at e;rcases qN3 e with z|⟨j,kv,z1,z2,z3⟩
   ·exact .inl z
   ·subst z3;obtain⟨a0,k,x,e1,e2,e3⟩:=G.pairs j b z1;have f:=G.above b (B1 z1);obtain⟨w0,ew,ek,rx⟩:=qIV m z2;rw[e1] at ew;cases ew;obtain⟨n,en⟩:=hk kv (B1 z2);refine .inr ⟨R6 f,(by show 2<=B14;decide),[a0,x],?_,⟨_,e3,rfl,0,rfl⟩⟩
    have a4:kv.1=k:=ek;rw[<- a4,en] at e2;obtain⟨t,e4⟩:=o8 (k:=n) (v:=a0) e2;rw[en,e4];exact .cons ⟨t,rfl⟩ (.cons rx .nil)
 ·rw[qA8 (show x≠s.heap.objs.size fromλz=>a3 (by rw[<- z];exact hx))]
  exact e
def TB:Type:=(St->XK)->TS
section
variable{X:Cx}{tg:Expr}
def tFrz (t:TE):TE:=λσ H Q=>t σ H λv H1=>∃d Af,v=.ref d/\H1 d=some (.dK Af)/\∀o,Q v (Ag H1 d (.frz o (.dK Af)))
theorem Inv.freeze {Ab:List (Addr×Obj)}{σ:St}{H:Hp}{s:Shared}{d:Addr}{Af:List (Key×V)}(I:Inv X Ab σ H s)(h:H d=some (.dK Af)):∃o,Inv X Ab σ (Ag H d (.frz o (.dK Af))) s:=by
 have c:=I.hok d _ h;obtain⟨l,i,j,f,o,g,k,a,r⟩:=id c;refine⟨o,?_⟩;have:=I.write (h':=s.heap) (t':=s.toks) (x:=d) (e:=d) (o:=.frz o (.dK Af)) (by rw[h];trivial) (.inl rfl) (λb u _ q=>q) ⟨o,a⟩ ⟨a,c⟩
 exact this
theorem qaD {e:Expr}{t:TE}(b:PE X e t):PE X e (tFrz t):=by
 intro f s σ H Q I h;refine thn (b f s σ H _ I h) λv s1 ⟨x,H1,I1,r1,d,Af,e,hd,q⟩=>?_;obtain⟨o,g⟩:=I1.freeze hd;exact⟨x,_,g,r1,q o⟩
noncomputable def Itk (a:Addr)(o:Obj)(Af:List (Key×V)):It:=
 ⟨λi H=>i<Af.length/\H a=some (.frz o (.dK Af)),λi H x c=>c=H/\∃k v,Af[i]?=some (k,v)/\x=kV k,λi H=>Af.length<=i/\H a=some (.frz o (.dK Af))⟩
theorem qY6 {k:Key}{v:Value}(h:qNS k v=true):RelV (kV k) v:=by
 rcases qBL h with⟨i,t,rfl,rfl⟩|⟨x,t,rfl,rfl⟩
 ·exact⟨t,rfl⟩
 ·exact⟨t,rfl⟩
theorem Inv.heldD {Ab:List (Addr×Obj)}{σ:St}{H:Hp}{s:Shared}{d:Addr}{o:Obj}{Af:List (Key×V)}(I:Inv X Ab σ H s)(h:H d=some (.frz o (.dK Af))):s.heap.get? d=some o/\(d==B35)=false/\∃vs ep,KV Af vs/\s.heap.DictAt (qB0 X.prog X.w) d vs ep/\(∃es,o.data=.dict es ep):=by
 obtain⟨e,l,g,vs,c,i⟩:=(show ObjOk X.prog X.w H s.heap d (.frz o (.dK Af)) from I.hok d _ h);obtain⟨ep,f⟩:=i.dictAt;obtain⟨j,es,b,k,a,r⟩:=id f;rw[e] at b;cases b;exact⟨e,g,vs,ep,c,f,es,a⟩
theorem qSL {P:B15}{w:World}{K:PySem.W.Frag}{tg:Expr}(a m:Addr)(o:Obj)(Af:List (Key×V))(ep:Nat)(es:_)(ho:o.data=.dict es ep):Turn P w K tg (Itk a o Af) [m] m (λi h=>h.IsKeyIter m a i Af.length ep) where
 mem:=by simp
 obj:=λi h g b l=>by
  have e:b=m:=by simpa using l
  subst e;obtain⟨o,e,c,d⟩:=g;exact⟨o,e,λv z=>by rw[d] at z;cases z⟩
 keep:=λi h u g k=>g.at λo e=>k m (by simp) o e
 item:=by
  intro X hP hw hK hc i Ab s σ H E I y g hg;subst hP hw hK;obtain⟨hi,hq⟩:=hg;obtain⟨e1,e2,n,a2,j,da,a0,r⟩:=I.heldD hq;rw[ho] at r;cases r;obtain⟨f0,f1,f2,f3,f4,f5⟩:=y m (by simp)
  have lv:n.length=Af.length:=j.length.symm;rw[<- lv] at g;obtain⟨⟨k,x⟩,hx⟩:∃p,n[i]?=some p:=⟨n[i]'(by lia),A4 (by lia)⟩
  obtain⟨⟨k',v'⟩,t⟩:∃p,Af[i]?=some p:=⟨Af[i],A4 hi⟩;have ek:k'=k:=by
   have h1:(Af.map (·.1))[i]?=some k':=by rw[C1,t];rfl
   have h2:(n.map (·.1))[i]?=some k:=by rw[C1,hx];rfl
   rw[j.keys,h2] at h1;cases h1
   rfl
  refine wpAny_pyNext_dict_item g da hx λa3 u q f a1=>?_;have I1:Inv X Ab σ H {s with heap:=u}:=I.turned (t':=s.toks) (λb o l e=>(a1.2 b l).trans e) f0 f1 f3 f4 f5;rw[lv] at f;obtain⟨oi,ei,c,d⟩:=id f;exact⟨a3,rfl,qTA (s:={s with heap:=u}) ei c d (by decide) ⟨kV k,H,I1,qY6 q,⟨rfl,k',v',t,by rw[ek]⟩,f,λb l=>(y b l).1⟩⟩
 done:=by
  intro X hP hw hK hc i Ab s σ H E I y g hg;subst hP hw hK;obtain⟨hi,hq⟩:=hg;obtain⟨e1,e2,n,a2,j,da,a0,r⟩:=I.heldD hq;rw[ho] at r;cases r;obtain⟨f0,f1,f2,f3,f4,f5⟩:=y m (by simp)
  have lv:n.length=Af.length:=j.length.symm;rw[<- lv] at g;exact wpAny_pyNext_dict_end (I.ok.hd hc) g da (by simp;lia) λu eb=>⟨rfl,I.turned (t':=s.toks) (λb o l e=>eb b o l e) f0 f1 f3 f4 f5⟩
 self:=λ_ _ _ _ _ g h=>wpAny_pyIter_keyiter g h
def qeD (tl:TE):TI:=λσ H R=>tl σ H λx H1=>∃a o Af,x=.ref a/\H1 a=some (.frz o (.dK Af))/\R (Itk a o Af) H1
theorem qRG {l:Expr}{f:TE}(r:PE X l f):PI X tg l (qeD f):=by
 intro i s σ H R I h;refine thn (r i s σ H _ I h) λv s1 ⟨x,H1,I1,r1,q1⟩=>?_;obtain⟨a,o,d,e,p,q⟩:=q1;subst e;cases r1;obtain⟨y,n,u,w,c,t,k,g⟩:=I1.heldD p;have m:u.length=d.length:=c.length.symm;refine wpAny_pyIter_dict n t ?_;refine⟨s1.heap.objs.size,[s1.heap.objs.size],_,_,H1,rfl,I1.kept (t':=s1.toks) λb o e=>A6 _ e,qSL a _ o d w k g,⟨_,B5 _ rfl,rfl,by rw[m];rfl⟩,λb j=>?_,q⟩
 have e:b=s1.heap.objs.size:=by simpa using j
 subst e;exact I1.fpOk (A7 _) (I1.hok.fresh (A7 _))
end
theorem qYX {a:Addr}{o:Obj}{Af:List (Key×V)}{g:TG}{h:TT}{f:TE}{Kf:Hp->Prop}{σ0:St}{H0:Hp}{p:Addr}(Pv:Nat->St->Hp->Prop)(t:Pv 0 σ0 H0)(r:∀i σ H,i<=Af.length->Pv i σ H->H a=some (.frz o (.dK Af)))
  (u:∀i k v σ H,Af[i]?=some (k,v)->Pv i σ H->g (kV k) σ H λσ2 H2=>h σ2 H2 λb H3=>if b=true then f σ2 H3 λy H4=>∃ys,H4 p=some (.lst ys)/\ys.length<B14/\Pv (i+1) σ2 (Ag H4 p (.lst (ys++[y]))) else Pv (i+1) σ2 H3)
  (s:∀σ H,Pv Af.length σ H->Kf H):
  LcG (Itk a o Af) g h f Kf σ0 H0 p:=by
 refine⟨λi m σ H=>m=Af.length-i/\i<=Af.length/\Pv i σ H,⟨Af.length,by simp,D9 _,t⟩,?_⟩
 rintro i m σ H ⟨rfl,hi,q⟩;have d:=r i σ H hi q;by_cases c:i<Af.length
 ·refine .inr ⟨⟨c,d⟩,Pv (i+1),λσ' l w=>⟨Af.length-(i+1),by lia,rfl,c,w⟩,λx l y=>?_⟩
  obtain⟨e,k,v,n,j⟩:=y;subst e j;exact u i k v σ _ n q
 ·have e:i=Af.length:=by lia
  subst e;exact .inl ⟨⟨A7 _,d⟩,s σ H q⟩
theorem qWE {a:Addr}{o:Obj}{Af:List (Key×V)}{g:TG}{c:TS}{D:Ends}{σ:St}{H:Hp}(Pv:Nat->St->Hp->Prop)(n:Pv 0 σ H)(j:∀i σ H,i<=Af.length->Pv i σ H->H a=some (.frz o (.dK Af)))
  (r:∀i k v σ H,Af[i]?=some (k,v)->Pv i σ H->g (kV k) σ H λσ2 H2=>c {D with nx:=Pv (i+1),ct:=Pv (i+1),bk:=D.nx} σ2 H2) (l:∀σ H,Pv Af.length σ H->D.nx σ H):
  ForG (Itk a o Af) g c D σ H:=by
 refine⟨λi m σ H=>m=Af.length-i/\i<=Af.length/\Pv i σ H,⟨Af.length,by simp,D9 _,n⟩,?_⟩
 rintro i m σ H ⟨rfl,hi,p⟩;have q:=j i σ H hi p;by_cases b:i<Af.length
 ·refine .inr ⟨⟨b,q⟩,Pv (i+1),λσ' f s=>⟨Af.length-(i+1),by lia,rfl,b,s⟩,λx f y=>?_⟩
  obtain⟨e,k,v,h,d⟩:=y;subst e d;exact r i k v σ _ h p
 ·have e:i=Af.length:=by lia
  subst e;exact .inl ⟨⟨A7 _,q⟩,l σ H p⟩
theorem qX2 {X:Cx} {K:PySem.W.Frag} (b:X.K=K) (a:X.calm=true):qCO X (.builtin "sum") (λxs H Q=>∃(p:Addr) (ns:List Int),xs=[.ref p]/\SqL K H p (ns.map V.int)/\Q (.int ns.sum) H):=by subst b;exact qS5 a
section
variable{prog:B15}{w:World}{A:Around}{E:Value->Shared->Prop}{s:Shared}{it d:Addr}{i n ep:Nat}{od:Obj}{es:Array DictEntry}
theorem qWP {Q:Value->Shared->Prop} (a:s.TypeIs (.ref d) "dict") (e:(d==B35)=false) (b:s.heap.get? d=some od) (c:od.data=.dict es ep)
  (f:Q (.ref s.heap.objs.size) {s with heap:=s.heap.push {cls:=.type "dict_keyiterator",data:=.fields #[.ref d,rawInt 0,rawInt es.size,rawInt ep]}}):wpAny (model prog w) A (pyIter (.ref d)) Q E s:=by
 apply wpAny_pyIter_slot a A67;refine B30 A67 a F.entry_dict_iter ?go (F.args_dict_iter_1 (.ref d));unfold Builtin.«dict.__iter__»;apply B12;unfold Builtin.Dict.dictSlotNone;apply B12;apply wpAny_notOrdered_dict a;apply B13;apply B12;apply B13;apply B12;unfold Builtin.Dict.showsAll;rw[e];apply B13;apply B12;apply wpAny_dictEntries b c;apply B12;apply wpAny_dictEpoch b c;apply B12;refine B25 ?made;apply B13;exact⟨_,rfl,"dict_keyiterator",_,⟨_,B5 _ rfl,rfl⟩,O9.lookup,f⟩
def qXN (h:Heap) (it d:Addr) (i n ep:Nat):Prop:=h.get? it=some {cls:=.type "dict_keyiterator",data:=.fields #[.ref d,rawInt i,rawInt n,rawInt ep]}
theorem qWQ {Q:Option Value->Shared->Prop}(a:qXN s.heap it d i es.size ep)(g:s.heap.get? d=some od)(h:od.data=.dict es ep)(hi:i<es.size)
  (k:∀h',qXN h' it d (i+1) es.size ep->Heap.SameBut it s.heap h'->Q (some es[i].key) {s with heap:=h'}):wpAny (model prog w) A (pyNext (.ref it)) Q E s:=by
 have c:s.TypeIs (.ref it) "dict_keyiterator":=⟨_,a,rfl⟩;unfold pyNext;apply B12;apply B71;apply wpAny_callSpecial?_slot (name:=B9 "__next__") c O9;refine B30 O9 c d8 ?go (d5 (.ref it));apply B12;apply B13;apply B12;apply B12;apply B12
 first|apply B45 c|apply B55 c
 apply B13;apply B12;refine wpAny_fieldsOf a rfl ?fs;have e:j6 "dict_keyiterator" = false:=by decide
 have j:((E2 d==P5)=true)->False:=λz=>by cases z
 simp only[e,E8,if_false];show wpAny _ _ (if(E2 d==P5)=true then _ else _) _ _ s
 rw[if_neg j];apply B12;apply B13;apply B12;apply wpAny_dictEntries g h;rw[if_neg (by simp)]
 apply B12;apply B13;apply B12;apply wpAny_dictEpoch g h;rw[if_neg (by simp)]
 apply B13;have f:¬((i:Int)<0):=Int.not_lt.mpr (W9 i);simp only[f,if_false,D2,E3 hi];apply B12;apply B12
 first|apply B45 c|apply B55 c
 apply B13;apply B12;apply wpAny_isOneOf_keyiter c;show wpAny _ _ (setField (.ref it) 1 (rawInt ((i:Int)+1)) >>= _) _ _ s;apply B12;refine B54 a rfl (by show 1<4;decide) ?set
 have b:qXN (s.heap.update it (i9 (·.setIfInBounds 1 (rawInt ((i:Int)+1))))) it d (i+1) es.size ep:=G5 _ a rfl;apply B12;apply B20;apply B12;refine wpAny_isOneOf_keyiter (s:={s with heap:=s.heap.update it (i9 (·.setIfInBounds 1 (rawInt ((i:Int)+1))))}) ⟨_,b,rfl⟩ ?one;apply B13;apply B13;exact⟨_,rfl,B13 (k _ b (V9 ..))⟩
theorem qZP {Q:Option Value->Shared->Prop}(n:A.handled=none)(c:qXN s.heap it d i es.size ep)(hi:es.size<=i)(j:s.heap.get? d=some od)(k:od.data=.dict es ep)
  (q:∀h',Heap.ExtBut it s.heap h'->Q none {s with heap:=h'}):wpAny (model prog w) A (pyNext (.ref it)) Q E s:=by
 have f:s.TypeIs (.ref it) "dict_keyiterator":=⟨_,c,rfl⟩;unfold pyNext;apply B12;apply B71;apply wpAny_callSpecial?_slot (name:=B9 "__next__") f O9;refine B30 O9 f d8 ?go (d5 (.ref it));apply B12;apply B13;apply B12;apply B12;apply B12
 first|apply B45 f|apply B55 f
 apply B13;apply B12;refine wpAny_fieldsOf c rfl ?fs;have g:j6 "dict_keyiterator" = false:=by decide
 have p:((E2 d==P5)=true)->False:=λz=>by cases z
 simp only[g,E8,if_false];show wpAny _ _ (if(E2 d==P5)=true then _ else _) _ _ s
 rw[if_neg p];apply B12;apply B13;apply B12;apply wpAny_dictEntries j k;rw[if_neg (by simp)]
 apply B12;apply B13;apply B12;apply wpAny_dictEpoch j k;rw[if_neg (by simp)]
 apply B13;have h:¬((i:Int)<0):=Int.not_lt.mpr (W9 _);simp only[h,if_false,D2,Array.getElem?_eq_none hi];apply B12;apply B12
 first|apply B45 f|apply B55 f
 apply B13;show wpAny _ _ (setField (.ref it) 0 .none >>= _) _ _ s;apply B12;refine B54 c rfl (by show 0<4;decide) ?set
 have r:Heap.ExtBut it s.heap (s.heap.update it (i9 (·.setIfInBounds 0 P5))):=λb o l e=>(C9 _ _ (G4 l)).trans e;show wpAny _ _ (newExc (.type "StopIteration") [] >>= _) _ _ _;apply B12;simp only[newExc,newTuple];apply B12;refine B25 ?t1 (by size_fits)
 refine B12 (m:=B64 _ _) (B51 (a:=P5) (by first|rfl|(simp only[B64];rfl)) ?t2)
 refine B25 ?t3 (by size_fits)
 simp only[raiseNew];apply B12;apply wpAny_handled;rw[show A.in1.handled=none from n]
 first|apply wpAny_throw|(apply B12;apply B13;apply wpAny_throw)
 apply B12;refine wpAny_isInstance (T:="StopIteration") (b:=true) ⟨_,B5 _ rfl,rfl⟩ isSubtype_stop ?t4;exact B13 (q _ ((r.push _).push _))
end
section
variable{X:Cx}{tg:Expr}
def qf4 (t:TE):TE:=λσ H Q=>t σ H λv H1=>∃d Af,v=.ref d/\H1 d=some (.dT Af)/\∀o,Q v (Ag H1 d (.frz o (.dT Af)))
theorem Inv.freezeT {Ab:List (Addr×Obj)}{σ:St}{H:Hp}{s:Shared}{d:Addr}{Af:List (List Key×V)}(I:Inv X Ab σ H s)(h:H d=some (.dT Af)):∃o,Inv X Ab σ (Ag H d (.frz o (.dT Af))) s:=by
 have c:=I.hok d _ h;obtain⟨m,i,j,f,o,g,k,a,r⟩:=id c;refine⟨o,I.write (h':=s.heap) (t':=s.toks) (x:=d) (e:=d) (o:=.frz o (.dT Af)) (by rw[h];trivial) (.inl rfl) (λb u _ q=>q) ⟨o,a⟩ ⟨a,?_⟩⟩
 refine(show ObjOk X.prog X.w H s.heap d (.dT Af) from c).stay (λb u _ q=>q) (λb q=>?_) (λb l q=>?_) λb t q=>?_
 ·rw[qA8 (qCC q h (by intro z;cases z))];exact q
 ·rw[qA8 (qCC q h (by intro z;cases z))];exact q
 ·rw[qA8 (qCC q h (by intro z;cases z))];exact q
theorem qbP {e:Expr}{t:TE}(a:PE X e t):PE X e (qf4 t):=by
 intro b s σ H Q I h;refine thn (a b s σ H _ I h) λv s1 ⟨x,H1,I1,r1,d,Af,e,hd,q⟩=>?_;obtain⟨o,c⟩:=I1.freezeT hd;exact⟨x,_,c,r1,q o⟩
def ItT (a:Addr)(o:Obj)(Af:List (List Key×V)):It:=
 ⟨λi H=>i<Af.length/\H a=some (.frz o (.dT Af)),λi H x H'=>H'=H/\∃k v r,Af[i]?=some (k,v)/\x=.ref r/\H r=some (.tup (k.map kV)),λi H=>Af.length<=i/\H a=some (.frz o (.dT Af))⟩
theorem Inv.heldT {Ab:List (Addr×Obj)}{σ:St}{H:Hp}{s:Shared}{d:Addr}{o:Obj}{Af:List (List Key×V)}(I:Inv X Ab σ H s)(h:H d=some (.frz o (.dT Af))):
  s.heap.get? d=some o/\(d==B35)=false/\o.cls=.type "dict"/\∃es ep,o.data=.dict es ep/\es.size=Af.length/\∀(i:Nat) (hi:i<es.size),∃k v r,Af[i]?=some (k,v)/\es[i].key=.ref r/\H r=some (.tup (k.map kV)):=by
 obtain⟨l,hz,p,f,a,o',es,ep,b,q,c,m,nd⟩:=(show ObjOk X.prog X.w H s.heap d (.frz o (.dT Af)) from I.hok d _ h);rw[l] at b;cases b;have z:f.length=Af.length:=a.length.symm;have n:es.size=f.length:=by rw[<- E5,m,A0]
 refine⟨l,p,q.1,es,ep,c,n.trans z,λi hi=>?_⟩;have u:i<f.length:=by lia
 have e:i<Af.length:=by lia
 have g:=A4 e;obtain⟨x,y,e1,t,e3⟩:=qIV a g;refine⟨Af[i].1,Af[i].2,x.2.1,g,?_,t⟩;have j:es[i]?=some (entryOfKey (B85 (qB0 X.prog X.w)) x):=by rw[<- L6,m,C1,y];rfl
 rw[E3 hi] at j;rw[D0 j]
 rfl
theorem qSK {P:B15}{w:World}{K:PySem.W.Frag}{tg:Expr}(a g:Addr)(o:Obj)(Af:List (List Key×V))(ep:Nat)(es:_)(n:o.data=.dict es ep):Turn P w K tg (ItT a o Af) [g] g (λi h=>qXN h g a i Af.length ep) where
 mem:=by simp
 obj:=λi h d b f=>by
  have e:b=g:=by simpa using f
  subst e;exact⟨_,d,λv z=>by cases z⟩
 keep:=λi h p d k=>k g (by simp) _ d
 item:=by
  intro X hP hw hK hc i Ab s σ H E I t d hg;subst hP hw hK;obtain⟨hi,hq⟩:=hg;obtain⟨u,e2,e3,y,a1,m,q,j⟩:=I.heldT hq;rw[n] at m;cases m;obtain⟨f0,f1,f2,f3,x,f5⟩:=t g (by simp)
  rw[<- q] at d;have l:i<es.size:=by lia
  obtain⟨k,v,r,g1,g2,g3⟩:=j i l;refine qWQ d u n l λp c a0=>?_;have I1:Inv X Ab σ H {s with heap:=p}:=I.turned (t':=s.toks) (λb o f e=>(a0.2 b f).trans e) f0 f1 f3 x f5;rw[q] at c;rw[g2];exact⟨.ref r,rfl,qTA (s:={s with heap:=p}) c rfl rfl (by decide) ⟨.ref r,H,I1,rfl,⟨rfl,k,v,r,g1,rfl,g3⟩,c,λb f=>(t b f).1⟩⟩
 done:=by
  intro X hP hw hK hc i Ab s σ H E I t d hg;subst hP hw hK;obtain⟨hi,hq⟩:=hg;obtain⟨u,e2,e3,y,a1,m,q,j⟩:=I.heldT hq;rw[n] at m;cases m;obtain⟨f0,f1,f2,f3,x,f5⟩:=t g (by simp)
  rw[<- q] at d;exact qZP (I.ok.hd hc) d (by lia) u n λp eb=>⟨rfl,I.turned (t':=s.toks) (λb o f e=>eb b o f e) f0 f1 f3 x f5⟩
 self:=λ_ _ _ _ _ d h=>wpAny_pyIter_keyiter ⟨_,d,rfl,rfl⟩ h
def qeC (tl:TE):TI:=λσ H R=>tl σ H λx H1=>∃a o Af,x=.ref a/\H1 a=some (.frz o (.dT Af))/\R (ItT a o Af) H1
theorem qYB {l:Expr}{d:TE}(u:PE X l d):PI X tg l (qeC d):=by
 intro i s σ H R I h;refine thn (u i s σ H _ I h) λv s1 ⟨x,H1,I1,r1,q1⟩=>?_;obtain⟨a,o,n,e,t,q⟩:=q1;subst e;cases r1;obtain⟨c,r,g,m,w,f,j,p⟩:=I1.heldT t;refine qWP ⟨_,c,g⟩ r c f ?_;refine⟨s1.heap.objs.size,[s1.heap.objs.size],_,_,H1,rfl,I1.kept (t':=s1.toks) λb o e=>A6 _ e,qSK a _ o n w m f,by rw[j];exact B5 _ rfl,λb k=>?_,q⟩
 have e:b=s1.heap.objs.size:=by simpa using k
 subst e;exact I1.fpOk (A7 _) (I1.hok.fresh (A7 _))
end
theorem qYW {a:Addr}{o:Obj}{Af:List (List Key×V)}{g:TG}{h:TT}{f:TE}{Kf:Hp->Prop}{σ0:St}{H0:Hp}{p:Addr}(Pv:Nat->St->Hp->Prop)(u:Pv 0 σ0 H0)(s:∀i σ H,i<=Af.length->Pv i σ H->H a=some (.frz o (.dT Af)))
  (w:∀i k v r σ H,Af[i]?=some (k,v)->H r=some (.tup (k.map kV))->Pv i σ H->g (.ref r) σ H λσ2 H2=>h σ2 H2 λb H3=>if b=true then f σ2 H3 λy H4=>∃ys,H4 p=some (.lst ys)/\ys.length<B14/\Pv (i+1) σ2 (Ag H4 p (.lst (ys++[y]))) else Pv (i+1) σ2 H3)
  (t:∀σ H,Pv Af.length σ H->Kf H):
  LcG (ItT a o Af) g h f Kf σ0 H0 p:=by
 refine⟨λi m σ H=>m=Af.length-i/\i<=Af.length/\Pv i σ H,⟨Af.length,by simp,D9 _,u⟩,?_⟩
 rintro i m σ H ⟨rfl,hi,q⟩;have d:=s i σ H hi q;by_cases c:i<Af.length
 ·refine .inr ⟨⟨c,d⟩,Pv (i+1),λσ' l z=>⟨Af.length-(i+1),by lia,rfl,c,z⟩,λx l y=>?_⟩
  obtain⟨e,k,v,r,n,j,e4⟩:=y;subst e j;exact w i k v r σ _ n e4 q
 ·have e:i=Af.length:=by lia
  subst e;exact .inl ⟨⟨A7 _,d⟩,t σ H q⟩
section
variable{X:Cx}{k v:Expr}{tk tv:TE}{pos:Pos}
def qb7 (tk tv:TE):TE:=λσ H Q=>∀p,H p=none->tk σ (Ag H p (.dT [])) λx H1=>tv σ H1 λy H2=>H2 p=some (.dT [])/\∃b ks,x=.ref b/\H2 b=some (.tup (ks.map kV))/\Q (.ref p) (Ag H2 p (.dT [(ks,y)]))
theorem qUO (hu:X.A.units+1<cLine)(hk:PE X k tk)(hv:PE X v tv):PE X (.Dict [some k] [v] pos) (qb7 tk tv):=by
 intro h s σ H Q I q;have t:=I.hok.fresh (A7 s.heap.objs.size);have n:=I.laid (a:=s.heap.objs.size) (o:=.dT []) (h':=s.heap.push {cls:=.type "dict",data:=.dict #[]}) (t':=s.toks) (λ_ _ q=>A6 _ q) (A7 _) (qZQ s.heap I.big);rw[arm_eval_Dict,zip_pairTrees [some k] [v] X.env pos rfl rfl,dictDisplay_pairs _ (by intro z;cases z) (by show 1<17;decide)]
 apply B12;apply B69;apply B12;unfold subDict;apply B12;refine wpAny_alloc ?_;apply B12;apply B20;rw[if_pos (show(pairTrees [some k] [v] X.env pos).length<=15 by show 1<=15;decide)]
 apply B12;refine pairTrees_cons_walk (thn (hk h _ σ _ _ n (q _ t)) λu s1 ⟨x,H1,I2,rx,q1⟩=>thn (hv h _ σ _ _ I2 q1) λr s2 ⟨y,H2,I3,ry,e,b,ks,ex,eb,q2⟩=>pairTrees_nil_walk ?_);subst ex;obtain rfl:u=E2 b:=rx;apply B20;obtain⟨z,p,xs,d,dd⟩:=qeI I3.hok e;have hz:xs.length<=B14:=by rw[<- B6 d];exact z
 apply B12;simp only[A05,A85];apply B12;apply B12;refine wpAny_dictSet_heap (knd:=B85 (qB0 X.prog X.w)) (hsz:=hz) ?_ (qL7 I3.hok eb) dd λh' f hs=>?_
 ·exact Nat.lt_of_succ_lt hu
 apply B13;apply B13;apply B13;apply B13;apply B13;refine⟨.ref s.heap.objs.size,_,?_,rfl,q2⟩;obtain⟨g,es,ep,j,l,m,h4,_,h5⟩:=f;refine qHZ I3 (by rw[e];exact R8) hs ⟨g,j⟩ ⟨F2 (show 1<=2 by decide) (by decide),p,_,(d.put ks eb ry).keeps λc ys i=>?_,g,es,ep,j,l,m,h4,h5⟩
 rw[qA8 (qCC i e (λz=>nomatch z))];exact i
end
noncomputable def kOf:Stmt->Expr
 |.Assign _ (.Dict [some k] _ _) _=>k
 |_=>.Name "" ⟨0,0,0,0⟩
noncomputable def vOf:Stmt->Expr
 |.Assign _ (.Dict _ [v] _) _=>v
 |_=>.Name "" ⟨0,0,0,0⟩
theorem qbO {X:Cx}{e:Expr}(h:∃n p,e=.Tuple [] n p):PE X e (tTup tNil):=by
 obtain⟨n,p,rfl⟩:=h;exact qB7 qA3
theorem qUN {X:Cx}{e:Expr}(h:∃a1 a2 b1 b2 c1 c2 n p,e=.Tuple [.Constant (.int 0) a1 a2,.Constant .none b1 b2,.Constant .none c1 c2] n p):PE X e (tTup (qN4 (tC (.int 0)) (qN4 (tC .non) (qN4 (tC .non) tNil)))):=by
 obtain⟨_,_,_,_,_,_,n,p,rfl⟩:=h;exact qB7 (qA0 qA7 (qA0 qGR (qA0 qGR qA3)))
theorem qXF {p:Pos}{a b:Int}{c d:Value}:∀{l:List Value},TriplesOk l->codeAmong p (l++[rawInt a,rawInt b,c])=some d->codeAmong p l=some d\/d=c:=by
 intro l h e
 fun_induction TriplesOk l with
 |case1=>
  simp only[A03,rawInt,codeAmong] at e
  split at e
  ·exact .inr (D0 e).symm
  ·cases e
 |case2 a' t b' u x rest ih=>
  simp only[A66,codeAmong] at e ⊢
  split at e
  ·rename_i hc
   rw[if_pos hc];exact .inl e
  ·rename_i hc
   rw[if_neg hc];exact ih h e
 |case3 l h1 h2=>exact h.elim
def BM (mg:Str->Option Value) (h:Heap):Prop:=∃bm ob,mg "__builtins__" = some (.ref bm)/\bm≠B88/\h.get? bm=some ob/\ob.cls=.type "module"/\ob.dict=some B88/\ob.data=.plain
section
variable{X:Cx}{Ab:List (Addr×Obj)}{σ:St}{H:Hp}{s:Shared}
noncomputable abbrev lamO (X:Cx)(q:Str)(params:B40)(body:Expr)(scope:Scope)(cc:Addr)(ctv:Value):Obj:=
 {cls:=.type "function",data:=.func (Q5 "<lambda>" q params body scope (qH8 X.env scope.names []) ((X.mg "__name__").getD .none) (.ref cc) ctv)}
theorem qeG {a:B40}{body:Expr}{d:Scope}{pos:Pos}{c P:Addr}{q:Str}{Q:Value->Shared->Prop}{E:Value->Shared->Prop}
  (I:Inv X Ab σ H s) (hb:BM X.mg X.base) (i:X.env.code=.ref c) (C:PySem.W.CodeHd X.base c P) (hP:H P=some (.tbl (.tab q))) (hq:X.env.qual ++ "<lambda>" = q)
  (a7:∀x,(x,J7)∈d.names->∃c,X.env.cells.lookup x=some c) (a3:defaultsOf a X.env=([],[]))
  (h:∀ (f cc:Addr) (ctv:Value) (s':Shared) (H':Hp),Inv X Ab σ H' s'->(∀ b o,H b=some o->H' b=some o)->H' cc=some (.tbl (.cod q))->
   s'.heap.get? f=some (lamO X q a body d cc ctv)->s.heap.objs.size<=f->H' f=none->Q (.ref f) s'):
  wpAny (model X.prog X.w) X.A (eval (.Lambda a body d pos) X.env) Q E s:=by
 obtain⟨a0,a9,tr,a2⟩:=(show ObjOk X.prog X.w H s.heap P (.tbl (.tab q)) from I.hok P _ hP);have hg:s.heap.Ns B24 X.mg:=I.ok.mod.glob.keeps I.bk;have nP:∀b o,X.base.get? b=some o->b≠P:=λb o e z=>by
  have:=(I.bs b o e).2;rw[z,hP] at this;cases this
 have ad:B24≠P:=by
  obtain⟨o,es,ep,e,_⟩:=I.ok.mod.glob;exact nP _ _ e
 have a8:s.heap.BuiltinsAt X.mg P:=by
  obtain⟨bm,ob,b1,b2,b3,b4,b5,b6⟩:=hb;refine⟨bm,ob,b1,b2,?_,nP _ _ b3,I.bk _ _ b3,b4,b5,b6⟩;rintro rfl;obtain⟨o,es,ep,e,hd,_⟩:=I.ok.mod.glob;rw[e] at b3;cases b3;rw[hd] at b6;cases b6
 refine PySem.W.kla_eval a3 ?_;rw[hq];cases hca:codeAmong pos a0.toList with
 |some cv=>
  obtain⟨cc,rfl,ae⟩:=a2 pos cv hca;refine PySem.W.kla_makeFunctionHit (qI0 a7) I.ok.glob hg i (C.keeps I.bk) a9 tr hca a8 λctv h' tk hk a1=>?_;exact h h'.objs.size cc ctv _ H (I.kept (t':=tk) λb u e=>A6 _ (hk b u e)) (λ_ _ z=>z) ae (B5 _ rfl) a1 (I.hok.fresh a1)
 |none=>
  refine PySem.W.kla_makeFunction (qI0 a7) I.ok.glob hg i (C.keeps I.bk) a9 tr hca ad a8 λk ctv h' tk hx aa af a6 a5=>?_;have ac:H k=none:=I.hok.fresh aa;have j:∀b o,H b=some o->(Ag H k (.tbl (.cod q))) b=some o:=λb o e=>by rw[qA8 (qA6 e ac)];exact e
  have l:∀b,H b=none->b≠P:=λb n z=>by rw[z,hP] at n;cases n
  have I':Inv X Ab σ (Ag H k (.tbl (.cod q))) {s with heap:=h'.push (lamO X q a body d k ctv),toks:=tk}:=by
   refine I.step (g':=s.gens) (d':=s.drawn) (ch:=[]) (λ_ z=>nomatch z) (λb o _ _ _ e n=>A6 _ (hx b o (l b n) e)) (λb o _ _ _ e n=>⟨o.slots,A6 _ (hx b o (l b n) e)⟩)
    (λb o _ e n=>by rw[qA8 (D1 (E4 (C0 e) aa))];exact n) (λb o _ e=>?_) (λb xs e=>j _ _ e) (λb o u e=>j _ _ e) (λb t e=>j _ _ e) (λm hm=>(hm.extBut hx (l _ I.free)).push _) (λb u e=>?_) I.bare
   ·by_cases g:b=P
    ·exact⟨_,A6 _ (g▸a5)⟩
    ·exact⟨o,A6 _ (hx b o g e)⟩
   ·by_cases a4:b=k
    ·subst a4;rw[qA1] at e;cases e;obtain⟨c₂,oc,vs,t,e2,ab,r⟩:=a6;cases e2;exact⟨b,oc,vs,t,rfl,A6 _ ab,r⟩
    ·rw[qA8 a4] at e;by_cases g:b=P
     ·subst g;rw[hP] at e;cases e;refine⟨_,A6 _ a5,?_,λy cv z=>?_⟩
      ·rw[A34];exact TriplesOk_snoc _ _ _ _ tr
      ·rw[A34] at z;rcases qXF tr z with z|z
       ·obtain⟨p,e1,e2⟩:=a2 y cv z;exact⟨p,e1,j _ _ e2⟩
       ·exact⟨k,z,qA1⟩
     ·refine(I.hok b u e).stay (λp v ag z=>A6 _ (hx p v ?_ z)) (λp z=>j _ _ z) (λp xs z=>j _ _ z) λp t z=>j _ _ z;rcases ag with z|z
      ·rw[z];exact g
      ·intro z2;rw[z2,hP] at z;cases z
  exact h h'.objs.size k ctv _ _ I' j qA1 (B5 _ rfl) (by lia) (by rw[qA8 (R7 af)];exact I.hok.fresh (by lia))
structure LmScope (X:Cx)(scope:Scope)(p:Str)(fv:List Nat):Prop where
 kind:scope.kind=.function
 co:scope.isCoroutine=false
 gen:scope.isGenerator=false
 nocell:∀y∈scope.names,y.2≠.cell
 par:scope.names.lookup p=some .local
 free:∀y∈scope.names,y.2=.free->X.env.kindOf y.1=some .cell\/X.env.kindOf y.1=some .free
 fvs:∀i∈fv,i<X.N.length/\scope.names.lookup (X.N.getD i R3)=some .free
structure LmZ where
 A:Around
 f:Addr
 cd:Value
 s₀:Shared
 H₀:Hp
 rm:Room 0 A
noncomputable abbrev lmEnv (X:Cx)(scope:Scope)(q:Str)(z:LmZ):Env:=PySem.W.envX q scope z.s₀.heap.objs.size z.f z.cd (qH8 X.env scope.names [])
noncomputable def lmCx (X:Cx)(scope:Scope)(p:Str)(fv:List Nat)(q:Str)(z:LmZ):Cx where
 prog:=X.prog
 w:=X.w
 K:=X.K
 mg:=X.mg
 base:=X.base
 A:=z.A.deeper (lmEnv X scope q z)
 N:=p::fv.map λi=>X.N.getD i R3
 s₀:=z.s₀
 H₀:=z.H₀
 env:=lmEnv X scope q z
 outer:=X.stack
 stack:=lmEnv X scope q z::X.stack
 ex:=[]
 fn:=λ_=>false
 calm:=true
 pn:=[]
 xe:=noX
theorem LmScope.fr {a:Scope}{p:Str}{fv:List Nat}(S:LmScope X a p fv)(I:Inv X Ab σ H s):∀x,(x,J7)∈a.names->∃c,X.env.cells.lookup x=some c:=λx b=>I.ok.has x (S.free _ b rfl)
theorem qfT {a:Scope}{p:Str}{fv:List Nat}{q:Str}{A:Around}{f:Addr}{cd:Value}(j:Room 0 A)(I:Inv X Ab σ H s)(S:LmScope X a p fv)(n:A.frames=some X.stack):
  (lmCx X a p fv q ⟨A,f,cd,s,H,j⟩).Ok:=by
 have h:=S.fr I;have e:=qFH (env:=X.env) (names:=a.names) (acc:=[]) h (λx c z=>by simp at z)
 have d:∀b:Addr,b∉(lmCx X a p fv q ⟨A,f,cd,s,H,j⟩).ex:=λb z=>absurd (show b∈([]:List Addr) from z) (by simp)
 refine⟨I.ok.mod,S.kind,rfl,rfl,A7 _,λx y c m l=>I.ok.inj x y c (e _ _ m) (e _ _ l),λx g=>?_,λx c g=>(nomatch g),λ_=>j.hd,A16 n,.inr ⟨rfl,rfl⟩,λb z=>absurd z (d b),I.bs,F2 I.ok.bsz I.sz,λb _ _=>d b,λb z=>absurd z (d b),I.stack,I.stkFree⟩;have k:a.names.lookup x=some .cell\/a.names.lookup x=some .free:=g;rcases k with z|z
 ·exact absurd rfl (S.nocell _ (J6 z))
 ·exact qFI (.inl (J6 z))
noncomputable def qGB (fv:List Nat)(σ:St)(x:V):St:=some x::fv.map λi=>(σ[i]?).join
theorem qYT {a:Scope}{p:Str}{fv:List Nat}{q:Str}{A:Around}{f:Addr}{cd:Value}{x:V}{u:Value}{h₁:Heap}{tk:Nat}(rm:Room 0 A)(I:Inv X Ab σ H s)(S:LmScope X a p fv)(hA:A.frames=some X.stack)(hx:RelV x u)
  (a2:h₁.Ns s.heap.objs.size (λy=>[(p,u)].reverse.lookup y)) (r:∀b o,s.heap.get? b=some o->h₁.get? b=some o):
  Inv (lmCx X a p fv q ⟨A,f,cd,s,H,rm⟩) [] (qGB fv σ x) H {s with heap:=h₁,toks:=tk}:=by
 have a0:=S.fr I;have k:=qFH (env:=X.env) (names:=a.names) (acc:=[]) a0 (λx c z=>by simp at z)
 refine⟨qfT rm I S hA,rfl,I.bare,Un.kept r,⟨_,a2,λi y v d g h3=>?_⟩,λy c e=>?_,I.hok.fresh (A7 _),λy c e=>I.freeC y c (k _ _ e),λp hp=>absurd (show p∈([]:List (Addr×Obj)) from hp) (by simp),I.hok.kept r,?_⟩
 ·have d:(p::fv.map λi=>X.N.getD i R3)[i]?=some y:=d;unfold qGB at g;cases i with
  |zero=>
   cases d;cases g;refine⟨u,hx,.inl ⟨S.par,?_⟩⟩;simp
  |succ i=>
   rw[u8,C1] at d g;cases e:fv[i]? with
   |none=>rw[e] at d;cases d
   |some j=>
    rw[e] at d g;have hj:=S.fvs j (B1 e);have d:X.N.getD j R3=y:=D0 d;have g:(σ[j]?).join=some v:=D0 g;have t:σ[j]?=some (some v):=by
     cases q:σ[j]? with
     |none=>rw[q] at g;cases g
     |some y=>rw[q] at g;exact congrArg some g
    have a1:X.N[j]?=some y:=by
     rw[P9] at d;rw[A4 hj.1] at d ⊢;exact congrArg some d
    have n:a.names.lookup y=some .free:=d ▸ hj.2;have h:=J6 n;obtain ⟨m,hn,hl⟩:=id I.loc;have l:=S.free _ h rfl;obtain ⟨u,ru,lk⟩:=hl j y v a1 t (by
     rcases l with z|z
     ·exact .inr (.inl z)
     ·exact .inr (.inr z))
    refine⟨u,ru,?_⟩;rcases lk with⟨z,_⟩|⟨_,c,e1,z⟩
    ·rcases l with y'|y'
     ·have y':X.env.kindOf y=some .cell:=y';rw[z] at y';cases y'
     ·have y':X.env.kindOf y=some .free:=y';rw[z] at y';cases y'
    ·obtain⟨c',e2⟩:=qFI (env:=X.env) (names:=a.names) (acc:=[]) (x:=y) (.inl h);have e3:=k _ _ e2;rw[e1] at e3;cases e3;obtain⟨o,w,hd⟩:=z;exact .inr ⟨.inr n,c,e2,o,r _ _ w,hd⟩
 ·obtain⟨v,o,w,hd⟩:=I.cell y c (k _ _ e);exact⟨v,o,r _ _ w,hd⟩
 ·unfold qGB;show _=(p::fv.map λi=>X.N.getD i R3).length;simp
theorem qRU {c:B40}{body:Expr}{a:Scope}{p:Str}{fv:List Nat}{q:Str}{A:Around}{f g:Addr}{m u:Value}{x:V}{te:TE}{Q:VK}(t:Room 0 A)(I:Inv X Ab σ H s)(S:LmScope X a p fv)(hA:A.frames=some X.stack)
  (hf:s.heap.get? f=some (lamO X q c body a g m)) (l:H g=some (.tbl (.cod q))) (hx:RelV x u)
  (d:∀(cl:List (Str×Addr)) (pm cd ct u:Value),B50 (Q5 "<lambda>" q c body a cl pm cd ct) ⟨[u],[]⟩=pure [(p,u)])
  (he:∀z,PE (lmCx X a p fv q z) body te) (h:te (qGB fv σ x) H Q):
  B47 (model X.prog X.w) A (.call (.ref f) ⟨[u],[]⟩) (λr s'=>∃v y H',r=.ok (.ret v)/\Inv X Ab σ H' s'/\RelV y v/\Q y H'/\Un (frs X.stack) [] H H' s.heap s'.heap) s:=by
 have j:s.heap.CodeRec (.ref g) q:=(show ObjOk X.prog X.w H s.heap g (.tbl (.cod q)) from I.hok g _ l);refine PySem.W.kla_callFunE t.depth hf rfl S.co S.gen rfl j ?_;rw[d];refine B13 (wpAny_newFunctionEnv S.nocell (λy hy=>?_) (λh₁ n i=>⟨I.nolimit.fresh _ i,?_⟩) S.kind)
 ·rw[A5.mp hy];exact S.par
 have k:∀b o,s.heap.get? b=some o->h₁.get? b=some o:=λb o e=>i.extBut b o (D1 (C0 e)) (A6 _ e);refine PySem.W.kla_codeExpr ?_;have J:=qYT (q:=q) (f:=f) (cd:=.ref g) (tk:=s.toks+[(p,u)].length) t I S hA hx n k;refine B23 ((he ⟨A,f,.ref g,s,H,t⟩) [] _ _ H Q J h) (λv s' ⟨y,H',J',ry,qy⟩=>?_) λ_ _ z=>z.elim;exact⟨v,y,H',rfl,I.call' (ch:=[]) J'.os J'.base J'.hok J'.bare (λb hb=>absurd hb (by simp)),ry,qy,J'.base⟩
end
abbrev Sm0 (H H':Hp):Prop:=∀b o,H b=some o->H' b=some o
noncomputable def LamF (X:Cx)(q:Str)(params:B40)(body:Expr)(scope:Scope)(cc:Addr)(ctv:Value)(f:Addr):HO:=.ext λh=>h.get? f=some (lamO X q params body scope cc ctv)
def tLam (X:Cx)(P:Addr)(q:Str)(params:B40)(body:Expr)(scope:Scope):TE:=λσ H Q=>H P=some (.tbl (.tab q))/\
 ∀f cc ctv H',Sm0 H H'->H f=none->H' f=some (LamF X q params body scope cc ctv f)->H' cc=some (.tbl (.cod q))->Q (.ref f) H'
theorem qaC {a:B40} {body:Expr} {d:Scope} {pos:Pos} {c P:Addr} {q:Str} {p:Str} {fv:List Nat} (hb:BM X.mg X.base) (i:X.env.code=.ref c) (C:PySem.W.CodeHd X.base c P) (hq:X.env.qual ++ "<lambda>" = q)
  (S:LmScope X d p fv) (m:defaultsOf a X.env=([],[])):PE X (.Lambda a body d pos) (tLam X P q a body d):=by
 intro Ab s σ H Q I ⟨hP,h⟩;refine qeG I hb i C hP hq (S.fr I) m λf u n s' H' I' sm l y g w=>?_;have j:H f=none:=I.hok.fresh g;have t:u≠f:=qA6 l w
 -- f is tracked from now on
 have hF:X.s₀.heap.objs.size<=f:=F2 I.sz g;have I2:Inv X Ab σ (Ag H' f (LamF X q a body d u n f)) s':=by
  refine I'.track w hF (R7 (E4 I.lt g)) (λx c e z=>?_) (λp hp z=>?_) ⟨y,⟨_,y⟩,λh1 h2 x k=>k _ x⟩
  ·obtain⟨v,hc⟩:=I.cell x c e;exact absurd (E4 hc.lt (by rw[z];exact g)) (Q1 _)
  ·exact absurd (E4 (C0 (I.pin p hp).1) (by rw[z];exact g)) (Q1 _)
 refine⟨.ref f,_,I2,rfl,h f u n _ (λb o e=>?_) j qA1 (by rw[qA8 t];exact l)⟩
 rw[qA8 (qA6 e j)];exact sm b o e
noncomputable def qEW {α:Type}:α×List Int->List (α×List Int)->α
 |b,[]=>b.1
 |b,x::r=>if HT.lexLt x.2 b.2=true then qEW x r else qEW b r
structure KCmp (X:Cx)(KR:Hp->V->List Int->Prop):Prop where
 mono:∀H H' y k,Sm0 H H'->KR H y k->KR H' y k
 cmp:∀(Ab:List (Addr×Obj)) (σ:St) (s:Shared) (H:Hp) (y y':V) (u u':Value) (k k':List Int) (Q:Value->Shared->Prop) (E:Value->Shared->Prop),Inv X Ab σ H s->RelV y u->RelV y' u'->KR H y k->KR H y' k'->Q (.bool (HT.lexLt k k')) s->
  wpAny (model X.prog X.w) X.A.in1 (richCompare .Lt u u') Q E s
theorem Inv.fpStk {Ab:List (Addr×Obj)}{σ:St}{H:Hp}{s:Shared}{b:Addr}(I:Inv X Ab σ H s)(f:FpOk X Ab H b):b∉frs X.stack:=λz=>by
 rcases B7.mp (I.stkSub b z) with e|e
 ·exact f.2.1 e
 ·exact f.2.2.1 e
theorem FpOk.to {Ab:List (Addr×Obj)}{H H':Hp}{b:Addr}(f:FpOk X Ab H b)(h:H' b=none):FpOk X Ab H' b:=⟨h,f.2⟩
structure KeyAt (X:Cx)(σ:St)(fv:List Nat)(te:TE)(KR:Hp->V->List Int->Prop)(H0:Hp)(xs:List V)(ks:List (List Int)):Prop where
 len:ks.length=xs.length
 key:∀(i:Nat) (x:V) (k:List Int),xs[i]?=some x->ks[i]?=some k->∀Hc,Sm0 H0 Hc->te (qGB fv σ x) Hc λy H'=>Sm0 Hc H'/\KR H' y k
section
variable{Ab:List (Addr×Obj)}{σ:St}{params:B40}{body:Expr}{scope:Scope}{p:Str}{fv:List Nat}{q:Str}{te:TE}{KR:Hp->V->List Int->Prop}{l f cc:Addr}{ctv:Value}{H0:Hp}{xs:List V}{ks:List (List Int)}{Q:VK}
theorem qVW {s:Shared} {H:Hp} {b S:Addr} {i:Nat} {x:V} {k:List Int} {u:Value} (rm:Room 1 X.A) (hA:X.A.in1.frames=some X.stack) (S':LmScope X scope p fv) (a:∀(cl:List (Str×Addr)) (pm cd ct u:Value),B50 (Q5 "<lambda>" q params body scope cl pm cd ct) ⟨[u],[]⟩=pure [(p,u)])
  (t:∀z,PE (lmCx X scope p fv q z) body te) (KA:KeyAt X σ fv te KR H0 xs ks) (hf:H0 f=some (LamF X q params body scope cc ctv f)) (m:H0 cc=some (.tbl (.cod q)))
  (I:Inv X Ab σ H s) (l:Sm0 H0 H) (hx:xs[i]?=some x) (hk:ks[i]?=some k) (rx:RelV x u) (j:FpOk X Ab H b) (c:FpOk X Ab H S) {d g:Obj} (n:s.heap.get? b=some d) (o:s.heap.get? S=some g) {Q':Value->Shared->Prop} {E:Value->Shared->Prop}
  (h:∀v y H' s',Inv X Ab σ H' s'->Sm0 H H'->RelV y v->KR H' y k->FpOk X Ab H' b->FpOk X Ab H' S->s'.heap.get? b=some d->s'.heap.get? S=some g->Q' v s'):wpAny (model X.prog X.w) X.A.in1 (call (.ref f) [u]) Q' E s:=by
 have gf:s.heap.get? f=some (lamO X q params body scope cc ctv):=(show ObjOk X.prog X.w H s.heap f (LamF X q params body scope cc ctv f) from I.hok f _ (l _ _ hf)).1;refine B90 (B43 (qRU rm.in1 I S' hA gf (l _ _ m) rx a t (KA.key i x k hx hk H l)) λr s' ⟨v,y,H',e,I',ry,⟨sm',kr⟩,un⟩=>?_);subst e;exact h v y H' s' I' sm' ry kr (j.to (un.free b d n j.1 (by simp))) (c.to (un.free S g o c.1 (by simp))) (un.keep b d n j.1 (I.fpStk j) (by simp)) (un.keep S g o c.1 (I.fpStk c) (by simp))
theorem qT2 {it S:Addr} {kw:List (Str×Value)} (hc:X.calm=true) (rm:Room 1 X.A) (hA:X.A.in1.frames=some X.stack) (S':LmScope X scope p fv) (t:∀(cl:List (Str×Addr)) (pm cd ct u:Value),B50 (Q5 "<lambda>" q params body scope cl pm cd ct) ⟨[u],[]⟩=pure [(p,u)])
  (he:∀z,PE (lmCx X scope p fv q z) body te) (KC:KCmp X KR) (KA:KeyAt X σ fv te KR H0 xs ks) (hf:H0 f=some (LamF X q params body scope cc ctv f)) (ad:H0 cc=some (.tbl (.cod q))) (hl:SqL X.K H0 l xs) (a4:it≠S)
  (i:∀H',Sm0 H0 H'->SqL X.K H' l xs):
  ∀(k j:Nat) (s:Shared) (H:Hp) (bx y:V) (bk:List Int) (bu bv:Value) (c:Nat),xs.length-j=k->j<=xs.length->Inv X Ab σ H s->Sm0 H0 H->FpOk X Ab H it->FpOk X Ab H S->s.heap.IsListIter it l j->
   s.heap.get? S=some {cls:=.type "list",dict:=none,data:=.seq #[bu,bv] c,slots:=#[]}->RelV bx bu->RelV y bv->KR H y bk->(∀H',Sm0 H0 H'->Q (qEW (bx,bk) ((xs.zip ks).drop j)) H')->
   B47 (model X.prog X.w) X.A (.builtin "min.loop" ⟨[.ref it,.ref f,.ref S],kw⟩) (λr s'=>∃v,r=.ok (.ret v)/\EP X Ab σ Q v s') s:=by
 have h:(toString "min" ++ toString ".loop" : String) = "min.loop":=by decide
 intro k
 induction k with
 |zero=>
  intro j s H bx y bk bu bv c hk hj I sm g fS a3 hS rb ry kb n;obtain⟨ah,rv,pl,hz⟩:=I.list (i H sm);have ai:=rv.length;refine B26 Z8 ?_;rw[F1 O1 _];show wpAny _ X.A.in1 (seqItems? (.ref S) >>= _) _ _ s;refine B12 (B42 hS rfl ?_);show wpAny _ X.A.in1 (tryCatch (pyNext (.ref it)) _ >>= _) _ _ s;refine B12 (B32 (B86 (rm.in1.hd) a3 pl.isList (by simp;lia) λh' eb=>?_))
  have I1:Inv X Ab σ H {s with heap:=h'}:=I.turned (t':=s.toks) (λb o m e=>eb b o m e) g.1 g.2.1 g.2.2.2.1 g.2.2.2.2.1 g.2.2.2.2.2;have ag:=eb S _ (G4 a4) hS;show wpAny _ X.A.in1 (updateSeq S (λ_=>#[]) >>= _) _ _ _;refine B12 (B59 ag rfl (B12 (B52 (B13 ?_))));have I2:Inv X Ab σ H {s with heap:=h'.update S (G0 λ_=>(#[]:Array Value))}:=I1.turned (t':=s.toks) (λb o m e=>(C9 _ _ (G4 m)).trans e) fS.1 fS.2.1 fS.2.2.2.1 fS.2.2.2.2.1 fS.2.2.2.2.2;have hq:=n H sm;rw[Z7 (by rw[k9,KA.len];lia)] at hq
  exact⟨_,rfl,bx,H,I2,rb,hq⟩
 |succ k ih=>
  intro j s H bx y bk bu bv c hk hj I sm g fS a3 hS rb ry kb n;have d:j<xs.length:=by lia
  obtain⟨ah,rv,pl,hz⟩:=I.list (i H sm);have a2:=A4 d;have a8:=A4 (show j<ks.length by rw[KA.len];exact d)
  have ez:(xs.zip ks).drop j=(xs[j],ks[j]'(by rw[KA.len];exact d))::(xs.zip ks).drop (j+1):=by
   rw[Q4 (by rw[k9,KA.len];lia),List.getElem_zip]
  rw[ez] at n;generalize xs[j]=x at a2 n;generalize ks[j]'(by rw[KA.len];exact d)=kx at a8 n
  obtain⟨u,hu,ru⟩:=rv.get a2;refine B26 Z8 ?_;rw[F1 O1 _];show wpAny _ X.A.in1 (seqItems? (.ref S) >>= _) _ _ s;refine B12 (B42 hS rfl ?_);show wpAny _ X.A.in1 (tryCatch (pyNext (.ref it)) _ >>= _) _ _ s;refine B12 (B32 (B81 a3 pl.isList (x:=u) (by simpa using hu) λh' ac sb=>?_))
  have I1:Inv X Ab σ H {s with heap:=h'}:=I.turned (t':=s.toks) (λb o m e=>(sb.2 b m).trans e) g.1 g.2.1 g.2.2.2.1 g.2.2.2.2.1 g.2.2.2.2.2;have af:=(sb.2 S (G4 a4)).trans hS;obtain⟨oi,ae,a6,aa⟩:=id ac;show wpAny _ X.A.in1 (tryCatch (B46 [u] (call (.ref f) [u])) _ >>= _) _ _ _;refine B12 (B32 (B20 (qVW rm hA S' t he KA hf ad I1 sm a2 a8 ru g fS ae af λv y2 H2 s2 I2 a0 r2 k2 a5 a a9 a1=>?_)));have ab:s2.heap.IsListIter it l (j+1):=⟨oi,a9,a6,aa⟩;show wpAny _ X.A.in1 (tryCatch (B46 [u,v] (richCompare .Lt v bv >>= _)) _ >>= _) _ _ _;refine B12 (B32 (B20 (B12 (KC.cmp Ab σ s2 H2 y2 y v bv kx bk _ _ I2 r2 ry k2 (KC.mono _ _ _ _ a0 kb) ?_))));refine B12 (B20 (B29 (B12 (B52 (B13 ?_)))));have a7:Sm0 H0 H2:=λb o e=>a0 b o (sm b o e);cases m:HT.lexLt kx bk with
  |true=>
   rw[if_pos rfl];have et:qEW (bx,bk) ((x,kx)::(xs.zip ks).drop (j+1))=qEW (x,kx) ((xs.zip ks).drop (j+1)):=by show(if HT.lexLt kx bk=true then _ else _)=_;rw[m];rfl
   rw[et] at n;refine B12 (B59 a1 rfl (B12 (B52 ?_)));rw[h];have I3:Inv X Ab σ H2 {s2 with heap:=s2.heap.update S (G0 λ_=>#[u,v])}:=I2.turned (t':=s2.toks) (λb o m e=>(C9 _ _ (G4 m)).trans e) a.1 a.2.1 a.2.2.2.1 a.2.2.2.2.1 a.2.2.2.2.2;exact B13 ⟨B31 O1 _,ih (j+1) _ H2 x y2 kx u v _ (by lia) d I3 a7 a5 a ⟨oi,(C9 _ _ (G4 a4)).trans a9,a6,aa⟩ (G5 _ a1 rfl) ru r2 k2 n⟩
  |false=>
   rw[if_neg C2];have et:qEW (bx,bk) ((x,kx)::(xs.zip ks).drop (j+1))=qEW (bx,bk) ((xs.zip ks).drop (j+1)):=by show(if HT.lexLt kx bk=true then _ else _)=_;rw[m];rfl
   rw[et] at n;refine B12 (B52 ?_);rw[h];exact B13 ⟨B31 O1 _,ih (j+1) s2 H2 bx y bk bu bv c (by lia) d I2 a7 a5 a ab a1 rb ry (KC.mono _ _ _ _ a0 kb) n⟩
noncomputable def qdQ (dv:Option V):List (V×List Int)->Option V
 |[]=>dv
 |b::r=>some (qEW b r)
theorem qPT {s:Shared} {H:Hp} {kw:List (Str×Value)} (hc:X.calm=true) (rm:Room 1 X.A) (hA:X.A.in1.frames=some X.stack) (S':LmScope X scope p fv) (g:∀(cl:List (Str×Addr)) (pm cd ct u:Value),B50 (Q5 "<lambda>" q params body scope cl pm cd ct) ⟨[u],[]⟩=pure [(p,u)])
  (he:∀z,PE (lmCx X scope p fv q z) body te) (KC:KCmp X KR) (KA:KeyAt X σ fv te KR H xs ks) (hf:H f=some (LamF X q params body scope cc ctv f)) (a1:H cc=some (.tbl (.cod q))) (hl:SqL X.K H l xs)
  (a0:∀H',Sm0 H H'->SqL X.K H' l xs) (I:Inv X Ab σ H s)
  (ok:argsOk "min" ⟨[.ref l],kw⟩) (df:Option Value) (t:T5 "min" ["key","default"] 0 ⟨[],kw⟩=pure [some (.ref f),df]) (dv:Option V) (aa:df=none/\dv=none\/∃d u,df=some u/\dv=some d/\RelV d u)
  (m:V) (em:qdQ dv (xs.zip ks)=some m) (hQ:∀H',Sm0 H H'->Q m H'):wpAny (model X.prog X.w) X.A (call (.builtin "min") [.ref l] kw) (EP X Ab σ Q) X.xe s:=by
 obtain⟨ae,rv,pl,hz⟩:=I.list hl;have y:=pl.isList;have ad:l<s.heap.objs.size:=by obtain⟨_,e,_⟩:=y;exact C0 e
 have j:(toString "min" ++ toString ".loop" : String) = "min.loop":=by decide
 refine qIB PySem.F.kind_min PySem.F.plain_min PySem.F.entry_min ok ?_;show wpAny _ _ (T5 "min" ["key","default"] 0 ⟨[],kw⟩ >>= _) _ _ s;refine B12 (B51 t ?_);refine B12 (B13 ?_);refine B12 (B34 y ?_);refine B12 (B25 ?_);rw[j];refine B13 ⟨_,rfl,B31 O1 _,?_⟩;have hS:(s.heap.push {cls:=.type "list_iterator",data:=.fields #[.ref l,.int 0 0]}).objs.size=s.heap.objs.size+1:=P1 ..;have I0:Inv X Ab σ H {s with heap:=(s.heap.push {cls:=.type "list_iterator",data:=.fields #[.ref l,.int 0 0]}).push {cls:=.type "list",data:=.seq #[]}}:=I.kept (t':=s.toks) λb o e=>A6 _ (A6 _ e);have c:FpOk X Ab H s.heap.objs.size:=I.fpOk (A7 _) (I.hok.fresh (A7 _));have fS:FpOk X Ab H (s.heap.push {cls:=.type "list_iterator",data:=.fields #[.ref l,.int 0 0]}).objs.size:=by rw[hS];exact I.fpOk (W2 _) (I.hok.fresh (W2 _))
 have n:s.heap.objs.size≠(s.heap.push {cls:=.type "list_iterator",data:=.fields #[.ref l,.int 0 0]}).objs.size:=by rw[hS];exact(d6 _).symm
 have gi:((s.heap.push {cls:=.type "list_iterator",data:=.fields #[.ref l,.int 0 0]}).push {cls:=.type "list",data:=.seq #[]}).get? s.heap.objs.size=some {cls:=.type "list_iterator",data:=.fields #[.ref l,.int 0 0]}:=A6 _ (B5 _ rfl);have gS:((s.heap.push {cls:=.type "list_iterator",data:=.fields #[.ref l,.int 0 0]}).push {cls:=.type "list",data:=.seq #[]}).get? (s.heap.push {cls:=.type "list_iterator",data:=.fields #[.ref l,.int 0 0]}).objs.size=some {cls:=.type "list",data:=.seq #[]}:=B5 _ rfl;have h:=(y.push {cls:=.type "list_iterator",data:=.fields #[.ref l,.int 0 0]}).push {cls:=.type "list",data:=.seq #[]};generalize (s.heap.push {cls:=.type "list_iterator",data:=.fields #[.ref l,.int 0 0]}).push {cls:=.type "list",data:=.seq #[]}=h0 at I0 gi gS h;generalize (s.heap.push {cls:=.type "list_iterator",data:=.fields #[.ref l,.int 0 0]}).objs.size=S at fS n gS ⊢;generalize s.heap.objs.size=it at c n gi ⊢;refine B26 Z8 ?_;rw[F1 O1 _];show wpAny _ X.A.in1 (seqItems? (.ref S) >>= _) _ _ _;refine B12 (B42 gS rfl ?_);show wpAny _ X.A.in1 (tryCatch (pyNext (.ref it)) _ >>= _) _ _ _;have a3:h0.IsListIter it l 0:=⟨_,gi,rfl,rfl⟩;cases xs with
 |nil=>
  have ek:ks=[]:=M7.mp KA.len;subst ek;have r:dv=some m:=em;cases rv;refine B12 (B32 (B86 (s:={s with heap:=h0}) (rm.in1.hd) a3 h (by simp) λh' eb=>?_))
  rcases aa with⟨_,e2⟩|⟨d,u,rfl,e3,rd⟩
  ·rw[e2] at r;cases r
  ·rw[e3] at r;cases r;show wpAny _ X.A.in1 (rule _ >>= λ_=>ret u) _ _ _;have I1:Inv X Ab σ H {s with heap:=h'}:=I0.turned (t':=s.toks) (λb o t e=>eb b o t e) c.1 c.2.1 c.2.2.2.1 c.2.2.2.2.1 c.2.2.2.2.2;exact B12 (B58 (B13 ⟨u,rfl,_,H,I1,rd,hQ H λ_ _ z=>z⟩))
 |cons x xs=>
  cases ks with
  |nil=>have:=KA.len;simp at this
  |cons k ks=>
   cases em;obtain⟨u,hu,ru⟩:=rv.get (i:=0) rfl;refine B12 (B32 (B81 (s:={s with heap:=h0}) a3 h (x:=u) (by simpa using hu) λh' a6 sb=>?_))
   have I1:Inv X Ab σ H {s with heap:=h'}:=I0.turned (t':=s.toks) (λb o t e=>(sb.2 b t).trans e) c.1 c.2.1 c.2.2.2.1 c.2.2.2.2.1 c.2.2.2.2.2;have a9:=(sb.2 S (G4 n)).trans gS;obtain⟨oi,a7,a5,ac⟩:=id a6;show wpAny _ X.A.in1 (tryCatch (B46 [u] (call (.ref f) [u])) _ >>= _) _ _ _;refine B12 (B32 (B20 (qVW rm hA S' g he KA hf a1 I1 (λ_ _ z=>z) (i:=0) rfl rfl ru c fS a7 a9 λv y2 H2 s2 I2 a8 r2 k2 a4 a ab a2=>?_)));show wpAny _ X.A.in1 (updateSeq S (λ_=>#[u,v]) >>= _) _ _ _;refine B12 (B59 a2 rfl ?_);rw[j];have I3:Inv X Ab σ H2 {s2 with heap:=s2.heap.update S (G0 λ_=>#[u,v])}:=I2.turned (t':=s2.toks) (λb o t e=>(C9 _ _ (G4 t)).trans e) a.1 a.2.1 a.2.2.2.1 a.2.2.2.2.1 a.2.2.2.2.2;exact B13 ⟨B31 O1 _,qT2 hc rm hA S' g he KC KA hf a1 hl n a0 _ 1 _ H2 x y2 k u v _ rfl (by simp) I3 a8 a4 a ⟨oi,(C9 _ _ (G4 n)).trans ab,a5,ac⟩ (G5 _ a2 rfl) ru r2 k2 hQ⟩
end
def KR1 (H:Hp)(y:V)(k:List Int):Prop:=∃r,y=.ref r/\H r=some (.tup (k.map V.int))
noncomputable def hdIn (K:PySem.W.Frag)(c P:Addr):Bool:=match K.lookup c with
 |some ⟨.type n,_,.fields vs,_⟩=>decide (n = "code")&&decide (c≠P)&&(match(vs[11]?:Option Value),vs.getD 11 .none with|some (.ref a),.ref b=>decide (a=P)&&decide (b=P)|_,_=>false) &&
   (match vs.getD 18 .none,vs.getD 7 .none,vs.getD 9 .none,vs.getD 10 .none with|.str _ _,.int _ _,.bool _,.int _ _=>true|_,_,_,_=>false)
 |_=>false
theorem qOB {K:PySem.W.Frag}{h:Heap}{c P:Addr}(X:K.In h)(d:hdIn K c P=true):PySem.W.CodeHd h c P:=by
 unfold hdIn at d
 split at d
 ·rename_i n dd vs sl hl
  rw[O4,O4,O4] at d;obtain⟨⟨⟨j,i⟩,e⟩,g⟩:=d
  split at e
  ·rename_i a b e1 e2
   rw[O4,decide_eq_true_eq,decide_eq_true_eq] at e;obtain⟨rfl,rfl⟩:=e
   split at g
   ·rename_i f t fl tg inF text tt g1 g2 g3 g4
    exact⟨_,vs,_,_,_,_,_,_,_,X _ _ hl,by rw[of_decide_eq_true j],rfl,e1,e2,g1,g2,g3,g4,of_decide_eq_true i⟩
   ·cases g
  ·cases e
 ·cases d
theorem Fun.okL {P:B15}{w:World}{K:PySem.W.Frag}{mg:Str->Option Value}{base:Heap}{x a:Str}{st:Stmt}{f:Addr}{g:B27}{N ps:List Str}{k:Nat}{sp:Sp}{c:Addr}(F:Fun K x a st f g)(v:g.code=.ref c)(S:FnScope N ps (qAA st))(j:∀vs H Q E,sp vs H Q E->vs.length=ps.length)
  (b:∀ (A:Around) (outer:List Env) (s:Shared) (H:Hp) (vs:List V) (Q:VK) (E:XK),Room k (A.deeper (envOfC a (qAA st) s.heap.objs.size f (.ref c)))->sp vs H Q E->
   ∃t,PSs (cxOf CX0 P w K mg base N a (qAA st) f (.ref c) A outer s H E).nox (qBC st) t/\t {nx:=λ_ H'=>Q .non H',rt:=Q} (start N vs) H):FnOk P w K mg base CX0 (k+1) f g ps sp:=by
 obtain⟨oc,od,kV,r,pm,z,d,ct,n,rfl,u,m⟩:=F.ex;have e:d=.ref c:=v;subst e;refine qeF u m S j λA outer s H vs Q E o l=>?_;obtain⟨t,h,q⟩:=b A outer s H vs Q E o l;exact⟨t,h.nox,q⟩
noncomputable def qVK (scope:Scope)(p:Str)(fv:List Nat)(osc:Scope)(N:List Str):Bool:=
 decide (scope.kind=.function)&&decide (scope.isCoroutine=false)&&decide (scope.isGenerator=false)&&scope.names.all (λy=>decide (y.2≠.cell))&&decide (scope.names.lookup p=some .local) &&
 scope.names.all (λy=>decide (y.2≠.free)||(decide (osc.names.lookup y.1=some .cell)||decide (osc.names.lookup y.1=some .free)))&&fv.all λi=>decide (i<N.length)&&decide (scope.names.lookup (N.getD i R3)=some .free)
theorem lms {X:Cx}{a:Scope}{p:Str}{fv:List Nat}(h:qVK a p fv X.env.scope X.N=true):LmScope X a p fv:=by
 unfold qVK at h;simp only[O4,decide_eq_true_eq,O5,Z3] at h;obtain⟨⟨⟨⟨⟨⟨c,b⟩,d⟩,j⟩,g⟩,i⟩,e⟩:=h;refine⟨c,b,d,j,g,λy f k=>?_,e⟩;rcases i y f with z|z
 ·exact absurd k z
 ·exact z
structure LTab where
 x:Str
 c:Addr
 P:Addr
 q:Str
def qeM (tabs:List LTab)(H:Hp):Prop:=∀t∈tabs,H t.P=some (.tbl (.tab t.q))
noncomputable def entH (a:Addr)(o:Obj)(xs:List V)(ina:Bool)(tabs:List LTab):Hp:=λb=>if ina=true/\b=a then some (.frz o (.lst xs)) else(tabs.find? λt=>decide (t.P=b)).map λt=>.tbl (.tab t.q)
theorem qVP {P:B15}{w:World}{K:PySem.W.Frag}{mg mb:Str->Option Value}{k:Nat}{fa a:Addr}{fd:B27}{x:Str}{sp:Sp}{g:Shared}{vs:List Value}{ns:List Int}(f:List LTab)
  (KX:K.In g.heap) (ag:g.heap.Ns B24 mg) (hb:g.heap.Ns B88 mb) (ai:∀x:Str,x ≠ "__name__"->mb x=B18 x) (ac:g.heap.NoLimit) (hg:g.gens=#[])
  (ha:g.heap.get? a=some {cls:=.type "list",data:=.seq vs.toArray}) (hi:B19 vs ns) (hl:ns.length<=B14) (hr:Room k callerA) (ah:BM mg g.heap)
  (l:∀t∈f,PySem.W.CodeHd g.heap t.c t.P/\g.heap.get? t.P=some (A86 #[])) (hK:A27 K=true) (ab:∀t∈f,∀t'∈f,t.P=t'.P->t.q=t'.q)
  (F:∀base:Heap,K.In base->base.Ns B24 mg->BM mg base->FnOk P w K mg base CX0 k fa fd [x] sp) (a7:∀(s:Shared) (u:Value),BindsTo s fd ⟨[u],[]⟩ [(x,u)])
  (ak:∀H:Hp,qeM f H->SqL K H a (ns.map V.int)->sp [.ref a] H (λv _=>v=.bl true) λ_ _ _=>False):
  B47 (model P w) callerA (.call (.ref fa) ⟨[.ref a],[]⟩) (λr s'=>r=.ok (.ret (.bool true))/\OldK g.heap s'.heap/\s'.os=g.os/\AllBare s'.gens) g:=by
 have rv:=qJ4 hi;have ae:=hi.length;have am:∀t∈f,t.P≠a:=λt i z=>by
  have:=(l t i).2;rw[z,ha] at this;cases this
 have al:∀t∈f,K.lookup t.P=none:=λt i=>by
  cases e:K.lookup t.P with
  |none=>rfl
  |some o=>
   have y:=KX _ _ e;rw[(l t i).2] at y;cases y;have h2:=O5.mp hK _ (PySem.W.mem_of_lookupK e);exact absurd (show false=true from h2) C2
 obtain⟨a1,a3⟩:∃a1:Bool,(a1=true↔K.lookup a=none):=by
  cases e:K.lookup a with
  |none=>exact⟨true,by simp⟩
  |some o=>exact⟨false,by simp⟩
 -- the heap's description
 let o0:Obj:={cls:=.type "list",data:=.seq vs.toArray}
 have a0:∀b u,entH a o0 (ns.map V.int) a1 f b=some u->(a1=true/\b=a/\u=.frz o0 (.lst (ns.map V.int)))\/∃t∈f,t.P=b/\u=.tbl (.tab t.q):=λb u e=>by
  unfold entH at e
  split at e
  ·rename_i c
   cases e;exact .inl ⟨c.1,c.2,rfl⟩
  ·cases y:f.find? (λt=>decide (t.P=b)) with
   |none=>rw[y] at e;cases e
   |some t=>
    rw[y] at e;cases e;exact .inr ⟨t,o6 y,of_decide_eq_true (A76 (p:=λt:LTab=>decide (t.P=b)) y),rfl⟩
 have a8:∀t∈f,entH a o0 (ns.map V.int) a1 f t.P=some (.tbl (.tab t.q)):=λt i=>by
  unfold entH;rw[if_neg λz=>am t i z.2];cases y:f.find? (λt'=>decide (t'.P=t.P)) with
  |none=>exact absurd (decide_eq_true (rfl:t.P=t.P)) (List.find?_eq_none.mp y t i)
  |some t'=>
   have h1:=o6 y;have h2:t'.P=t.P:=of_decide_eq_true (A76 (p:=λt':LTab=>decide (t'.P=t.P)) y);rw[T1,ab t' h1 t i h2]
 generalize hH:entH a o0 (ns.map V.int) a1 f=H at a0 a8;have hS:SqL K H a (ns.map V.int):=by
  cases e:K.lookup a with
  |none=>
   refine .inl (.inr ⟨o0,?_⟩);rw[<- hH];unfold entH;rw[if_pos ⟨a3.mpr e,rfl⟩]
  |some o=>
   have y:=KX a o e;rw[ha] at y;cases y;exact .inr ⟨_,vs.toArray,_,e,rfl,rfl,rfl,by rw[B8,ae];exact hl,by simpa using rv⟩
 have ad:HOk P w H g.heap:=λb u e=>by
  rcases a0 b u e with⟨_,rfl,rfl⟩|⟨t,i,rfl,rfl⟩
  ·exact⟨ha,by rw[A0];exact hl,vs,_,rv,ha⟩
  ·exact⟨#[],(l t i).2,trivial,λan cv z=>by cases z⟩
 have j:∀{b:Addr} {o:Obj},g.heap.get? b=some o->H b=none->(hidT g.heap H).get? b=some o:=λe n=>qZ9 e n;have a9:∀{b:Addr} {o:Obj},g.heap.get? b=some o->(∀xs n,o.data≠.seq xs n)->(∀ps,o.data≠.fields ps)->H b=none:=λ{b o} e d1 d2=>by
  cases q:H b with
  |none=>rfl
  |some u=>
   rcases a0 b u q with⟨_,rfl,_⟩|⟨t,i,rfl,_⟩
   ·rw[ha] at e;cases e;exact absurd rfl (d1 _ _)
   ·rw[(l t i).2] at e;cases e;exact absurd rfl (d2 _)
 have a2:∀{b:Addr} {m:Str->Option Value},g.heap.Ns b m->(hidT g.heap H).Ns b m:=λ{b m} ⟨o,es,ep,e,d,r⟩=>⟨o,es,ep,j e (a9 e (λ_ _ z=>by rw[d] at z;cases z) λ_ z=>by rw[d] at z;cases z),d,r⟩
 have af:K.In (hidT g.heap H):=fun b o e=>j (KX b o e) (by
  cases q:H b with
  |none=>rfl
  |some u=>
   rcases a0 b u q with⟨h1,rfl,_⟩|⟨t,i,rfl,_⟩
   ·rw[a3.mp h1] at e;cases e
   ·rw[al t i] at e;cases e)
 have aj:BM mg (hidT g.heap H):=by
  obtain⟨bm,ob,b1,b2,b3,b4,b5,b6⟩:=ah;exact⟨bm,ob,b1,b2,j b3 (a9 b3 (λ_ _ z=>by rw[b6] at z;cases z) λ_ z=>by rw[b6] at z;cases z),b4,b5,b6⟩
 have hM:Mod K mg (hidT g.heap H):=⟨af,a2 ag,⟨mb,a2 hb,ai⟩,let⟨mc,h1,h2⟩:=ac;⟨mc,a2 h1,h2⟩⟩
 have e0:Env0 P w K mg (hidT g.heap H) callerA [] g H:=⟨rfl,hM,λb o e=>qbV e,Nat.le_of_eq (qW7 _ _),trivial,λb hb=>absurd (show b∈([]:List Addr) from hb) (by simp),ad,.of_eq hg⟩
 refine B43 ((F _ af (a2 ag) aj).run callerA [] g H ⟨[.ref a],[]⟩ [.ref a] [.ref a] _ _ hr e0 (a7 g (.ref a)) (.cons rfl .nil) (ak H a8 hS)) λr s' h=>?_;cases r with
 |error e=>exact R1 h
 |ok fl=>
  cases fl with
  |next=>exact R1 h
  |brk=>exact R1 h
  |cont=>exact R1 h
  |ret u=>
   obtain⟨v,H',os,aa,un,a5,r',q⟩:=h;have q':v=.bl true:=q;subst q';obtain rfl:u=Z9 true:=r';have a4:∀b o,g.heap.get? b=some o->s'.heap.get? b=some o\/∃t∈f,t.P=b:=λb o e=>by
    cases q:H b with
    |none=>exact .inl (un.keep b o e q (by intro z;exact absurd (show b∈([]:List Addr) from z) (by simp)) (by simp))
    |some u=>
     rcases a0 b u q with⟨_,rfl,rfl⟩|⟨t,i,e1,_⟩
     ·have z2:=un.frzs b o0 _ q;obtain⟨e1,_⟩:=ad b _ q;obtain⟨y,_⟩:=a5 b _ z2;rw[e] at e1;cases e1;exact .inl y
     ·exact .inr ⟨t,i,e1⟩
   have a6:∀t∈f,∃more,s'.heap.get? t.P=some (A86 more):=λt i=>by
    obtain⟨more,e,_⟩:=(show ObjOk P w H' s'.heap t.P (.tbl (.tab t.q)) from a5 t.P _ (un.tbls t.P _ (a8 t i)));exact⟨more,e⟩
   refine⟨rfl,⟨λb o e=>?_,λb o e=>?_⟩,os,aa⟩
   ·rcases a4 b o e with z|⟨t,i,rfl⟩
    ·exact .inl z
    ·obtain⟨more,em⟩:=a6 t i;have y:=(l t i).2;rw[e] at y;cases y;exact .inr (.inl ⟨((l t i).1.tab (l t i).2).isCodeTable,rfl,#[],more,rfl,by rw[em];simp⟩)
   ·rcases a4 b o e with z|⟨t,i,rfl⟩
    ·exact⟨_,z⟩
    ·obtain⟨more,em⟩:=a6 t i;exact⟨_,em⟩
theorem walk_ofT {l:PySem.W.OpenLaw}{n k:Nat}{q:B15}{m:List Str}{XP:(Str->Option Value)->Heap->Prop}{YP:World->Heap->Prop}{d:DefRec}{K:Params->PySem.W.Frag}{sp:World->Sp}{x:Str}(i:List LTab)
  (hn:l.most=some n) (a3:n<=B14) (a5:d.params.defaults=[]) (hr:Room k callerA)
  (hY:∀(w:World) (h:Heap),YP w h->(K w.params).In h)
  (z:∀t∈i,((recsOf q).find? λe=>e.name==t.x).isSome=true) (a0:∀(w:World),∀t∈i,B01 (K w.params) t.x=some (t.c,t.P)) (hK:∀w:World,A27 (K w.params)=true) (y:∀t∈i,∀t'∈i,t.P=t'.P->t.q=t'.q)
  (F:∀ (w:World) (mg:Str->Option Value) (fa:Addr) (h:Heap),(K w.params).In h->h.Ns B24 mg->mg d.name=some (.ref fa)->
   ∃fd:B27,(∀(s:Shared) (u:Value),BindsTo s fd ⟨[u],[]⟩ [(x,u)])/\
    ∀base:Heap,(K w.params).In base->base.Ns B24 mg->BM mg base->FnOk l.prog w (K w.params) mg base CX0 k fa fd [x] (sp w))
  (a4:∀(w:World) (H:Hp) (a:Addr) (ns:List Int),ns.length<=n->qeM i H->SqL (K w.params) H a (ns.map V.int)->sp w [.ref a] H (λv _=>v=.bl true) λ_ _ _=>False):
  PySem.W.WalkO q m XP YP l.row.toRowW d [] (λf vs=>A92 f vs):=by
 refine Att.attach_call hn a5 λw s₀ s₁ mg mb fa o pm cd a6 a vs ns G Y ho hd a7 a2 r p j hg=>?_;have KX:=hY w _ Y;obtain⟨fd,hb,hF⟩:=F w mg fa _ KX G.T.g a2;refine qVP i KX G.T.g G.T.b G.T.builtins G.T.nolimit hg r p (F2 j a3) hr G.T.bmain (λt ht=>?_) (hK w) y hF hb λH hO hS=>a4 w H a ns j hO hS;obtain⟨dd,a1⟩:=Y7.mp (z t ht);exact PySem.W.tab_of G.T KX a1 (a0 w t ht)
section
open PySem.SeqAt
open PySem.AutoSeq1 (wpAny_loadPart')
open PySem.MeetsSeq PySem.MeetsSeq2 PySem.MeetsSeq3
theorem qPW:∀ns:List Int,HT.lexLt ns ns=false
 |[]=>rfl
 |x::ns=>by rw[HT.lexLt_cons,if_pos rfl];exact qPW ns
theorem qJV:∀{vs:List Value} {ns ms:List Int},B19 vs ns->B19 vs ms->ns=ms
 |_,_,_,.nil,.nil=>rfl
 |_,_,_,.cons a t h,.cons _ _ h'=>by rw[qJV h h']
theorem qGC:∀{vs:List Value} {ns:List Int},B19 vs ns->∀(j:Nat) (hj:j<vs.length),∃n t,ns[j]?=some n/\vs[j]=.int n t
 |_,_,.cons a t h,0,_=>⟨a,t,rfl,rfl⟩
 |_,_,.cons a t h,j+1,hj=>qGC h j (Nat.lt_of_succ_lt_succ hj)
theorem qWN {A:Around}{s:Shared}{l b:Addr}{d a:Array Value}{ns f:List Int}(v:IsTup s.heap l d)(r:IsTup s.heap b a)(hi:B19 d.toList ns)(h:B19 a.toList f)(hu:A.units<cLine):EqAt A s (.ref l) (.ref b) (decide (ns=f)):=by
 by_cases e:l=b
 ·subst e;obtain⟨o,g1,_,n1,z⟩:=v;obtain⟨o',w,_,n2,x⟩:=r;rw[g1] at w;cases w;rw[z] at x;cases x;rw[decide_eq_true (qJV hi h)];exact EqAt.same _
 ·refine EqAt.of_refs e ?_;have z1:d.size=ns.length:=by rw[<- hi.length];simp
  have z2:a.size=f.length:=by rw[<- h.length];simp
  have:=RcAt.tuples (A:=A) (s:=s) (e:=fun j=>decide (ns[j]?=f[j]?)) v r hu (fun j g p=>by
   obtain⟨n,t,y,i⟩:=qGC hi j (by simpa using g)
   obtain⟨m,u,e3,k⟩:=qGC h j (by simpa using p)
   have i:d[j]=.int n t:=by simpa using i
   have k:a[j]=.int m u:=by simpa using k
   rw[y,e3,i,k];have q:=EqAt.int_int (A:=A.in1) (s:=s) n t m u
   rwa[show(n==m)=decide (some n=some m) by simp[BEq.beq]] at q)
  rwa[show((G8 (min d.size a.size)).all (λj=>decide (ns[j]?=f[j]?))&&d.size==a.size)=decide (ns=f) by
   rw[Q7,O4,O5,decide_eq_true_eq,beq_iff_eq]
   constructor
   ·rintro⟨g,p⟩;refine A59 λj=>?_;by_cases c:j<ns.length
    ·exact of_decide_eq_true (g j (G3.mpr (by lia)))
    ·rw[O7 (by lia),O7 (by lia)]
   ·rintro rfl;exact⟨λj _=>decide_eq_true rfl,by lia⟩] at this
theorem qLL (l b x y:Addr)(a c:Int)(t u:Tok)(n n2:Nat)(dd a2:Option Addr)(sl a1:Array (Option Value))(i1 i2:Array Value)(ns ms:List Int)(hi:B19 i1.toList ns)(hj:B19 i2.toList ms):
  Meets (Builtin.«tuple.__lt__» ⟨[.ref l,.ref b],[]⟩)
   (fun A R s=>s.heap.get? l=some { cls:=.type "tuple",dict:=dd,data:=.seq #[.int a t,.ref x] n,slots:=sl }/\s.heap.get? b=some { cls:=.type "tuple",dict:=a2,data:=.seq #[.int c u,.ref y] n2,slots:=a1 }/\
    IsTup s.heap x i1/\IsTup s.heap y i2/\A.units+1<cLine/\R (.ok (.ret (.bool (HT.lexLt (a::ns) (c::ms))))) s):=
 .of_wp λf w A R s h=>by
  obtain⟨o,g,d,m,k⟩:=s;obtain⟨hl,hb,hx,hy,hu,h⟩:=h;have f2:=p6
  wp_walk using B91 hl,B91 hb,wpAny_forIn_list _ (fun i b s'=>b.1=none/\s'=⟨o,g,d,m,k⟩/\((i=[(O6 a t,O6 c u),(E2 x,E2 y)]/\R (.ok (.ret (.bool (HT.lexLt (a::ns) (c::ms))))) ⟨o,g,d,m,k⟩)\/
   (i=[(E2 x,E2 y)]/\R (.ok (.ret (.bool (HT.lexLt ns ms)))) ⟨o,g,d,m,k⟩)\/(i=[]/\R (.ok (.ret (.bool false))) ⟨o,g,d,m,k⟩))) _
  case turn=>
   rintro⟨p,q⟩ i b s' ⟨v,rfl,⟨hz,j⟩|⟨hz,j⟩|⟨hz,j⟩⟩
   ·cases hz;rw[HT.lexLt_cons] at j;obtain⟨e,he,r⟩:=HT.eqAt_int A.in1 ⟨o,g,d,m,k⟩ a t c u;refine B12 (he f w _ _ ?_);cases e with
    |true=>
     rw[if_pos (r.mp rfl)] at j
     wp_walk
     exact⟨rfl,rfl,.inr (.inl ⟨rfl,j⟩)⟩
    |false=>
     rw[if_neg (λq=>absurd (r.mpr q) C2)] at j;have a0:=HT.rcLt_int A.in1 ⟨o,g,d,m,k⟩ a t c u f w
     wp_walk using a0
     exact⟨_,rfl,by simpa using j⟩
   ·cases hz;have he:=qWN (A:=A.in1) (s:=⟨o,g,d,m,k⟩) hx hy hi hj hu;refine B12 (he f w _ _ ?_);by_cases e:ns=ms
    ·rw[decide_eq_true e];subst e;rw[qPW] at j
     wp_walk
     exact⟨rfl,rfl,.inr (.inr ⟨rfl,j⟩)⟩
    ·rw[decide_eq_false e];have a0:∀(E:Value->Shared->Prop) (Q:Value->Shared->Prop),Q (.bool (HT.lexLt ns ms)) ⟨o,g,d,m,k⟩->wpAny (model f w) A.in1 (richCompare .Lt (.ref x) (.ref y)) Q E ⟨o,g,d,m,k⟩:=λE Q hq=>HT.lt_tupInts hx hy hi hj hu hq
     wp_walk using a0
     exact⟨_,rfl,by simpa using j⟩
   ·cases hz
  case fin=>
   rintro⟨b1,b2⟩ s' ⟨v,rfl,hh⟩;simp only at v;subst v;have j:R (.ok (.ret (.bool false))) ⟨o,g,d,m,k⟩:=by
    rcases hh with⟨z,_⟩|⟨z,_⟩|⟨_,z⟩
    ·cases z
    ·cases z
    ·exact z
   wp_walk
   exact⟨_,rfl,by simpa[a8] using j⟩
  case h=>
   exact⟨rfl,rfl,.inl ⟨rfl,h⟩⟩
end
def KR2 (H:Hp)(y:V)(k:List Int):Prop:=∃r q a ns,y=.ref r/\k=a::ns/\H r=some (.tup [.int a,.ref q])/\H q=some (.tup (ns.map V.int))
theorem qfX {X:Cx}(hu:X.A.in1.units+1<cLine):KCmp X KR2:=by
 refine⟨λH H' y k sm ⟨r,q,a,ns,e1,e2,g1,g2⟩=>⟨r,q,a,ns,e1,e2,sm _ _ g1,sm _ _ g2⟩,?_⟩;intro Ab σ s H y y' u u' k k' Q E I ry ry' ⟨r,q,a,ns,e1,e2,g1,g2⟩ ⟨r',q',a',ns',e1',e2',g1',g2'⟩ h;subst e1 e2 e1' e2';cases ry;cases ry';obtain⟨a2,r1,p1,_⟩:=I.tuple (SqT.of g1);obtain⟨a1,p,g,_⟩:=I.tuple (SqT.of g1');obtain⟨js,r2,p2,_⟩:=I.tuple (SqT.of g2);obtain⟨c,j,m,_⟩:=I.tuple (SqT.of g2');obtain⟨v1,v2,rfl,⟨t,rfl⟩,c2⟩:=Vals.two r1;obtain⟨a3,a5,rfl,⟨t',rfl⟩,i⟩:=Vals.two p;cases c2;cases i;have i1:B19 js.toArray.toList ns:=qFV r2;have i2:B19 c.toArray.toList ns':=qFV j;obtain⟨⟨a4,dd,a0,sl⟩,w,hc,n,z⟩:=id p1;obtain⟨⟨v,o,l,f⟩,d,e,n2,b⟩:=id g;simp only at hc z e b;subst hc z e b;exact richCompare_meets_room (op:=.Lt) ⟨_,w,rfl⟩ ⟨_,d,rfl⟩ A01 y8 (r8 _ _) (qLL r r' q q' a a' t t' n n2 dd o sl f js.toArray c.toArray ns ns' i1 i2)
  ⟨w,d,p2,m,hu,show Z9 (HT.lexLt (a::ns) (a'::ns'))≠A17/\Q (.bool (HT.lexLt (a::ns) (a'::ns'))) s from⟨(λx=>nomatch x),h⟩⟩ (by lia)
def qd5 (P:Addr)(q:Str)(fv:List Nat)(te:TE)(KR:Hp->V->List Int->Prop)(ta:TA):TE:=λσ H Q=>ta σ H λvs H1=>H1 P=some (.tbl (.tab q))/\
 ∃l xs ks m,vs=[.ref l]/\H1 l=some (.lst xs)/\ks.length=xs.length/\(∀(i:Nat) (x:V) (k:List Int),xs[i]?=some x->ks[i]?=some k->∀Hc,Sm0 H1 Hc->te (qGB fv σ x) Hc λy H'=>Sm0 Hc H'/\KR H' y k)/\
  qdQ (some .non) (xs.zip ks)=some m/\∀H',Sm0 H1 H'->Q m H'
theorem qYE {e:Expr}{ta:TA}{np pos kpos j r n:Pos}{a:B40}{body:Expr}{d:Scope}{c P:Addr}{q:Str}{p:Str}{fv:List Nat}{te:TE}{KR:Hp->V->List Int->Prop}{nn:Nat}
  (rm:Room 1 X.A) (hc:X.calm=true) (hg:Gl X "min") (hm:X.mg "min" = none) (hv:B18 "min" = some (.builtin "min")) (hb:BM X.mg X.base) (w:X.env.code=.ref c) (hd:hdIn X.K c P=true) (hq:X.env.qual ++ "<lambda>" = q)
  (S:LmScope X d p fv) (a0:defaultsOf a X.env=([],[])) (t:∀(cl:List (Str×Addr)) (pm cd ct u:Value),B50 (Q5 "<lambda>" q a body d cl pm cd ct) ⟨[u],[]⟩=pure [(p,u)])
  (KC:KCmp X KR) (ha:PA X [e] ta) (he:∀z,PE (lmCx X d p fv q z) body te) (hn:PE X (.Constant .none nn n) (tC .non)) (hs:B17 [e] X.env=[(false,eval e X.env)]:=by rfl):
  PE X (.Call (.Name "min" np) [e] [⟨some "key",.Lambda a body d r,kpos⟩,⟨some "default",.Constant .none nn n,j⟩] pos) (qd5 P q fv te KR ta):=by
 intro Ab s σ H Q I h;refine B41 (qG6 I hg hm hv ?_ (by decide) (by decide))
 refine Z1 (thn (ha pos Ab s σ H _ I h) λus s1 ⟨vs,H1,I1,r1,q1⟩=>?_) (by rw[hs];rfl) (by rw[hs];rfl)
 obtain⟨hP,l,xs,ks,m,rfl,hl,lk,hk,em,q2⟩:=q1;obtain⟨u,rfl,rx⟩:=qDL r1;cases rx;have C:=qOB (c:=c) (P:=P) I1.ok.mod.kin hd;have pl:=qaC (X:=X) (pos:=r) (body:=body) hb w C hq S a0;refine thn (qM7 (kpos:=kpos) (nm:=some "key") pl (qM7 (kpos:=j) (nm:=some "default") hn qUI) pos Ab s1 σ H1 (λzs H2=>∃f cc ctv,zs=[.ref f,.non]/\Sm0 H1 H2/\H2 f=some (LamF X q a body d cc ctv f)/\H2 cc=some (.tbl (.cod q))) I1 ⟨hP,λf cc ctv H' y h0 hf v=>⟨f,cc,ctv,rfl,y,hf,v⟩⟩) λws s2 ⟨zs,H2,I2,rz,f,cc,ctv,ez,y,hf,v⟩=>?_;subst ez;obtain⟨u2,u3,rfl,r2,r3⟩:=Vals.two rz;cases r2;cases r3;have hA:X.A.in1.frames=some X.stack:=I2.ok.frames;exact qPT (H:=H2) hc rm hA S t he KC ⟨lk,λi x k hx a1 Hc g=>hk i x k hx a1 Hc λb o e=>g b o (y b o e)⟩ hf v (SqL.of (y _ _ hl)) (λH' g=>SqL.of (g _ _ (y _ _ hl))) I2
  (by unfold argsOk;kernel_rfl) (some .none) rfl (some .non) (.inr ⟨.non,.none,rfl,rfl,rfl⟩) m em λH' g=>q2 H' λb o e=>g b o (y b o e)
end L2
namespace L2.G
open PySem PySem.Spec PyProof.Rows
theorem qL5:∀a:List Int,HT.lexLt a a=false
 |[]=>rfl
 |x::a=>by rw[HT.lexLt_cons,if_pos rfl];exact qL5 a
theorem qJQ:∀a b c:List Int,HT.lexLt a b=true->HT.lexLt b c=true->HT.lexLt a c=true
 |[],[],_,h,_=>by cases h
 |[],_::_,[],_,h=>by cases h
 |[],_::_,_::_,_,_=>rfl
 |_::_,[],_,h,_=>by cases h
 |_::_,_::_,[],_,h=>by cases h
 |x::a,y::b,z::c,h1,h2=>by
  rw[HT.lexLt_cons] at h1 h2 ⊢;by_cases e1:x=y
  ·subst e1;rw[if_pos rfl] at h1;by_cases e2:x=z
   ·rw[if_pos e2] at h2 ⊢;exact qJQ a b c h1 h2
   ·rw[if_neg e2] at h2 ⊢;exact h2
  ·rw[if_neg e1] at h1;have h1:=of_decide_eq_true h1;by_cases e2:y=z
   ·subst e2;rw[if_neg e1];exact decide_eq_true h1
   ·rw[if_neg e2] at h2;have h2:=of_decide_eq_true h2;rw[if_neg (by lia)]
    exact decide_eq_true (by lia)
theorem qNO:∀a b:List Int,HT.lexLt a b=false->HT.lexLt b a=false->a=b
 |[],[],_,_=>rfl
 |[],_::_,h,_=>by cases h
 |_::_,[],_,h=>by cases h
 |x::a,y::b,h1,h2=>by
  rw[HT.lexLt_cons] at h1 h2;by_cases e:x=y
  ·subst e;rw[if_pos rfl] at h1 h2;rw[qNO a b h1 h2]
  ·rw[if_neg e] at h1;rw[if_neg (λz=>e z.symm)] at h2;have:=of_decide_eq_false h1;have:=of_decide_eq_false h2
   lia
noncomputable def qIJ (L:List (List Int))(a:List Int):Int:=(((L.filter λx=>HT.lexLt x a).length:Nat):Int)
theorem qGZ {α:Type}{p q:α->Bool}:∀{L:List α},(∀x∈L,p x=true->q x=true)->(∃x∈L,p x=false/\q x=true)->(L.filter p).length<(L.filter q).length
 |[],_,⟨x,hx,_⟩=>nomatch hx
 |y::L,h,⟨x,hx,h1,h2⟩=>by
  have le:∀{M:List α},(∀x∈M,p x=true->q x=true)->(M.filter p).length<=(M.filter q).length:=by
   intro M hM
   induction M with
   |nil=>exact A7 _
   |cons z M ih=>
    have i:=ih λx hx=>hM x (A9 _ hx);rw[G9,G9];cases ep:p z
    ·cases q z
     ·simpa using i
     ·simp;lia
    ·rw[hM z (by simp) ep]
     simpa using i
  rw[G9,G9];rcases B7.mp hx with e|e
  ·subst e;have:=le λx hx=>h x (A9 _ hx);rw[h1,h2];simp
   lia
  ·have i:=qGZ (λx hx=>h x (A9 _ hx)) ⟨x,e,h1,h2⟩;cases ep:p y
   ·cases q y
    ·simpa using i
    ·simp;lia
   ·rw[h y (by simp) ep]
    simpa using i
theorem qUF {L:List (List Int)}{a b:List Int}(c:a∈L)(h:HT.lexLt a b=true):qIJ L a<qIJ L b:=by
 unfold qIJ;have:=qGZ (p:=λx=>HT.lexLt x a) (q:=λx=>HT.lexLt x b) (L:=L) (λx _ d=>qJQ _ _ _ d h) ⟨a,c,qL5 a,h⟩
 lia
theorem qRC {L:List (List Int)}{a b:List Int}(c:a∈L)(d:b∈L):decide (qIJ L a<qIJ L b)=HT.lexLt a b:=by
 cases h:HT.lexLt a b with
 |true=>exact decide_eq_true (qUF c h)
 |false=>
  refine decide_eq_false λz=>?_;cases h2:HT.lexLt b a with
  |true=>have:=qUF d h2;lia
  |false=>rw[qNO a b h h2] at z;lia
noncomputable def qZ3 (xs:List V):List Int:=xs.map fun|.int i=>i|_=>0
theorem qW5 (t:List Int):qZ3 (t.map V.int)=t:=by
 unfold qZ3;rw[Y9];exact(J8 λx _=>rfl).trans (List.map_id _)
noncomputable def keyH (H:Hp):Value->List Int
 |.ref r=>match H r with
  |some (.tup xs)=>qZ3 xs
  |_=>[]
 |_=>[]
@[reducible] def tupNM (H:Hp)(L:List (List Int)):NM:=⟨λv=>qIJ L (keyH H v),λv=>∃r t,v=.ref r/\H r=some (.tup (t.map V.int))/\t∈L⟩
theorem qJS {H:Hp}{r:Addr}{t:List Int}(h:H r=some (.tup (t.map V.int))):keyH H (.ref r)=t:=by
 show(match H r with|some (.tup xs)=>qZ3 xs|_=>[])=t
 rw[h];exact qW5 t
section
variable{prog:B15}{w:World}{A:Around}{E:Value->Shared->Prop}{s:Shared}
theorem qJT {b:Bool}{Q:Bool->Shared->Prop}:∀{vs ws:List Value} {ns ms:List Int} {i:Nat} {fin:Bool},B19 vs ns->B19 ws ms->
  (fin=decide (vs.length<ws.length))->Q (HT.lexLt ns ms) s->PySem.W.KatLex prog w A b fin Q (vs.zip ws) i s
 |_,_,_,_,i,fin,.nil,.nil,ef,h=>by
  rw[ef];exact A08 h
 |_,_,_,_,i,fin,.nil,.cons _ _ _,ef,h=>by
  rw[ef];exact A08 h
 |_,_,_,_,i,fin,.cons _ _ _,.nil,ef,h=>by
  rw[ef];exact A08 h
 |_,_,_,_,i,fin,.cons (vs:=vs) (ns:=ns) x t hv,.cons (vs:=ws) (ns:=ms) y u hw,ef,h=>by
  rw[K9];refine PySem.W.kat_cons (wpAny_eqBool_int ?_);rw[HT.lexLt_cons] at h;by_cases e:x=y
  ·rw[if_pos e] at h;rw[beq_iff_eq.mpr e];refine PySem.W.kat_yes (qJT hv hw ?_ h);rw[ef];simp
  ·rw[if_neg e] at h;rw[beq_eq_false_iff_ne.mpr e];refine PySem.W.kat_no ?_;cases eb:(b&&i==0) with
   |true=>exact oneLt_int h
   |false=>exact PySem.W.kat_one _ _ (lt_int h)
theorem qT6 {x y:Addr}{xs e:Array Value}{ns d:List Int}{b:Bool}{Q:Bool->Shared->Prop}(g:IsTup s.heap x xs)(m:IsTup s.heap y e)(i:B19 xs.toList ns)(l:B19 e.toList d)(h:Q (HT.lexLt ns d) s):wpAny (model prog w) A (keyLt' (tuples' b) (.ref x) (.ref y)) Q E s:=by
 obtain⟨o,f,q,n,j⟩:=id g;obtain⟨p,c,k,r,a⟩:=id m;refine PySem.W.kat_lt f j c a (qJT i l ?_ h);simp
theorem qVV {rs:List Addr}{ts:List (List Int)}{Q:B68->Shared->Prop}(h:Paired (λ(r:Addr) (t:List Int)=>∃xs:Array Value,IsTup s.heap r xs/\B19 xs.toList t) rs ts)(b:∀t∈ts,t≠[])(k:2<=rs.length)
  (q:Q (tuples' true) s):wpAny (model prog w) A (keyKind' (rs.map E2).toArray) Q E s:=by
 have l:∃fs,PySem.W.KatTups s.heap (rs.map E2) fs/\fs.length=rs.length/\∀v∈fs,∃n t,v=.int n t:=by
  clear k
  induction h with
  |nil=>exact⟨[],trivial,rfl,λ_ z=>nomatch z⟩
  |@cons r t l1 l2 a _ ih=>
   obtain⟨fs,c,i,f⟩:=ih λt d=>b t (A9 _ d);obtain⟨xs,⟨o,m,u,n,p⟩,j⟩:=a;have d:t≠[]:=b t (by simp)
   obtain⟨xs⟩:=xs;cases j with
   |nil=>exact absurd rfl d
   |cons x tk rest=>
    refine⟨.int x tk::fs,.cons m u p rfl c,by simp[i],λv g=>?_⟩
    rcases B7.mp g with e|e
    ·exact⟨x,tk,e⟩
    ·exact f v e
 obtain⟨fs,c,i,f⟩:=l;refine PySem.W.kat_kind (T:=.type "int") c (by lia) (λv g=>?_) rfl ?_
 ·obtain⟨n,t,rfl⟩:=f v g;exact .now
 ·exact q
end
section
variable{X:Cx}
abbrev qSA (H:Hp)(rs:List Addr)(ts:List (List Int)):Prop:=Paired (λ(r:Addr) (t:List Int)=>H r=some (.tup (t.map V.int))) rs ts
theorem qQX {H:Hp}:∀{rs:List Addr} {ts:List (List Int)},qSA H rs ts->∀{r:Addr},r∈rs->∃t,t∈ts/\H r=some (.tup (t.map V.int))
 |_,_,.nil,_,h=>nomatch h
 |_,_,.cons (b:=t) g T,r,h=>by
  rcases B7.mp h with e|e
  ·exact⟨t,by simp,by rw[e];exact g⟩
  ·obtain⟨t,h1,h2⟩:=qQX T e;exact⟨t,A9 _ h1,h2⟩
end
open PySem PySem.Spec PyProof.Rows PySem.W
theorem perm_map_inv {α β:Type}{g:α->β}{a b:List β}(h:a.Perm b):∀L:List α,b=L.map g->∃L':List α,L'.Perm L/\a=L'.map g:=by
 induction h with
 |nil=>
  intro L e;exact⟨[],by rw[l5.mp e.symm],rfl⟩
 |cons x _ ih=>
  intro L e;cases L with
  |nil=>cases e
  |cons y L=>
   rw[C7] at e
   injection e with e1 e2
   obtain⟨L',p,c⟩:=ih L e2;exact⟨y::L',p.cons y,by rw[C7,e1,c]⟩
 |swap x y l=>
  intro L e
  match L,e with
  |p::q::L,e=>
   rw[C7,C7] at e
   injection e with e1 e2
   injection e2 with e2 c
   exact⟨q::p::L,.swap p q L,by rw[C7,C7,e1,e2,c]⟩
 |trans _ _ ih1 ih2=>
  intro L e;obtain⟨j,i,e2⟩:=ih2 L e;obtain⟨f,d,e1⟩:=ih1 j e2;exact⟨f,d.trans i,e1⟩
section
variable{X:Cx}{Ab:List (Addr×Obj)}{σ:St}{params:B40}{body:Expr}{scope:Scope}{p:Str}{fv:List Nat}{q:Str}{te:TE}{l f cc:Addr}{ctv:Value}{H0:Hp}{xs:List V}{ks:List (List Int)}{Q:VK}
theorem qYZ {A:Around} {s:Shared} {H:Hp} {b S:Addr} {i:Nat} {x:V} {k:List Int} {u:Value} (rm:Room 0 A) (hA:A.frames=some X.stack) (S':LmScope X scope p fv) (a:∀(cl:List (Str×Addr)) (pm cd ct u:Value),B50 (Q5 "<lambda>" q params body scope cl pm cd ct) ⟨[u],[]⟩=pure [(p,u)])
  (t:∀z,PE (lmCx X scope p fv q z) body te) (KA:KeyAt X σ fv te KR1 H0 xs ks) (hf:H0 f=some (LamF X q params body scope cc ctv f)) (m:H0 cc=some (.tbl (.cod q)))
  (I:Inv X Ab σ H s) (l:Sm0 H0 H) (hx:xs[i]?=some x) (hk:ks[i]?=some k) (rx:RelV x u) (j:FpOk X Ab H b) (c:FpOk X Ab H S) {d g:Obj} (n:s.heap.get? b=some d) (o:s.heap.get? S=some g) {Q':Value->Shared->Prop} {E:Value->Shared->Prop}
  (h:∀v y H' s',Inv X Ab σ H' s'->Sm0 H H'->RelV y v->KR1 H' y k->FpOk X Ab H' b->FpOk X Ab H' S->s'.heap.get? b=some d->s'.heap.get? S=some g->Q' v s'):wpAny (model X.prog X.w) A (call (.ref f) [u]) Q' E s:=by
 have gf:s.heap.get? f=some (lamO X q params body scope cc ctv):=(show ObjOk X.prog X.w H s.heap f (LamF X q params body scope cc ctv f) from I.hok f _ (l _ _ hf)).1;refine B90 (B43 (qRU rm I S' hA gf (l _ _ m) rx a t (KA.key i x k hx hk H l)) λr s' ⟨v,y,H',e,I',ry,⟨sm',kr⟩,un⟩=>?_);subst e;exact h v y H' s' I' sm' ry kr (j.to (un.free b d n j.1 (by simp))) (c.to (un.free S g o c.1 (by simp))) (un.keep b d n j.1 (I.fpStk j) (by simp)) (un.keep S g o c.1 (I.fpStk c) (by simp))
theorem Inv.off {H:Hp}{s:Shared}{b:Addr}{h':Heap}(I:Inv X Ab σ H s)(f:FpOk X Ab H b)(d:∀c o,c≠b->s.heap.get? c=some o->h'.get? c=some o):Inv X Ab σ H {s with heap:=h'}:=
 I.turned (t':=s.toks) (λc o a e=>d c o a e) f.1 f.2.1 f.2.2.2.1 f.2.2.2.2.1 f.2.2.2.2.2
def qeN (X:Cx)(Ab:List (Addr×Obj))(σ:St)(H0:Hp)(ks:List (List Int))(kS D:Addr)(oD:Obj)(j:Nat)(s:Shared):Prop:=
 ∃(H:Hp) (rs:List Addr) (c:Nat),Inv X Ab σ H s/\Sm0 H0 H/\FpOk X Ab H kS/\FpOk X Ab H D/\s.heap.get? kS=some (seqObj "list" (rs.map E2).toArray c)/\s.heap.get? D=some oD/\qSA H rs (ks.take j)
theorem qSM {A:Around} {s:Shared} {d:List Value} {kS D:Addr} {e1:Nat} {P:Fin->Shared->Prop} {E:Value->Shared->Prop} (rm:Room 0 A) (hA:A.frames=some X.stack) (S':LmScope X scope p fv) (a4:∀(cl:List (Str×Addr)) (pm cd ct u:Value),B50 (Q5 "<lambda>" q params body scope cl pm cd ct) ⟨[u],[]⟩=pure [(p,u)])
  (he:∀z,PE (lmCx X scope p fv q z) body te) (KA:KeyAt X σ fv te KR1 H0 xs ks) (hf:H0 f=some (LamF X q params body scope cc ctv f)) (ad:H0 cc=some (.tbl (.cod q))) (rv:Vals xs d) (hz:d.length<=63) (af:∀k∈ks,k≠[]) (a7:kS≠D)
  (h0:qeN X Ab σ H0 ks kS D (seqObj "list" #[] e1) 0 s)
  (h:∀(H:Hp) (s':Shared) (zs:List (List Int×V)) (out:List Value) (n:Nat),Inv X Ab σ H s'->Sm0 H0 H->FpOk X Ab H D->zs.Perm (ks.zip xs)->zs.Pairwise (λa b=>HT.lexLt b.1 a.1=false)->Vals (zs.map (·.2)) out->s'.heap.get? D=some (seqObj "list" out.toArray n)->P (.done (.ret .none)) s'):
  wpAny (model X.prog X.w) A (ksk_rest D (.ref f) false d.toArray e1 (.ref kS)) P E s:=by
 have lu:=rv.length;have lk:=KA.len;unfold ksk_rest;refine B12 (B58 ?_)
 first
  |rw[List.forIn_toArray]
  |(rw[<- A48];simp only[List.toList_toArray])
  |rw[<- A48]
 refine B12 (ksk_fold (λj s'=>qeN X Ab σ H0 ks kS D (seqObj "list" #[] e1) j s') d 0 s h0 (λj u s' hu hK=>?_) λs' hK=>?_)
 ·rw[A62] at hK ⊢;obtain⟨H,rs,c,I,sm,fk,fD,gk,gD,T⟩:=hK;have hj:j<d.length:=(A3.mp hu).1;have ag:j<xs.length:=by lia
  have ah:j<ks.length:=by lia
  have hx:=A4 ag;have hk:=A4 ah;obtain⟨u',a6,ru⟩:=rv.get hx;rw[hu] at a6;cases a6;have lT:rs.length=(ks.take j).length:=B6 T;rw[C4] at lT;refine B12 (B71 (qYZ rm hA S' a4 he KA hf ad I sm hx hk ru fk fD gk gD λv y H' s2 I2 sm2 ry ⟨r,ey,gr⟩ fk2 fD2 gk2 gD2=>?_));subst ey;cases ry;have ea:((rs.map E2).toArray).push (.ref r)=((rs++[r]).map E2).toArray:=by simp
  obtain⟨c2,ac⟩:∃c2,(s2.heap.update kS (G0 (·.push (.ref r)))).get? kS=some (seqObj "list" ((rs++[r]).map E2).toArray c2):=⟨_,by rw[<- ea];exact get?_update_seq gk2 (·.push (.ref r))⟩
  try dsimp only
  refine B12 (B39 gk2 rfl ?_ (by rw[B8,A0,B16];lia) (F2 (Nat.le_of_eq (Array.size_push ..)) (by rw[B8,A0,B16];lia)))
  refine B13 ⟨rfl,H',rs++[r],c2,Inv.off I2 fk2 (λb o hb e=>(C9 _ _ (G4 hb)).trans e),λb o e=>sm2 b o (sm b o e),fk2,fD2,ac,(C9 _ _ a7).trans gD2,?_⟩;rw[C6,hk,C8];have T2:qSA H' rs (ks.take j):=Paired.mapP T λ_ _ z=>sm2 _ _ z;exact T3 T2 gr
 ·rw[A62] at hK;obtain⟨H,rs,c,I,sm,fk,fD,gk,gD,T⟩:=hK;rw[E7 (by lia)] at T
  have lr:rs.length=ks.length:=B6 T
  try dsimp only
  refine B12 (listItems_at gk rfl ?_);unfold ksk_end;dsimp only;simp only[E8,if_false]
  -- the triples
  have ez:((rs.map E2).toArray.zip d.toArray).toList=(rs.zip (xs.zip d)).map λt=>((E2 t.1,t.2.2):Keyed):=by
   rw[Array.toList_zip];show(rs.map E2).zip d=_;have:∀(rs:List Addr) (xs:List V) (d:List Value),rs.length=xs.length->xs.length=d.length->(rs.map E2).zip d=(rs.zip (xs.zip d)).map λt=>((E2 t.1,t.2.2):Keyed):=by
    intro rs
    induction rs with
    |nil=>intro xs d _ _;rfl
    |cons r rs ih=>
     intro xs d h1 l
     match xs,d,h1,l with
     |x::xs,u::d,h1,l=>
      rw[C7,K9,K9,K9,C7,ih xs d (by simpa using h1) (by simpa using l)]
     |[],_,h1,_=>simp at h1
     |_::_,[],_,l=>simp at l
   exact this rs xs d (by lia) (by lia)
  have tz:(rs.zip (xs.zip d)).map (λt=>(keyH H (.ref t.1),t.2.1))=ks.zip xs:=by
   have:∀(rs:List Addr) (ks:List (List Int)) (xs:List V) (d:List Value),qSA H rs ks->rs.length=xs.length->xs.length=d.length->(rs.zip (xs.zip d)).map (λt=>(keyH H (.ref t.1),t.2.1))=ks.zip xs:=by
    intro rs ks xs d T
    induction T generalizing xs d with
    |nil=>intro _ _;rfl
    |@cons r k l1 l2 g _ ih=>
     intro h1 l
     match xs,d,h1,l with
     |x::xs,u::d,h1,l=>
      rw[K9,K9,K9,C7,qJS g,ih xs d (by simpa using h1) (by simpa using l)]
     |[],_,h1,_=>simp at h1
     |_::_,[],_,l=>simp at l
   exact this rs ks xs d T (by lia) (by lia)
  have a8:∀t∈rs.zip (xs.zip d),RelV t.2.1 t.2.2:=by
   intro t ht;obtain⟨i,hi⟩:=D8 ht;rw[U9] at hi;have l:=hi.2;rw[U9] at l;obtain⟨u,hu,ru⟩:=rv.get l.1;rw[hu] at l;have:=D0 l.2;rw[<- this];exact ru
  have a0:∀t∈rs.zip (xs.zip d),∃k,k∈ks/\H t.1=some (.tup (k.map V.int)):=λt ht=>qQX T (j8 ht).1
  letI:NM:=tupNM H ks
  have ak:∀arr:Array Keyed,arr.Perm ((rs.map E2).toArray.zip d.toArray)->gSortedTo arr arr.size->wpAny (model X.prog X.w) A (ksk_tail D false e1 (.ref kS) (SortSt.mk' (tuples' true) arr #[] 7 none)) P E s'->True:=λ_ _ _ _=>trivial;have a1:∀(st:SortSt),(arrOf st).Perm ((rs.map E2).toArray.zip d.toArray)->gSortedTo (arrOf st) (arrOf st).size->failedOf st=none->wpAny (model X.prog X.w) A (ksk_tail D false e1 (.ref kS) st) P E s':=by
   intro st pm so fl;obtain⟨L',p1,p2⟩:=perm_map_inv (X6.mp pm) (rs.zip (xs.zip d)) ez;unfold ksk_tail;dsimp only;refine B12 (B39 gk rfl ?_ (by rw[B8,A0,B16];lia) (D9 _))
   refine B12 (B52 ?_);have gD2:(s'.heap.update kS (G0 λ_=>(#[]:Array Value))).get? D=some (seqObj "list" #[] e1):=(C9 _ _ a7).trans gD;have I2:=Inv.off (h':=s'.heap.update kS (G0 λ_=>(#[]:Array Value))) I fk (λb o hb e=>(C9 _ _ (G4 hb)).trans e);refine B12 (B61 gD2 rfl ?_);have la:(arrOf st).size=d.length:=by
    have:=pm.size_eq;rw[this];simp
    lia
   refine B12 (B39 gD2 rfl ?_ (D9 _) (by simp only[E8,if_false];rw[A26,la,B16];lia))
   simp only[E8,if_false];rw[fl];simp only[bne_self_eq_false,E8,if_false];obtain⟨n2,a9⟩:∃n2,((s'.heap.update kS (G0 λ_=>(#[]:Array Value))).update D (G0 λ_=>(arrOf st).map (·.2))).get? D=some (seqObj "list" ((arrOf st).map (·.2)) n2):=⟨_,get?_update_seq gD2 λ_=>(arrOf st).map (·.2)⟩;have eo:(arrOf st).map (·.2)=(L'.map (·.2.2)).toArray:=by
    apply Array.toList_inj.mp;rw[Array.toList_map,p2,Y9]
    rfl
   rw[show seqObj "list" ((arrOf st).map (·.2)) n2=seqObj "list" (L'.map (·.2.2)).toArray n2 by rw[eo]] at a9
   have I3:=Inv.off (s:={s' with heap:=s'.heap.update kS (G0 λ_=>(#[]:Array Value))}) (h':=(s'.heap.update kS (G0 λ_=>(#[]:Array Value))).update D (G0 λ_=>(arrOf st).map (·.2))) I2 fD (λb o hb e=>(C9 _ _ (G4 hb)).trans e);refine B13 (h H _ (L'.map λt=>(keyH H (.ref t.1),t.2.1)) (L'.map (·.2.2)) n2 I3 sm fD ?_ ?_ ?_ a9)
   ·rw[<- tz];exact p1.map _
   ·rw[J2];have a5:(arrOf st).toList.Pairwise (λa b=>gkv a<=gkv b):=by
     rw[G7];intro i j hi hj aa;have ai:i<(arrOf st).size:=by simpa using hi
     have ab:j<(arrOf st).size:=by simpa using hj
     have a:=so i j (R6 aa) ab;rw[qeE ai,qeE ab] at a;rw[A20,A20];exact a
    rw[p2,J2] at a5;refine a5.imp_of_mem λ{a b} ha hb le=>?_;obtain⟨k1,m1,g1⟩:=a0 a (p1.mem_iff.mp ha);obtain⟨k2,m2,g2⟩:=a0 b (p1.mem_iff.mp hb);have le:qIJ ks (keyH H (.ref a.1))<=qIJ ks (keyH H (.ref b.1)):=le;rw[qJS g1,qJS g2] at le ⊢;dsimp only;rw[<- qRC m2 m1];exact decide_eq_false (by lia)
   ·have:∀L:List (Addr×V×Value),(∀t∈L,RelV t.2.1 t.2.2)->Vals ((L.map λt=>(keyH H (.ref t.1),t.2.1)).map (·.2)) (L.map (·.2.2)):=by
     intro L
     induction L with
     |nil=>intro _;exact .nil
     |cons t L ih=>intro hL;exact .cons (hL t (by simp)) (ih λt ht=>hL t (A9 _ ht))
    exact this L' λt ht=>a8 t (p1.mem_iff.mp ht)
  by_cases a2:d.toArray.size<2
  ·simp only[if_pos a2];refine B12 (B13 ?_);rw[A07];refine B12 (B13 (a1 _ (.refl _) (λi j aa hj=>?_) rfl));have sz:(arrOf (SortSt.mk' general' ((rs.map E2).toArray.zip d.toArray) #[] 7 none)).size<=1:=by
    show((rs.map E2).toArray.zip d.toArray).size<=1;rw[A87]
    lia
   have al:j<(arrOf (SortSt.mk' general' ((rs.map E2).toArray.zip d.toArray) #[] 7 none)).size:=hj;have ij:i=j:=by lia
   rw[ij];exact L7 _
  ·simp only[if_neg a2];rw[B8] at a2;have a3:∀(r:Addr) (t:List Int),H r=some (.tup (t.map V.int))->∃ys:Array Value,IsTup s'.heap r ys/\B19 ys.toList t:=by
    intro r t g;obtain⟨aj,r1,pt,_⟩:=I.tuple (SqT.of g);exact⟨aj.toArray,pt,qFV r1⟩
   have ae:LtOk X.prog X.w A s' (tuples' true):=by
    refine⟨λ{x y Q E} hx hy h=>?_⟩;obtain⟨r1,t1,rfl,g1,m1⟩:=hx;obtain⟨r2,t2,rfl,g2,m2⟩:=hy;obtain⟨ya,i1,j1⟩:=a3 r1 t1 g1;obtain⟨yb,i2,j2⟩:=a3 r2 t2 g2;refine qT6 i1 i2 j1 j2 ?_;have e1:NM.nm (E2 r1)=qIJ ks t1:=by show qIJ ks (keyH H (.ref r1))=_;rw[qJS g1]
    have e2:NM.nm (E2 r2)=qIJ ks t2:=by show qIJ ks (keyH H (.ref r2))=_;rw[qJS g2]
    rw[e1,e2,qRC m1 m2] at h;exact h
   have ik:qCS ((rs.map E2).toArray.zip d.toArray):=λpq hp=>by
    rw[ez] at hp;obtain⟨t,ht,rfl⟩:=D5.mp hp;obtain⟨k,mk,g⟩:=a0 t ht;exact⟨t.1,k,rfl,g,mk⟩
   refine B12 (qVV (rs:=rs) (ts:=ks) (Paired.mapP T λr t g=>a3 r t g) af (by lia) ?_)
   refine B12 (B23 (gwpS_runs (κ0:=tuples' true) (a₀:=(rs.map E2).toArray.zip d.toArray) (Q:=λ_ m=>gSG (tuples' true) ((rs.map E2).toArray.zip d.toArray) m/\gSortedTo (arrOf m) ((rs.map E2).toArray.zip d.toArray).size) (by rw[A87,B8,B8];lia) ik ⟨.refl _,rfl,rfl⟩ rfl λm g u=>⟨g,u⟩) ?_ λ_ _ x=>x)
   rintro⟨_,m⟩ s2 ⟨es,g,u⟩;cases(show s2=_ from es);exact a1 m g.perm (by rw[g.perm.size_eq];exact u) g.failed
theorem qSN (l:Addr) (v:Value):argsOk "sorted" ⟨[.ref l],[(B9 "key",v)]⟩:=by unfold argsOk;kernel_rfl
theorem sortk_call {s:Shared} {H:Hp} (rm:Room 2 X.A) (hA:X.A.in1.in1.frames=some X.stack) (S':LmScope X scope p fv) (t:∀(cl:List (Str×Addr)) (pm cd ct u:Value),B50 (Q5 "<lambda>" q params body scope cl pm cd ct) ⟨[u],[]⟩=pure [(p,u)])
  (he:∀z,PE (lmCx X scope p fv q z) body te) (KA:KeyAt X σ fv te KR1 H xs ks) (hf:H f=some (LamF X q params body scope cc ctv f)) (a4:H cc=some (.tbl (.cod q))) (hl:SqT X.K H l xs\/SqL X.K H l xs) (I:Inv X Ab σ H s) (hz:xs.length<=63) (a9:∀k∈ks,k≠[])
  (hQ:∀(H':Hp) (D:Addr) (zs:List (List Int×V)),Sm0 H H'->H' D=none->zs.Perm (ks.zip xs)->zs.Pairwise (λa b=>HT.lexLt b.1 a.1=false)->Q (.ref D) (Ag H' D (.lst (zs.map (·.2))))):
  wpAny (model X.prog X.w) X.A (call (.builtin "sorted") [.ref l] [(B9 "key",.ref f)]) (EP X Ab σ Q) X.xe s:=by
 refine call_function_entry_kw kind_sorted plain_sorted entry_sorted (qSN _ _) ?_;unfold Builtin.«sorted»;refine B12 (m:=checkCount "sorted" 1 1 _) (B13 ?_);have a3:∃(its:List Value),Vals xs its/\∀(P:List Value->Shared->Prop),(∀h',(∀b o,s.heap.get? b=some o->h'.get? b=some o)->P its {s with heap:=h'})->wpAny (model X.prog X.w) X.A.in1 (collect (.ref l)) P X.xe s:=by
  rcases hl with hl|hl
  ·obtain⟨its,r,⟨o,ho,y,n,hd⟩,a8⟩:=I.tuple hl;refine⟨its,r,λP h=>B44 l (.inr rfl) ho y hd (λh' hk=>h h' hk) ?_⟩;rw[B8,<- r.length,B16]
   lia
  ·obtain⟨its,r,pl,a8⟩:=I.list hl;obtain⟨o,ho,y,n,hd⟩:=pl.isList;refine⟨its,r,λP h=>B44 l (.inl rfl) ho y hd (λh' hk=>h h' hk) ?_⟩;rw[B8,<- r.length,B16]
   lia
 obtain⟨its,r,a7⟩:=a3;have li:=r.length;refine B12 (a7 _ λc k1=>?_);have I1:Inv X Ab σ H {s with heap:=c}:=I.kept (t':=s.toks) k1;refine B12 (B56 ?_ (by show its.length<=_;rw[B16];lia))
 have v:FpOk X Ab H c.objs.size:=I1.fpOk (A7 _) (I1.hok.fresh (A7 _));have g:=I1.sz;have x:(c.push (seqObj "list" its.toArray 0)).get? c.objs.size=some (seqObj "list" its.toArray 0):=B5 _ rfl;have I2:Inv X Ab σ H {s with heap:=c.push (seqObj "list" its.toArray 0)}:=I1.kept (t':=s.toks) λb o e=>A6 _ e;have a0:c.objs.size<(c.push (seqObj "list" its.toArray 0)).objs.size:=C0 x;show wpAny _ _ _ _ _ {s with heap:=c.push (seqObj "list" its.toArray 0)};show wpAny _ _ (B46 [.ref c.objs.size] (call (.builtin "list.sort") [.ref c.objs.size] [(B9 "key",.ref f)]) >>= _) _ _ _;generalize c.push (seqObj "list" its.toArray 0)=h2 at x I2 a0 ⊢;have g:X.s₀.heap.objs.size<=c.objs.size:=g;generalize c.objs.size=D at v g x a0 ⊢;refine B12 (B20 (wpAny_call_entry_kw slot_list_sort ⟨_,x,rfl⟩ B92 ?_ (ksk_l1 _ _)));show wpAny (model X.prog X.w) X.A.in1.in1 (Builtin.«list.sort» ⟨[.ref D],[(B9 "key",.ref f)]⟩) _ _ _;rw[ksk_t1];unfold ksk_tree;refine B12 (listItems_at x rfl ?_);refine B12 (B39 x rfl ?_ (by rw[B8,B16];lia) (D9 _))
 obtain⟨e1,i⟩:∃e1,(h2.update D (G0 λ_=>(#[]:Array Value))).get? D=some (seqObj "list" #[] e1):=⟨_,get?_update_seq x λ_=>#[]⟩;have I3:=Inv.off (h':=h2.update D (G0 λ_=>(#[]:Array Value))) I2 v (λb o hb e=>(C9 _ _ (G4 hb)).trans e);have j:D<(h2.update D (G0 λ_=>(#[]:Array Value))).objs.size:=C0 i;refine B12 (B61 i rfl ?_);generalize h2.update D (G0 λ_=>(#[]:Array Value))=h3 at i I3 j ⊢;refine B12 (wpAny_newTuple ?_ (by show its.length<=_;rw[B16];lia))
 refine B12 (B56 ?_ (D9 _));refine B20 ?_;have a1:(h3.push (seqObj "tuple" its.toArray 0)).objs.size=h3.objs.size+1:=P1 ..;have I4:Inv X Ab σ H {s with heap:=(h3.push (seqObj "tuple" its.toArray 0)).push (seqObj "list" #[] 0)}:=I3.kept (t':=s.toks) λb o e=>A6 _ (A6 _ e);have fk:FpOk X Ab H (h3.push (seqObj "tuple" its.toArray 0)).objs.size:=by rw[a1];exact I3.fpOk (W2 _) (I3.hok.fresh (W2 _))
 refine qSM (kS:=(h3.push (seqObj "tuple" its.toArray 0)).objs.size) (D:=D) (rm.in1.in1) hA S' t he KA hf a4 r (by lia) a9 (by rw[a1];exact R7 (M6 j)) ⟨H,[],0,I4,λ_ _ e=>e,fk,v,B5 _ rfl,A6 _ (A6 _ i),?_⟩ λH' s' zs a5 n I5 sm d pm so a2 a6=>⟨_,rfl,?_⟩
 ·rw[A88];exact .nil
 ·refine B13 ⟨_,rfl,.ref D,Ag H' D (.lst (zs.map (·.2))),I5.track d.1 g d.2.1 d.2.2.2.2.1 d.2.2.2.2.2 ⟨?_,a5,n,a2,a6⟩,rfl,hQ H' D zs sm d.1 pm so⟩;have:=pm.length_eq;rw[A0,this,k9,B16]
  lia
end
end L2.G
namespace L2
open PySem PySem.Spec PyProof.Rows
variable{X:Cx}
theorem SqT.sm {K:PySem.W.Frag}{H H':Hp}{a:Addr}{xs:List V}(h:SqT K H a xs)(b:Sm0 H H'):SqT K H' a xs:=by
 rcases h with(h|⟨o,h⟩)|h
 ·exact .inl (.inl (b _ _ h))
 ·exact .inl (.inr ⟨o,b _ _ h⟩)
 ·exact .inr h
theorem SqL.sm {K:PySem.W.Frag}{H H':Hp}{a:Addr}{xs:List V}(h:SqL K H a xs)(b:Sm0 H H'):SqL K H' a xs:=by
 rcases h with(h|⟨o,h⟩)|h
 ·exact .inl (.inl (b _ _ h))
 ·exact .inl (.inr ⟨o,b _ _ h⟩)
 ·exact .inr h
def qd3 (P:Addr)(K:PySem.W.Frag)(q:Str)(fv:List Nat)(te:TE)(ta:TA):TE:=λσ H Q=>ta σ H λvs H1=>H1 P=some (.tbl (.tab q))/\
 ∃(l:Addr) (xs:List V) (ks:List (List Int)),vs=[.ref l]/\(SqT K H1 l xs\/SqL K H1 l xs)/\xs.length<=63/\ks.length=xs.length/\(∀k∈ks,k≠[])/\(∀(i:Nat) (x:V) (k:List Int),xs[i]?=some x->ks[i]?=some k->∀Hc,Sm0 H1 Hc->te (qGB fv σ x) Hc λy H'=>Sm0 Hc H'/\KR1 H' y k)/\
  ∀(H':Hp) (D:Addr) (zs:List (List Int×V)),Sm0 H1 H'->H' D=none->zs.Perm (ks.zip xs)->zs.Pairwise (λa b=>HT.lexLt b.1 a.1=false)->Q (.ref D) (Ag H' D (.lst (zs.map (·.2))))
theorem qYD {e:Expr}{ta:TA}{np pos kpos j:Pos}{d:B40}{body:Expr}{g:Scope}{c P:Addr}{q:Str}{p:Str}{fv:List Nat}{te:TE}
  (rm:Room 2 X.A) (hg:Gl X "sorted") (hm:X.mg "sorted" = none) (hv:B18 "sorted" = some (.builtin "sorted")) (hb:BM X.mg X.base) (t:X.env.code=.ref c) (hd:hdIn X.K c P=true) (hq:X.env.qual ++ "<lambda>" = q)
  (S:LmScope X g p fv) (v:defaultsOf d X.env=([],[])) (m:∀(cl:List (Str×Addr)) (pm cd ct u:Value),B50 (Q5 "<lambda>" q d body g cl pm cd ct) ⟨[u],[]⟩=pure [(p,u)])
  (ha:PA X [e] ta) (he:∀z,PE (lmCx X g p fv q z) body te) (hs:B17 [e] X.env=[(false,eval e X.env)]:=by rfl):
  PE X (.Call (.Name "sorted" np) [e] [⟨some "key",.Lambda d body g j,kpos⟩] pos) (qd3 P X.K q fv te ta):=by
 intro Ab s σ H Q I h;refine B41 (qG6 I hg hm hv ?_ (by decide) (by decide))
 refine Z1 (thn (ha pos Ab s σ H _ I h) λus s1 ⟨vs,H1,I1,r1,q1⟩=>?_) (by rw[hs];rfl) (by rw[hs];rfl)
 obtain⟨hP,l,xs,ks,rfl,hl,hz,lk,a1,hk,q2⟩:=q1;obtain⟨u,rfl,rx⟩:=qDL r1;cases rx;have C:=qOB (c:=c) (P:=P) I1.ok.mod.kin hd;have pl:=qaC (X:=X) (pos:=j) (body:=body) hb t C hq S v;refine thn (qM7 (kpos:=kpos) (nm:=some "key") pl qUI pos Ab s1 σ H1 (λy w=>∃f cc ctv,y=[.ref f]/\Sm0 H1 w/\w f=some (LamF X q d body g cc ctv f)/\w cc=some (.tbl (.cod q))) I1 ⟨hP,λf cc ctv H' sm h0 hf r=>⟨f,cc,ctv,rfl,sm,hf,r⟩⟩) λws s2 ⟨y,w,I2,rz,f,cc,ctv,ez,sm,hf,r⟩=>?_;subst ez;obtain⟨u2,rfl,r2⟩:=qDL rz;cases r2;have hA:X.A.in1.in1.frames=some X.stack:=I2.ok.frames;exact G.sortk_call (H:=w) rm hA S m he ⟨lk,λi x k hx a0 Hc n=>hk i x k hx a0 Hc λb o e=>n b o (sm b o e)⟩ hf r (hl.imp (λz=>z.sm sm) λz=>z.sm sm) I2 hz a1
  λH' D y n a b c=>q2 H' D y (λb o e=>n b o (sm b o e)) a b c
theorem qdV {K:PySem.W.Frag} {o e:Expr} {es:List Expr} {j:TE} {t:TA} {name:Str} {c a:Pos} {T id:String} {r:V->List V->Hp->VK->Prop} (n:X.K=K) (p:PlainAttrs T) (g:Slot T name id) (i:typeOf (.builtin id)=pure (.type "method_descriptor")) (l:MtR X id r) (k:PE X o j) (m:PA X (e::es) t)
  (d:B70 o name X.env (eval o X.env)=eval o X.env:=by rfl)
  (h:((backTo a (B17 (e::es) X.env)).all (fun x=>!x.1) && (backToKw a (B72 [] X.env)).all (fun x=>x.1.isSome)
   && decide ((e::es).length+([]:List B63).length+(if([]:List B63).isEmpty then 0 else 1)<30))=true:=by rfl)
  (f:(c.endLine==a.line)=true:=by rfl) (q:B17 (e::es) X.env=(false,eval e X.env)::B17 es X.env:=by rfl) (b:(backTo a (B17 es X.env)).any (·.1)=false:=by rfl):
  PE X (.Call (.Attribute o name c) (e::es) [] a) (tBM K T r j t):=by
 subst n;exact qJI p g i l k m d h f q b
structure Clb (P:B15)(w:World)(K:PySem.W.Frag)(mg:Str->Option Value)(base:Heap)(n:Nat)(f:Addr)(fd:B27)(x:Str)(ps:List Str)(sp:Sp):Prop where
 G:FnOk P w K mg base CX0 n f fd ps sp
 b:Binds K fd ps []
 k:Q3 K (.ref f)=true
 m:mg x=some (.ref f)
theorem qAR {X:Cx}{n k:Nat}{f:Addr}{l:B27}{x:Str}{ps:List Str}{sp:Sp}{e:Expr}{es:List Expr}{t:TA}{p pos:Pos}(C:Clb X.prog X.w X.K X.mg X.base n f l x ps sp)(h:Room k X.A)(j:Gl X x)
  (i:PA X (e::es) t) (a:n<=k:=by decide) (c:(x==("__debug__" : Str))=false:=by decide) (g:B17 (e::es) X.env=(false,eval e X.env)::B17 es X.env:=by rfl) (d:(backTo pos (B17 es X.env)).any (·.1)=false:=by rfl):
  PE X (.Call (.Name x p) (e::es) [] pos) (qd9 sp [] E0 t):=qbQ C.G (h.mono a) j C.m C.k C.b .nil qfM i c g d
def qeW (i:Nat)(ta:TA)(sp:Sp):TS:=λD σ H=>ta σ H λvs H1=>sp (vs++[]) H1 (λv H2=>D.nx (σ.set i (some v)) H2) E0
theorem qbJ {X:Cx}{i:Nat}{x d:Str}{a:Expr}{c:List Expr}{y pf g pa pt ph:Pos}{ty:Option Expr}{nm:Option Str}{hb:List Stmt}{ta:TA}{n k:Nat}{f:Addr}{fd:B27}{ps:List Str}{sp:Sp}
  (hN:X.N.Nodup) (hi:X.N[i]?=some x) (hx:Loc X.env.scope x) (C:Clb X.prog X.w X.K X.mg X.base n f fd d ps sp) (hr:Room k X.A) (hg:Gl X d) (ha:PA X.nox (a::c) ta) (l:n<=k:=by decide)
  (hs:swapsWith (.Call (.Name d pf) (a::c) [] g) (some (.Name x y)) pa.line X.env=pure false:=by rfl) (p:X.fn x=true\/X.env.scope.names.lookup x=some .local:=by first|exact .inl rfl|exact .inr rfl|assumption)
  (o:(d==("__debug__" : Str))=false:=by decide)
  (he:B17 (a::c) X.env=(false,eval a X.env)::B17 c X.env:=by rfl) (j:(backTo g (B17 c X.env)).any (·.1)=false:=by rfl):
  PS X (.Try [.Assign [.Name x y] (.Call (.Name d pf) (a::c) [] g) pa] [.ExceptHandler ty nm hb ph] [] [] pt) (qeW i ta sp):=by
 intro Ab s σ H D I h;rw[arm_exec_Try];refine B12 (B69 ?_);refine wpAny_tryStmt_except ?_;refine wpAny_execs_cons ?_;refine wpAny_Assign_Name ?_ hs;refine B41 (qVL I hg C.m ?_ o);refine A43 (h₀:=X.base) I.ok.mod.kin C.k (B23 (ha g Ab s σ H _ (I.wish _) h) (λus s1 ⟨vs,H1,I1,r,q⟩=>?_) λ_ _ z=>z.elim) he j;have I1:=I1.unwish;refine⟨I1.kIn,?_⟩;have r2:Vals (vs++[]) (us++[]):=r.append .nil;have hl:(us++[]).length=ps.length:=by rw[<- r2.length];exact C.G.len _ _ _ _ q
 refine B90 (B43 (C.G.run X.A X.stack s1 H1 ⟨us,[]⟩ (us++[]) (vs++[]) _ _ (hr.mono l) I1.env0 (C.b s1 us I1.kIn hl) r2 q) λt s2 e=>?_);cases t with
 |ok fl=>
  cases fl with
  |ret u=>
   obtain⟨v,H2,I2,rv,q2⟩:=I1.after e;refine qIN I2 hN hi hx rv (λs3 I3=>?_) p;exact B57 (B57 ⟨_,H2,I3,q2⟩)
  |next=>exact R1 e
  |brk=>exact R1 e
  |cont=>exact R1 e
 |error ev=>exact R1 e
def Tf (K:PySem.W.Frag)(x:Str)(s:Stmt)(f:Addr):Prop:=d3 K B24 x=some (some (.ref f))/\∃fd,Fun K x x s f fd
theorem Tf.use {K:PySem.W.Frag}{h:Heap}{mg:Str->Option Value}{x:Str}{s:Stmt}{f:Addr}(X:K.In h)(G:h.Ns B24 mg)(T:Tf K x s f):∃fd,Fun K x x s f fd/\mg x=some (.ref f):=
 let⟨a,fd,F⟩:=T
 ⟨fd,F,u9 X G a⟩
theorem Tf.clb {P:B15}{w:World}{K:PySem.W.Frag}{h base:Heap}{mg:Str->Option Value}{x:Str}{s:Stmt}{f:Addr}{n:Nat}{ps:List Str}{sp:Sp}(X:K.In h)(G:h.Ns B24 mg)(T:Tf K x s f)(a:∀fd,Fun K x x s f fd->FnOk P w K mg base CX0 n f fd ps sp)
  (b:∀(kV doc pm:Value) (an:Option Addr) (cdv ct:Value) (us:List Value),us.length=ps.length->B50 (Q8 x x (qE9 s) (qBC s) (qAA s) .none kV doc pm an cdv ct) ⟨us,[]⟩=pure (ps.zip us)):∃fd,Clb P w K mg base n f fd x ps sp:=
 let⟨fd,F,m⟩:=T.use X G
 ⟨fd,a fd F,F.binds b,F.kp,m⟩
def Zs (K:PySem.W.Frag):List Str->Prop
 |[]=>True
 |x::r=>d3 K B24 x=some none/\Zs K r
def Zm (mg:Str->Option Value):List Str->Prop
 |[]=>True
 |x::r=>mg x=none/\Zm mg r
theorem Zs.mg {K:PySem.W.Frag}{h:Heap}{mg:Str->Option Value}(X:K.In h)(G:h.Ns B24 mg):∀{l:List Str},Zs K l->Zm mg l
 |[],_=>trivial
 |_::_,⟨a,b⟩=>⟨PySem.W.mg_none_of X G a,Zs.mg X G b⟩
theorem qBK {N P:List Str}{a:Scope}(c:a.kind=.function:=by rfl)(b:a.isCoroutine=false:=by rfl)(d:a.isGenerator=false:=by rfl)(h:N.Nodup:=by decide +kernel)(f:N.take P.length=P:=by rfl)(g:∀x∈P,a.names.lookup x=some .local\/a.names.lookup x=some .cell:=by decide +kernel)(e:∀y∈a.names,y.2≠.free:=by decide +kernel):FnScope N P a:=⟨c,b,d,h,f,g,e⟩
section
variable{P:B15}{w:World}{K:PySem.W.Frag}{mg:Str->Option Value}{base:Heap}
theorem Fun.okA {x a:Str}{st:Stmt}{f:Addr}{d:B27}{N ps:List Str}{k:Nat}{sp:Sp}(F:Fun K x a st f d)(S:FnScope N ps (qAA st))
  (b:∀ (cdv:Value) (A:Around) (outer:List Env) (s:Shared) (H:Hp) (vs:List V) (Q:VK) (E:XK),Room k (A.deeper (envOfC a (qAA st) s.heap.objs.size f cdv))->sp vs H Q E->
   ∃t,PSs (cxOf CX0 P w K mg base N a (qAA st) f cdv A outer s H E).nox (qBC st) t/\t {nx:=λ_ H'=>Q .non H',rt:=Q} (start N vs) H)
  (c:∀vs H Q E,sp vs H Q E->vs.length=ps.length:=by intro vs H Q E h;(repeat (obtain⟨_,h⟩:=h));subst_vars;rfl):FnOk P w K mg base CX0 (k+1) f d ps sp:=F.ok S c b
@[elab_as_elim] theorem us5 {α:Type}{P:List α->Prop}(f:List α)(g:f.length=5)(h:∀a b c d e,P [a,b,c,d,e]):P f:=by
 match f,g with
 |[a,b,c,d,e],_=>exact h a b c d e
def Bs (P:B15)(w:World)(base:Heap):Prop:=P=P/\w=w/\base=base
theorem Tf.c {h:Heap}{x:Str}{s:Stmt}{f:Addr}{n:Nat}{ps:List Str}{sp:Sp}(X:K.In h)(G:h.Ns B24 mg)(B:Bs P w base)(T:Tf K x s f)(a:∀fd,Fun K x x s f fd->FnOk P w K mg base CX0 n f fd ps sp)
  (b:∀ (kV doc pm:Value) (an:Option Addr) (cdv ct:Value) (us:List Value),us.length=ps.length->B50 (Q8 x x (qE9 s) (qBC s) (qAA s) .none kV doc pm an cdv ct) ⟨us,[]⟩=pure (ps.zip us):=by
   intro _ _ _ _ _ _ us hl;first|exact us1 us hl (λ_=>rfl)|exact us2 us hl (λ_ _=>rfl)|exact us3 us hl (λ_ _ _=>rfl)|exact us4 us hl (λ_ _ _ _=>rfl)|exact us5 us hl (λ_ _ _ _ _=>rfl)|exact us0 us hl rfl):∃fd,Clb P w K mg base n f fd x ps sp:=T.clb X G a b
end
section
variable{X:Cx}{pos:Pos}
theorem qBR {x:Str}(i:Nat)(a:X.N.Nodup:=by exact qfQ (by kernel_rfl))(hi:X.N[i]?=some x:=by rfl)(b:Loc X.env.scope x:=by exact E1 rfl)(c:X.fn x=true\/X.env.scope.names.lookup x=some .local:=by first|exact .inl rfl|exact .inr rfl|assumption):PG X (.Name x pos) (qZH i):=qAN a hi b c
end
section
variable{prog:B15}{w:World}{A:Around}{E:Value->Shared->Prop}{s:Shared}
theorem qZ1 {a:List Value}{b:List Int}(h:B19 a b):a.length=b.length/\∀(i:Nat) (y:Int),b[i]?=some y->∃tk,a[i]?=some (.int y tk):=by
 induction h with
 |nil=>exact⟨rfl,λi y e=>by simp at e⟩
 |cons n tk hm ih=>
  refine⟨by rw[C3,C3,ih.1],λi y e=>?_⟩
  cases i with
  |zero=>cases e;exact⟨_,rfl⟩
  |succ i=>exact ih.2 i y e
theorem qII {t:Addr}{a:Array Value}{b:List Int}{x:Int}{u:Tok}{j:Nat}{Q:Value->Shared->Prop}(ht:IsTup s.heap t a)(hi:B19 a.toList b)(l:b[j]?=some x)(z:∀i,i<j->b[i]?≠some x)
  (h:Q (.int j s.toks) {s with toks:=s.toks+1}):wpAny (model prog w) A (Builtin.«tuple.index» ⟨[.ref t,.int x u],[]⟩) (λfin s'=>∃v,fin=.done (.ret v)/\Q v s') E s:=by
 obtain⟨q,hg⟩:=qZ1 hi;have n:a.size=b.length:=by simpa using q
 have a0:j<a.size:=by rw[n];exact(A3.mp l).1
 show wpAny _ _ (Builtin.Tuple.tupleItemsOf (.ref t) >>= _) _ _ s;refine B12 (tupleItemsOf_ ht ?_);refine B12 (B13 ?_);refine B12 (B13 ?_);refine B12 ?_;rw[A15];have en:(A09 [0:min a.size a.size])=a.size:=by simp[A09]
 rw[en];refine wpAny_forIn_list _ (λc r s'=>r.1=none/\s'=s/\∃i,c=List.range' i (a.size-i) 1/\i<=j) _ ?_ ?_ _ _ ⟨rfl,rfl,0,by simp,D9 _⟩
 ·rintro y c r s' ⟨hr,rfl,i,e,hij⟩;obtain⟨m,hm⟩:∃m,a.size-i=m+1:=⟨a.size-i-1,by lia⟩
  rw[hm,List.range'_succ] at e
  injection e with e1 e2
  subst e1;have d:y<b.length:=by lia
  obtain⟨tk,k⟩:=hg y _ (A4 d);have o:a[y]?=some (.int b[y] tk):=by simpa using k
  dsimp only;rw[o];dsimp only;refine B12 (wpAny_eqBool_int ?_);by_cases g:b[y]=x
  ·have p:y=j:=by
    by_cases f:y<j
    ·exact absurd (by rw[A4 d,g]) (z y f)
    ·lia
   subst p;rw[show(b[y]==x)=true from by rw[g];exact beq_self_eq_true _]
   refine B12 (B12 (wpAny_mkInt (B13 ?_)));exact B13 (B13 ⟨_,rfl,h⟩)
  ·rw[show(b[y]==x)=false from by simpa using g]
   refine B13 ⟨rfl,rfl,y+1,by rw[e2];congr 1;lia,?_⟩
   rcases Nat.lt_or_ge y j with f|hge
   ·exact f
   ·have:y=j:=by lia
    subst this;rw[A4 d] at l;exact absurd (D0 l) g
 ·rintro⟨b1,b2⟩ s' ⟨hb,rfl,i,e,hij⟩;have:(List.range' i (a.size-i) 1).length=0:=by rw[<- e];rfl
  rw[List.length_range'] at this
  lia
end
def qRD (K:PySem.W.Frag):V->List V->Hp->VK->Prop:=λx vs H Q=>∃(a:Addr) (ys:List Int) (y:Int) (j:Nat),x=.ref a/\vs=[.int y]/\SqT K H a (ys.map V.int)/\ys[j]?=some y/\(∀i,i<j->ys[i]?≠some y)/\Q (.int j) H
theorem qT0:MtR X "tuple.index" (qRD X.K):=by
 intro l s σ H x m v n Q I e c h;obtain⟨a,o,y,j,rfl,rfl,f,g,i,q⟩:=h;cases e;obtain⟨u,rfl,d⟩:=c.one;obtain⟨t,rfl⟩:=d;obtain⟨k,r,b,z⟩:=I.tuple f;refine B30 F.slot_tuple_index b.typeIs F.entry_tuple_index (qII b (qFV (by simpa using r)) g i ?_) (F.args_tuple_index_2 _ _)
 exact⟨.int j,H,I.tok _,⟨_,rfl⟩,q⟩
theorem qPQ {K:PySem.W.Frag} (a:X.K=K):MtR X "tuple.index" (qRD K):=by
 subst a;exact qT0
def tBMT (r:V->List V->Hp->VK->Prop)(to:TE)(t:TA):TE:=λσ H Q=>to σ H λx H1=>(∃a xs,x=.ref a/\BareT H1 a xs)/\t σ H1 λxs H2=>r x xs H2 Q
theorem qdU {o e:Expr} {es:List Expr} {q:TE} {t:TA} {name:Str} {f c:Pos} {id:String} {r:V->List V->Hp->VK->Prop} (pa:PlainAttrs "tuple") (l:Slot "tuple" name id) (n:typeOf (.builtin id)=pure (.type "method_descriptor")) (hm:MtR X id r) (y:PE X o q) (ha:PA X (e::es) t)
  (i:B70 o name X.env (eval o X.env)=eval o X.env:=by rfl)
  (j:((backTo c (B17 (e::es) X.env)).all (fun x=>!x.1) && (backToKw c (B72 [] X.env)).all (fun x=>x.1.isSome)
   && decide ((e::es).length+([]:List B63).length+(if([]:List B63).isEmpty then 0 else 1)<30))=true:=by rfl)
  (g:(f.endLine==c.line)=true:=by rfl) (hs:B17 (e::es) X.env=(false,eval e X.env)::B17 es X.env:=by rfl) (d:(backTo c (B17 es X.env)).any (·.1)=false:=by rfl):
  PE X (.Call (.Attribute o name f) (e::es) [] c) (tBMT r q t):=by
 intro p s σ H Q I h;refine wpAny_Call_method_late i j g rfl (thn (y p s σ H _ I h) λv s1 ⟨x,H1,I1,r1,ty,q1⟩=>?_);obtain⟨a,xs,rfl,m,hq,hc,z⟩:=ty;cases r1;obtain⟨k,_⟩:=(show ObjOk X.prog X.w H1 s1.heap a (.frz m (.tup xs)) from I1.hok a _ hq);refine⟨"tuple",id,pa,l,n,⟨m,k,hc⟩,λb e=>?_,?_⟩
 ·cases e;exact⟨m,k,z⟩
 have u:=ha c p s1 σ H1 _ I1 q1;rw[hs] at u ⊢;refine W8 (by show(false||(backTo c (B17 es X.env)).any (·.1))=false;rw[d]<;>rfl) (f9 ?_)
 exact thn u λus s2 ⟨vs,H2,I2,r2,q2⟩=>hm p s2 σ H2 (.ref a) vs (.ref a) us Q I2 rfl r2 q2
theorem Rd.same {H H':Hp}{a:Addr}{u:HO}(h:Rd H a u)(s:∀b o,H b=some o->H' b=some o):Rd H' a u:=by
 rcases h with h|⟨o,h⟩
 ·exact .inl (s _ _ h)
 ·exact .inr ⟨o,s _ _ h⟩
end L2
namespace Fw
open PySem L2
theorem qBD:B18 "len" = some (.builtin "len"):=by decide +kernel
theorem qX6:B18 "min" = some (.builtin "min"):=by decide +kernel
theorem qS7:B18 "max" = some (.builtin "max"):=by decide +kernel
theorem qD0:B18 "sorted" = some (.builtin "sorted"):=by decide +kernel
theorem qX7:B18 "divmod" = some (.builtin "divmod"):=by decide +kernel
theorem qOH:B18 "all" = some (.builtin "all"):=by decide +kernel
theorem qB3:B18 "isinstance" = some (.builtin "isinstance"):=by decide +kernel
theorem qS8:B18 "int" = some (.type "int"):=by decide +kernel
theorem qX9:B18 "bool" = some (.type "bool"):=by decide +kernel
theorem qaW:B18 "str" = some (.type "str"):=by decide +kernel
theorem qK9:B18 "list" = some (.type "list"):=by decide +kernel
theorem qAU:B18 "tuple" = some (.type "tuple"):=by decide +kernel
theorem qaX:B18 "set" = some (.type "set"):=by decide +kernel
theorem qZW:B18 "range" = some (.type "range"):=by decide +kernel
theorem qE2:B18 "enumerate" = some (.type "enumerate"):=by decide +kernel
structure StAt (H:Hp)(d c:Addr)(t:Int)(ns:List Int):Prop where
 dict:H d=some (.dK [(L9 "cells",.ref c),(L9 "turn",.int t)])
 list:H c=some (.lst (ns.map V.int))
 ne:0<ns.length
 len:ns.length<=63
 pos:0<=t
def Keep (d c:Addr)(H H':Hp):Prop:=∀b o,H b=some o->b≠d->b≠c->H' b=some o
theorem Keep.trans {d c:Addr}{H H1 H2:Hp}(a:Keep d c H H1)(b:Keep d c H1 H2):Keep d c H H2:=λx o h n m=>b x o (a x o h n m) n m
theorem Keep.of_same {d c:Addr}{H H':Hp}(h:Same H H'):Keep d c H H':=λb o e _ _=>h b o e
theorem qA2 {H:Hp}{p:Addr}(h:H p=none)(o:HO):Same H (Ag H p o):=λb u q=>by rw[qA8 (qA6 q h)];exact q
theorem qDG {d c:Addr}{H:Hp}{p:Addr}(h:H p=none)(o:HO):Keep d c H (Ag H p o):=.of_same (qA2 h o)
theorem StAt.ndc {H:Hp}{d c:Addr}{t:Int}{ns:List Int}(S:StAt H d c t ns):d≠c:=qCC S.dict S.list (by intro z;cases z)
theorem StAt.same {H H':Hp}{d c:Addr}{t:Int}{ns:List Int}(S:StAt H d c t ns)(h:Same H H'):StAt H' d c t ns:=⟨h _ _ S.dict,h _ _ S.list,S.ne,S.len,S.pos⟩
theorem StAt.new {H:Hp}{d c p:Addr}{t:Int}{ns:List Int}(S:StAt H d c t ns)(h:H p=none)(o:HO):StAt (Ag H p o) d c t ns:=S.same (qA2 h o)
theorem s_cs:¬(B9 "cells" = B9 "turn"):=by decide +kernel
theorem s_ct:¬((L9 (B9 "cells"):Key)=L9 (B9 "turn")):=λh=>s_cs (B08 h)
theorem qcJ {H:Hp} {d c:Addr} {t:Int} {ns:List Int} (S:StAt H d c t ns):DGet H d (.str "turn") (some (.int t)):=by
 have h:=DGet.k (k:=L9 "turn") S.dict;rw[qB9 s_ct,qBG rfl] at h;exact h
theorem qMR {H:Hp} {d c:Addr} {t:Int} {ns:List Int} (S:StAt H d c t ns):DGet H d (.str "cells") (some (.ref c)):=by
 have h:=DGet.k (k:=L9 "cells") S.dict;rw[qBG rfl] at h;exact h
theorem qY8 (c:Addr) (t u:Int):putK [((L9 "cells" : Key),V.ref c),(L9 "turn",V.int t)] (L9 "turn") (V.int u)=[((L9 "cells" : Key),V.ref c),(L9 "turn",V.int u)]:=by
 unfold putK;simp[s_cs]
theorem qcF {H:Hp} {d c:Addr} {t u:Int} {ns:List Int} (S:StAt H d c t ns):DPut H d (.str "turn") (.int u) (Ag H d (.dK [(L9 "cells",.ref c),(L9 "turn",.int u)])):=by
 have h:=DPut.k (k:=L9 "turn") (v:=.int u) S.dict (by rw[B16];exact(by decide:2<16777216))
 rw[qY8] at h;exact h
theorem StAt.turn {H:Hp} {d c:Addr} {t u:Int} {ns:List Int} (S:StAt H d c t ns) (h:0<=u):StAt (Ag H d (.dK [(L9 "cells",.ref c),(L9 "turn",.int u)])) d c u ns:=
 ⟨qA1,by rw[qA8 (G4 S.ndc)];exact S.list,S.ne,S.len,h⟩
theorem StAt.put {H:Hp}{d c:Addr}{t:Int}{ns a:List Int}(S:StAt H d c t ns)(h:a.length=ns.length):StAt (Ag H c (.lst (a.map V.int))) d c t a:=
 ⟨by rw[qA8 S.ndc];exact S.dict,qA1,by rw[h];exact S.ne,by rw[h];exact S.len,S.pos⟩
abbrev TB:Int:=1000000000
def qKW:Sp:=λvs H Q _=>∃d c t ns m,vs=[.ref d,.int m]/\StAt H d c t ns/\t<=TB/\1<=m/\m<=1000000/\∀k ns' H',0<=k->k<m->StAt H' d c (t+1) ns'->Keep d c H H'->Q (.int k) H'
def qU6 (K:PySem.W.Frag):Sp:=λvs H Q _=>∃(a:Addr) (ns:List Int),vs=[.ref a]/\SqL K H a (ns.map V.int)/\ns.length<=63/\∀d c ms H',StAt H' d c 0 ms->Same H H'->H d=none->H c=none->Q (.ref d) H'
noncomputable def cutI {α:Type}(xs:List α)(lo hi:Option Int):List α:=(xs.drop (HT.sIx xs.length 0 lo)).take (HT.sIx xs.length xs.length hi-HT.sIx xs.length 0 lo)
theorem qMS {α:Type}(f:α->V)(xs:List α)(lo hi:Option Int):cutV (xs.map f) lo hi=(cutI xs lo hi).map f:=by
 unfold cutV cutI;rw[A0,<- List.map_drop,<- List.map_take]
theorem qZU {α:Type}(xs:List α)(lo hi:Option Int):(cutI xs lo hi).length<=xs.length:=by
 unfold cutI;rw[C4,T9]
 lia
theorem qaH (c:Addr) (t:Int):qG5 [] [((L9 (B9 "cells"):Key),V.ref c),(L9 (B9 "turn"),V.int t)]=[((L9 (B9 "cells"):Key),V.ref c),(L9 (B9 "turn"),V.int t)]:=by
 unfold qG5;simp only[Q9,A83];unfold putK;simp[s_cs]
theorem qQ2 {xs:List V}{j:Nat}(h:j<xs.length):ixN xs.length (j:Int)=some j:=by
 unfold ixN;rw[if_pos (by lia),if_pos (by lia),D2]
def qfA (K:PySem.W.Frag):Sp:=λvs H Q _=>∃(a:Addr) (ns:List Int),vs=[.ref a]/\SqL K H a (ns.map V.int)/\ns.length<=63/\∀H',Q (.bl true) H'
theorem cut {t u:TS}{D:Ends}{σ:St}{H:Hp}(h:∀N:St->Hp->Prop,(∀σ H,u D σ H->N σ H)->t {D with nx:=N} σ H):tSeq t u D σ H:=h _ λ_ _ z=>z
theorem opq {A:Prop}(h:∀G:Prop,(A->G)->G):A:=h A id
structure Rise (k:Int)(zs:List Int):Prop where
 up:zs.Pairwise (·<·)
 in_:∀x∈zs,0<=x/\x<k
theorem Rise.nil {k:Int}:Rise k []:=⟨.nil,λ_ h=>nomatch h⟩
theorem Rise.mono {j k:Int}{zs:List Int}(h:Rise j zs)(l:j<=k):Rise k zs:=⟨h.up,λx a=>⟨(h.in_ x a).1,by have:=(h.in_ x a).2;lia⟩⟩
theorem Rise.sub {k:Int}{zs a:List Int}(h:Rise k zs)(s:a.Sublist zs):Rise k a:=⟨h.up.sublist s,λx b=>h.in_ x (s.subset b)⟩
theorem Rise.snoc {k:Int}{zs:List Int}(h:Rise k zs)(e:0<=k):Rise (k+1) (zs++[k]):=by
 refine⟨g9.mpr ⟨h.up,P4 _ _,λa c b d=>?_⟩,λx hx=>?_⟩
 ·rw[A5.mp d];exact(h.in_ a c).2
 ·rcases B4.mp hx with hx|hx
  ·have:=h.in_ x hx;lia
  ·rw[A5.mp hx];lia
theorem Rise.shift {k j:Int}{zs:List Int}(h:Rise k zs)(g:0<=j):Rise (k+j) (zs.map (·+j)):=by
 refine⟨J2.mpr (h.up.imp λ{a b} d=>by lia),λx c=>?_⟩
 obtain⟨y,f,e⟩:=D5.mp c;have:=h.in_ y f
 lia
theorem Rise.nodup {k:Int}{zs:List Int}(h:Rise k zs):zs.Nodup:=h.up.imp λ{a b} c=>by lia
theorem Rise.len {zs:List Int}{k:Nat}(h:Rise (k:Int) zs):zs.length<=k:=by
 have a:zs ⊆ (G8 k).map λ(i:Nat)=>(i:Int):=λx b=>by
  have:=h.in_ x b;exact D5.mpr ⟨x.toNat,G3.mpr (by lia),by lia⟩
 have:=V7 h.nodup a;simpa using this
theorem mem_addI {zs:List Int}{k x:Int}:x∈addI zs k↔x∈zs\/x=k:=by
 unfold addI
 split
 ·rename_i h
  constructor
  ·exact .inl
  ·rintro(z|rfl)
   ·exact z
   ·exact h
 ·simp
theorem qbW {zs:List Int}{k:Int}(h:zs.Nodup):(addI zs k).Nodup:=by
 unfold addI
 split
 ·exact h
 ·rename_i hk
  exact qJN h hk
theorem qWT:∀(l zs:List Int),zs.Nodup->(l.foldl addI zs).Nodup/\∀x,x∈l.foldl addI zs↔x∈zs\/x∈l
 |[],zs,h=>⟨h,λx=>by simp⟩
 |k::r,zs,h=>by
  obtain⟨a,b⟩:=qWT r (addI zs k) (qbW h);refine⟨a,λx=>?_⟩;rw[Q9,b x,mem_addI,B7,or_assoc]
theorem qTK (l:List Int):(dedI l).Nodup:=(qWT l [] .nil).1
theorem mem_dedI {l:List Int}{x:Int}:x∈dedI l↔x∈l:=by
 have:=(qWT l [] .nil).2 x;unfold dedI;rw[this];simp
theorem qS2 (l:List Int):(dedI l).length<=l.length:=by
 have:=qE6 l [];simpa[dedI] using this
theorem qF6 {zs:List Int}(e:zs.Pairwise (·<=·))(d:zs.Nodup):zs.Pairwise (·<·):=by
 have c:zs.Pairwise (λa b=>a<=b/\a≠b):=List.pairwise_and_iff.mpr ⟨e,d⟩;exact c.imp λ{a b} ⟨x,y⟩=>by lia
theorem qRA {k:Int}{a zs:List Int}(b:zs.Perm (dedI a))(d:zs.Pairwise (·<=·))(h:∀x∈a,0<=x/\x<k):Rise k zs:=
 ⟨qF6 d (b.nodup_iff.mpr (qTK a)),λx c=>h x (mem_dedI.mp (b.mem_iff.mp c))⟩
noncomputable def qC6 (lo hi:Int):List Int:=(G8 (hi-lo).toNat).map λ(i:Nat)=>lo+i
theorem qP6 (lo hi:Int):qI6 lo hi=(qC6 lo hi).map V.int:=by
 unfold qI6 qC6;rw[Y9]
 rfl
theorem mem_rangeI {lo hi x:Int}:x∈qC6 lo hi↔lo<=x/\x<hi:=by
 unfold qC6;rw[D5]
 constructor
 ·rintro⟨i,a,e⟩;have:=G3.mp a
  lia
 ·intro h;exact⟨(x-lo).toNat,G3.mpr (by lia),by lia⟩
theorem qKX (lo hi:Int):(qC6 lo hi).length=(hi-lo).toNat:=by unfold qC6;simp
theorem qEB (lo hi:Int):(qC6 lo hi).Pairwise (·<·):=by
 unfold qC6;exact J2.mpr (z8.imp λ{a b} h=>by lia)
theorem qP7 {lo hi:Int}(h:0<=lo):Rise hi (qC6 lo hi):=⟨qEB _ _,λx a=>by have:=mem_rangeI.mp a;lia⟩
theorem qWZ {α:Type}(xs:List α)(k:Nat)(h:k<=xs.length):cutI xs (some (k:Int)) none=xs.drop k:=by
 unfold cutI;rw[HT.sIx_nat,HT.sIx_none,A77 h];exact E7 (by rw[T9];exact A7 _)
theorem qcL {α:Type}(xs:List α)(k:Nat):cutI xs none (some (k:Int))=xs.take k:=by
 unfold cutI;rw[HT.sIx_nat,HT.sIx_none,List.drop_zero,Nat.sub_zero];rcases Nat.le_total k xs.length with h|h
 ·rw[A77 h]
 ·rw[Nat.min_eq_right h,E7 h,E7 (A7 _)]
abbrev NetL (H:Hp):List Addr->List (List Int)->Prop:=Paired λr zs=>H r=some (.tup (zs.map V.int))
theorem NetL.keep {d c:Addr}{H H':Hp}{rs:List Addr}{Ae:List (List Int)}(h:NetL H rs Ae)(a:∀r zs,H r=some (.tup zs)->r≠d/\r≠c)(k:Keep d c H H'):NetL H' rs Ae:=by
 induction h with
 |nil=>exact .nil
 |cons r t ih=>exact .cons (k _ _ r (a _ _ r).1 (a _ _ r).2) ih
theorem NetL.same {H H':Hp}{rs:List Addr}{Ae:List (List Int)}(h:NetL H rs Ae)(k:∀r zs,H r=some (.tup zs)->H' r=some (.tup zs)):NetL H' rs Ae:=by
 induction h with
 |nil=>exact .nil
 |cons r t ih=>exact .cons (k _ _ r) ih
theorem NetL.get {H:Hp}:∀{rs:List Addr} {Ae:List (List Int)} {i:Nat} {zs:List Int},NetL H rs Ae->Ae[i]?=some zs->∃r,rs[i]?=some r/\H r=some (.tup (zs.map V.int))
 |_,_,_,_,.nil,e=>by simp at e
 |_,_,0,_,.cons r _,e=>by simp at e;subst e;exact⟨_,rfl,r⟩
 |_,_,i+1,zs,.cons _ t,e=>by
  obtain⟨r,h1,h2⟩:=NetL.get (i:=i) (zs:=zs) t (by simpa using e)
  exact⟨r,by simpa using h1,h2⟩
def NetAt (H:Hp)(a:Addr)(Ae:List (List Int)):Prop:=∃rs:List Addr,H a=some (.tup (rs.map V.ref))/\NetL H rs Ae
theorem StAt.tup {H:Hp}{d c:Addr}{t:Int}{ns:List Int}(S:StAt H d c t ns){r:Addr}{zs:List V}(h:H r=some (.tup zs)):r≠d/\r≠c:=
 ⟨qCC h S.dict (by intro z;cases z),qCC h S.list (by intro z;cases z)⟩
theorem NetAt.keep {H H':Hp}{d c:Addr}{t:Int}{ns:List Int}(S:StAt H d c t ns){a:Addr}{Ae:List (List Int)}(h:NetAt H a Ae)(k:Keep d c H H'):NetAt H' a Ae:=by
 obtain⟨g,b,f⟩:=h;exact⟨g,k _ _ b (S.tup b).1 (S.tup b).2,f.keep (λr i e=>S.tup e) k⟩
theorem NetAt.same {H H':Hp}{a:Addr}{Ae:List (List Int)}(h:NetAt H a Ae)(k:Same H H'):NetAt H' a Ae:=by
 obtain⟨c,d,b⟩:=h;exact⟨c,k _ _ d,b.same λr f e=>k _ _ e⟩
theorem NetAt.len {H:Hp}{rs:List Addr}{Ae:List (List Int)}(h:NetL H rs Ae):rs.length=Ae.length:=B6 h
def WFn (Ae:List (List Int)):Prop:=∀(i:Nat) zs,Ae[i]?=some zs->Rise (i:Int) zs
theorem WFn.snoc {Ae:List (List Int)}{zs:List Int}(h:WFn Ae)(b:Rise (Ae.length:Int) zs):WFn (Ae++[zs]):=by
 intro i a e;rcases c5 i Ae.length with l|l|l
 ·rw[F6 l] at e;exact h i a e
 ·subst l;simp at e;subst e;exact b
 ·rw[O7 (by rw[A8,B3];lia)] at e
  cases e
theorem WFn.nil:WFn []:=λi a e=>by simp at e
theorem qC1 {α β:Type}{F:α->β->Prop}{a:α}{b:β}{l₁:List α}{l₂:List β}(h:Paired F l₁ l₂)(r:F a b):Paired F (l₁++[a]) (l₂++[b]):=T3 h r
def qLS:Sp:=λvs H Q _=>∃d c t ns k,vs=[.ref d,.int k]/\StAt H d c t ns/\t<=TB-20/\0<=k/\k<=63/\
 ∀r zs t' ns' H',StAt H' d c t' ns'->t<=t'->t'<=t+9->Keep d c H H'->H' r=some (.tup (zs.map V.int))->Rise k zs->Q (.ref r) H'
def qdB:Sp:=λvs H Q _=>∃d c t ns m,vs=[.ref d,.int m]/\StAt H d c t ns/\t<=TB-10000/\1<=m/\m<=63/\
 ∀a Ae t' ns' H',StAt H' d c t' ns'->t<=t'->t'<=t+10*m+10->Keep d c H H'->NetAt H' a Ae->WFn Ae->(Ae.length:Int)=m->Q (.ref a) H'
theorem qfL {a b k:Int}(c:0<=k)(d:k<4):∃v,atI [V.int a,V.int b] (k/3)=some (.int v)/\(v=a\/v=b):=by
 rcases(by lia:k=0\/k=1\/k=2\/k=3) with rfl|rfl|rfl|rfl
 ·exact⟨a,rfl,.inl rfl⟩
 ·exact⟨a,rfl,.inl rfl⟩
 ·exact⟨a,rfl,.inl rfl⟩
 ·exact⟨b,rfl,.inr rfl⟩
theorem qfK {k:Int}(a:0<=k)(b:k<6):∃v,atI [V.int 0,V.int 0,V.int 1,V.int 2,V.int 2,V.int 3] k=some (.int v)/\0<=v/\v<=3:=by
 rcases(by lia:k=0\/k=1\/k=2\/k=3\/k=4\/k=5) with rfl|rfl|rfl|rfl|rfl|rfl
 all_goals exact⟨_,rfl,by decide,by decide⟩
theorem qAB {H Hc:Hp}{p:Addr}{o:HO}(h:Same H Hc)(a:H p=none):Same H (Ag Hc p o):=λb u e=>by rw[qA8 (qA6 e a)];exact h b u e
theorem qIW {d c:Addr}{H Hc:Hp}{p:Addr}{o:HO}(h:Keep d c H Hc)(a:H p=none):Keep d c H (Ag Hc p o):=λb u e f g=>by rw[qA8 (qA6 e a)];exact h b u e f g
theorem qDE {H:Hp}{p:Addr}{xs:List V}{o:HO}{rs:List Addr}{Ae:List (List Int)}(h:NetL H rs Ae)(a:H p=some (.lst xs)):NetL (Ag H p o) rs Ae:=
 h.same λr b e=>by rw[qA8 (qCC e a (by intro z;cases z))];exact e
theorem qB2 (rs:List Addr)(r:Addr):rs.map V.ref++[V.ref r]=(rs++[r]).map V.ref:=by rw[B0];rfl
theorem qdJ (b:Bool)(x:Int):(D4 (if b=true then(1:Int) else 0).toNat [V.int x]).flatten=(if b=true then[x] else[]).map V.int:=by cases b<;>rfl
theorem qAQ {α β:Type}{F:α->β->Prop}:∀{l₁:List α} {l₂:List β} {i:Nat} {a:α},Paired F l₁ l₂->l₁[i]?=some a->∃b,l₂[i]?=some b/\F a b
 |_,_,_,_,.nil,e=>by simp at e
 |_,_,0,_,.cons r _,e=>by simp at e;subst e;exact⟨_,rfl,r⟩
 |_,_,i+1,a,.cons _ t,e=>by
  obtain⟨b,h1,h2⟩:=qAQ (i:=i) (a:=a) t (by simpa using e)
  exact⟨b,by simpa using h1,h2⟩
theorem qEC {α β:Type}{F G:α->β->Prop}{l₁:List α}{l₂:List β}(h:Paired F l₁ l₂)(k:∀a b,F a b->G a b):Paired G l₁ l₂:=by
 induction h with
 |nil=>exact .nil
 |cons r t ih=>exact .cons (k _ _ r) ih
theorem qBZ {rs:List Addr}{i:Nat}{x:V}(h:(rs.map V.ref)[i]?=some x):∃r,rs[i]?=some r/\x=.ref r:=by
 rw[C1] at h;cases e:rs[i]? with
 |none=>rw[e] at h;cases h
 |some r=>rw[e] at h;exact⟨r,rfl,(D0 h).symm⟩
theorem qB1 {zs:List Int}{i:Nat}{x:V}(h:(zs.map V.int)[i]?=some x):∃z,zs[i]?=some z/\x=.int z:=by
 rw[C1] at h;cases e:zs[i]? with
 |none=>rw[e] at h;cases h
 |some r=>rw[e] at h;exact⟨r,rfl,(D0 h).symm⟩
theorem qR4 {α:Type}{l:List α}{a b:α}{j:Nat}(h:(l++[a])[j]?=some b):l[j]?=some b\/(j=l.length/\b=a):=by
 rcases c5 j l.length with z|z|z
 ·rw[F6 z] at h;exact .inl h
 ·subst z;simp at h;exact .inr ⟨rfl,h.symm⟩
 ·rw[O7 (by rw[A8,B3];lia)] at h
  cases h
theorem qGD (a:Int)(zs:List Int):inV (.int a) (zs.map V.int)=decide (a∈zs):=by
 unfold inV
 induction zs with
 |nil=>simp
 |cons z r ih=>
  rw[C7,X4,ih];have e:eqV (.int z) (.int a)=decide (a=z):=by
   by_cases h:z=a
   ·subst h;simp[eqV]
   ·have b:¬a=z:=λq=>h q.symm;simp[eqV,h,b]
  rw[e];simp[B7]
theorem qDP (zs:List Int):(zs.map V.int).all qMI=true:=by
 rw[O5];intro x a;obtain⟨z,_,rfl⟩:=D5.mp a
 rfl
noncomputable def qCV (ns st:List Int) (Aa wk:Int):V:=if wk∈st then .str "there" else if∀x∈ns,x∈st then(if Aa<=(st.length:Int) then .str "full" else .non) else .str "needs"
noncomputable def qCW (st:List Int) (wk:Int):V:=if wk∈st then .non else .str "empty"
def qNA:Sp:=λvs H Q _=>∃(a s:Addr) (Ae:List (List Int)) (st ns:List Int) (Aa wk:Int),vs=[.ref a,.int Aa,.ref s,.int wk]/\NetAt H a Ae/\H s=some (.tup (st.map V.int))/\st.length<=63/\0<=wk/\Ae[wk.toNat]?=some ns/\
 ∀H',Same H H'->Q (qCV ns st Aa wk) H'
noncomputable def qCD (ns st:List Int) (Aa:Int) (Ac:Str) (wk:Int):V:=if Ac = "do" then qCV ns st Aa wk else qCW st wk
def qJ9:Sp:=λvs H Q _=>∃(a s mv:Addr) (Ae:List (List Int)) (st ns:List Int) (Aa wk:Int) (Ac:Str),vs=[.ref a,.int Aa,.ref s,.ref mv]/\NetAt H a Ae/\H s=some (.tup (st.map V.int))/\st.length<=63/\H mv=some (.tup [.str Ac,.int wk])/\(Ac = "do"\/Ac = "clear")/\0<=wk/\Ae[wk.toNat]?=some ns/\ns.length<=63/\
 ∀H',Same H H'->Q (qCD ns st Aa Ac wk) H'
theorem qJ3 (ns st:List Int)(Aa:Int)(Ac:Str)(a:Int):qCD ns st Aa Ac a=.non\/∃y,qCD ns st Aa Ac a=.str y:=by
 unfold qCD qCV qCW
 split
 ·split
  ·exact .inr ⟨_,rfl⟩
  ·split
   ·split
    ·exact .inr ⟨_,rfl⟩
    ·exact .inl rfl
   ·exact .inr ⟨_,rfl⟩
 ·split
  ·exact .inl rfl
  ·exact .inr ⟨_,rfl⟩
theorem qAF:¬(B9 "clear" = B9 "do"):=by decide +kernel
theorem qCY {xs:List V}{i:Int}{x:V}(a:0<=i)(h:xs[i.toNat]?=some x):atI xs i=some x:=by
 have e:i=((i.toNat:Nat):Int):=by lia
 rw[e];exact qXE (by simpa using h)
theorem NetAt.get {H:Hp}{a:Addr}{Ae:List (List Int)}{ns:List Int}{i:Nat}(h:NetAt H a Ae)(e:Ae[i]?=some ns):∃(rs:List Addr) (r:Addr),H a=some (.tup (rs.map V.ref))/\rs.length=Ae.length/\(rs.map V.ref)[i]?=some (.ref r)/\H r=some (.tup (ns.map V.int)):=by
 obtain⟨rs,f,b⟩:=h;obtain⟨r,c,d⟩:=b.get e;exact⟨rs,r,f,B6 b,by rw[C1,c];rfl,d⟩
def qf3 (t:TS):TS:=λD σ H=>∃Pm:St->Hp->Prop,t {D with nx:=Pm} σ H/\∀σ' H',Pm σ' H'->D.nx σ' H'
theorem qbK {X:Cx}{st:Stmt}{t:TS}(h:PS X st t):PS X st (qf3 t):=by
 intro b s σ H D I g;obtain⟨j,c,a⟩:=g;refine thn (h b s σ H _ I c) λf i q=>?_;cases f with
 |next=>obtain⟨σ',e,d,q⟩:=q;exact⟨σ',e,d,a _ _ q⟩
 |brk=>exact q
 |cont=>exact q
 |ret u=>exact q
theorem qLP {ns st:List Int}{i:Nat}{z:Int}(a:ns[i]?=some z):((ns.take i).map λx=>decide (x∈st)).map V.bl++[V.bl (decide (z∈st))]=((ns.take (i+1)).map λx=>decide (x∈st)).map V.bl:=by
 rw[C6,a,C8,B0,B0]
 rfl
theorem all_in {ns st:List Int}:(((ns.map λx=>decide (x∈st)).all id)=true)↔∀x∈ns,x∈st:=by
 rw[O5]
 constructor
 ·intro h x a;have:=h _ (D5.mpr ⟨x,a,rfl⟩);exact of_decide_eq_true this
 ·intro h b c;obtain⟨x,a,rfl⟩:=D5.mp c;exact decide_eq_true (h x a)
def seqO (b:Bool)(xs:List V):HO:=match b with|true=>.tup xs|false=>.lst xs
section
variable{K:PySem.W.Frag}
theorem qe5:W4 K (.type "int") (.type "list")=some false:=by rfl
theorem qe3:W4 K (.type "int") (.type "tuple")=some false:=by rfl
theorem qe4:W4 K (.type "int") (.type "str")=some false:=by rfl
theorem qaK:W4 K (.type "int") (.type "int")=some true:=by rfl
theorem qaL:W4 K (.type "int") (.type "bool")=some false:=by rfl
end
theorem qXA {i:Nat}:((D4 i true).map V.bl)++[V.bl true]=(D4 (i+1) true).map V.bl:=by
 rw[List.replicate_succ',B0];rfl
theorem qXG {n:Nat}:(D4 n true).all id=true:=by simp
theorem qCN {α:Type}{p:α->Bool}{l:List α}{i:Nat}{x:α}(h:l[i]?=some x):(l.take (i+1)).filter p=(l.take i).filter p++(if p x then[x] else[]):=by
 rw[C6,h,C8,m6];by_cases a:p x=true
 ·simp[a]
 ·simp[a]
end Fw
namespace L2
open PySem PySem.Spec PyProof.Rows
def SqO (b:Bool)(K:PySem.W.Frag)(H:Hp)(a:Addr)(xs:List V):Prop:=match b with|true=>SqT K H a xs|false=>SqL K H a xs
def ItO (b:Bool)(K:PySem.W.Frag)(a:Addr):It:=match b with|true=>Itt K a|false=>Itl K a
def iSeq (K:PySem.W.Frag)(tl:TE):TI:=λσ H R=>tl σ H λx H1=>∃(b:Bool) (a:Addr),x=.ref a/\(∃xs,SqO b K H1 a xs)/\R (ItO b K a) H1
section
variable{X:Cx}{tg:Expr}
theorem qdS {l:Expr}{g:TE}(k:PE X l g):PI X tg l (iSeq X.K g):=by
 intro i s σ H R I h;refine thn (k i s σ H _ I h) λv s1 ⟨x,H1,I1,r1,q1⟩=>?_;obtain⟨b,a,e,⟨n,f⟩,q⟩:=q1;subst e;cases r1;cases b with
 |false=>
  obtain⟨c,j,p,m⟩:=I1.list f;refine B34 p.isList ?_;refine⟨s1.heap.objs.size,[s1.heap.objs.size],_,_,H1,rfl,I1.kept (t':=s1.toks) λb o e=>A6 _ e,qN2 a _,⟨_,B5 _ rfl,rfl,rfl⟩,λb d=>?_,q⟩;cases A5.mp d;exact I1.fpOk (A7 _) (I1.hok.fresh (A7 _))
 |true=>
  obtain⟨c,j,p,m⟩:=I1.tuple f;refine wpAny_pyIter_tuple (show s1.heap.IsTuple a c.toArray from p) ?_;refine⟨s1.heap.objs.size,[s1.heap.objs.size],_,_,H1,rfl,I1.kept (t':=s1.toks) λb o e=>A6 _ e,qKS a _,⟨_,B5 _ rfl,rfl,rfl⟩,λb d=>?_,q⟩;cases A5.mp d;exact I1.fpOk (A7 _) (I1.hok.fresh (A7 _))
end
theorem qdZ {b:Bool}{K:PySem.W.Frag}{a:Addr}{xs:List V}{g:TG}{j:TT}{c:TE}{Kf:Hp->Prop}{σ0:St}{H0:Hp}{p:Addr}(Pv:Nat->St->Hp->Prop)(f:Pv 0 σ0 H0)(d:∀i σ H,i<=xs.length->Pv i σ H->SqO b K H a xs)
  (h:∀i x σ H,xs[i]?=some x->Pv i σ H->g x σ H λσ2 H2=>j σ2 H2 λb H3=>if b=true then c σ2 H3 λy H4=>∃ys,H4 p=some (.lst ys)/\ys.length<B14/\Pv (i+1) σ2 (Ag H4 p (.lst (ys++[y]))) else Pv (i+1) σ2 H3)
  (e:∀σ H,Pv xs.length σ H->Kf H):
  LcG (ItO b K a) g j c Kf σ0 H0 p:=by
 cases b with
 |true=>exact qD7 Pv f d h e
 |false=>exact qDO Pv f d h e
end L2
namespace Fw
open PySem L2
abbrev MovL (H:Hp):List Addr->List (Str×Int)->Prop:=Paired λr m=>H r=some (.tup [.str m.1,.int m.2])
theorem MovL.same {H H':Hp}{rs:List Addr}{a:List (Str×Int)}(h:MovL H rs a)(k:Same H H'):MovL H' rs a:=by
 induction h with
 |nil=>exact .nil
 |cons r t ih=>exact .cons (k _ _ r) ih
theorem MovL.put {H:Hp}{p:Addr}{xs:List V}{o:HO}{rs:List Addr}{a:List (Str×Int)}(h:MovL H rs a)(b:H p=some (.lst xs)):MovL (Ag H p o) rs a:=by
 induction h with
 |nil=>exact .nil
 |cons r t ih=>exact .cons (by rw[qA8 (qCC r b (by intro z;cases z))];exact r) ih
theorem qL1 {α β:Type}{F:α->β->Prop}{a c:List α}{b d:List β}(h:Paired F a b)(k:Paired F c d):Paired F (a++c) (b++d):=by
 induction h with
 |nil=>exact k
 |cons r t ih=>exact .cons r ih
theorem MovL.snoc {H:Hp}{rs:List Addr}{a:List (Str×Int)}{r:Addr}{wo:Str}{x:Int}(h:MovL H rs a)(e:H r=some (.tup [.str wo,.int x])):MovL H (rs++[r]) (a++[(wo,x)]):=T3 h e
theorem MovL.app {H:Hp}{rs b:List Addr}{c a:List (Str×Int)}(h:MovL H rs c)(h':MovL H b a):MovL H (rs++b) (c++a):=qL1 h h'
noncomputable def qJP (w:Str)(n:Nat):List (Str×Int):=(G8 n).map λ(i:Nat)=>(w,(i:Int))
theorem qL3 (w:Str)(n:Nat):qJP w (n+1)=qJP w n++[(w,0+(n:Int))]:=by
 unfold qJP;rw[A10,B0,A64]
 rfl
theorem qF5 (w:Str)(n:Nat):(qJP w n).length=n:=by unfold qJP;simp
noncomputable def wd (Ae:List (List Int))(st:List Int)(Aa:Int)(m:Str×Int):V:=qCD ((Ae[m.2.toNat]?).getD []) st Aa m.1 m.2
noncomputable def qMP (n:Nat):List (Str×Int):=qJP "do" n++qJP "clear" n
noncomputable def qCZ (Ae:List (List Int))(st:List Int)(Aa:Int):List (Str×Int):=(qMP Ae.length).filter λm=>decide (wd Ae st Aa m=.non)
theorem qO2 (n:Nat):(qMP n).length=n+n:=by unfold qMP;rw[A8,qF5,qF5]
theorem qRZ {n:Nat} {m:Str×Int} (h:m∈qMP n):(m.1 = "do"\/m.1 = "clear")/\0<=m.2/\m.2<(n:Int):=by
 unfold qMP qJP at h;rcases B4.mp h with h|h
 ·obtain⟨i,a,rfl⟩:=D5.mp h;have:=G3.mp a;exact⟨.inl rfl,by simp;lia⟩
 ·obtain⟨i,a,rfl⟩:=D5.mp h;have:=G3.mp a;exact⟨.inr rfl,by simp;lia⟩
def qN8:Sp:=λvs H Q _=>∃(a s:Addr) (Ae:List (List Int)) (st:List Int) (Aa:Int),vs=[.ref a,.int Aa,.ref s]/\NetAt H a Ae/\WFn Ae/\Ae.length<=63/\H s=some (.tup (st.map V.int))/\st.length<=63/\
 ∀l rs H',Same H H'->H l=none->H' l=some (.lst (rs.map V.ref))->MovL H' rs (qCZ Ae st Aa)->Q (.ref l) H'
theorem rep0:∀n:Nat,(D4 n [V.int 0]).flatten=(D4 n (0:Int)).map V.int
 |0=>rfl
 |n+1=>by rw[L5,L5,Q0,rep0 n];rfl
theorem qP8 {n:Int}{i:Nat}(h:(i:Int)<n):(qC6 0 n)[i]?=some (i:Int):=by
 unfold qC6;rw[C1,A35 (by lia)]
 simp
theorem qAT {α:Type}{l:List α}{n:Nat}(h:l.length=n):l.take n=l:=E7 (by lia)
theorem qCH {p:Int->Bool}{l:List Int}{i:Nat}:((l.take i).filter p).length<=i:=by
 have:=J5 p (l.take i);rw[C4] at this
 lia
structure Cnt (n:Nat)(cs:List Int)(seen:List Int):Prop where
 len:cs.length=n
 at_:∀x:Nat,x<n->∃c,cs[x]?=some c/\0<=c/\(c=0↔(x:Int)∉seen)
theorem qAW {n:Nat}(h:n<=1000000):n<B14:=by rw[B16];lia
inductive Nd (Ae:List (List Int))(Ad:List Int):Int->Prop
 |ask {x:Int}:x∈Ad->Nd Ae Ad x
 |need {w y:Int} {zs:List Int}:Nd Ae Ad w->Ae[w.toNat]?=some zs->y∈zs->Nd Ae Ad y
structure KeysI (Af:List (Key×V))(ks:List Int):Prop where
 keys:Af.map (·.1)=ks.map D7
 nd:ks.Nodup
theorem KeysI.len {Af:List (Key×V)}{ks:List Int}(h:KeysI Af ks):Af.length=ks.length:=by
 have:=congrArg j9 h.keys;simpa using this
theorem KeysI.nil:KeysI [] []:=⟨rfl,.nil⟩
theorem qQQ (k:Key):∀Af:List (Key×V),(Af.any λkv=>decide (kv.1=k))=true↔k∈Af.map (·.1)
 |[]=>by simp
 |p::r=>by
  rw[X4,C7,Z3,qQQ k r,B7,decide_eq_true_eq];exact or_congr_left ⟨Eq.symm,Eq.symm⟩
theorem KeysI.mem {Af:List (Key×V)}{ks:List Int}(h:KeysI Af ks)(x:Int):(D7 x:Key)∈Af.map (·.1)↔x∈ks:=by
 rw[h.keys,D5];exact⟨λ⟨y,a,e⟩=>U7 e▸a,λb=>⟨x,b,rfl⟩⟩
theorem KeysI.has {Af:List (Key×V)}{ks:List Int}(h:KeysI Af ks)(x:Int):(valV Af (D7 x)).isSome=decide (x∈ks):=by
 rw[<- qFL];have:=(qQQ (D7 x) Af).trans (h.mem x);by_cases e:x∈ks
 ·rw[decide_eq_true e];exact this.mpr e
 ·rw[decide_eq_false e];exact F5.mpr λz=>e (this.mp z)
theorem qRR (k:Key)(v:V):∀Af:List (Key×V),(Af.map λkv=>if kv.1=k then(kv.1,v) else kv).map (·.1)=Af.map (·.1)
 |[]=>rfl
 |p::r=>by
  rw[C7,C7,C7,qRR k v r];congr 1
  split<;>rfl
theorem KeysI.put {Af:List (Key×V)}{ks:List Int}(h:KeysI Af ks)(x:Int)(v:V):KeysI (putK Af (D7 x) v) (addI ks x):=by
 have a:=(qQQ (D7 x) Af).trans (h.mem x);unfold putK addI;by_cases e:x∈ks
 ·rw[if_pos (a.mpr e),if_pos e];exact⟨by rw[qRR];exact h.keys,h.nd⟩
 ·rw[if_neg λz=>e (a.mp z),if_neg e];refine⟨by rw[B0,B0,h.keys];rfl,qJN h.nd e⟩
theorem qRP {ks:List Int}{n:Nat}(h:ks.Nodup)(b:∀x∈ks,0<=x/\x<(n:Int)):ks.length<=n:=by
 have a:ks ⊆ (G8 n).map λ(i:Nat)=>(i:Int):=λx c=>by
  have:=b x c;exact D5.mpr ⟨x.toNat,G3.mpr (by lia),by lia⟩
 have:=V7 h a;simpa using this
structure Fnd (Ae:List (List Int))(Ad ks:List Int)(j:Int):Prop where
 in_:∀x∈ks,(0<=x/\x<(Ae.length:Int))/\Nd Ae Ad x
 ask:∀x∈Ad,x∈ks
 clo:∀(w:Nat) zs,j<=(w:Int)->(w:Int)∈ks->Ae[w]?=some zs->∀y∈zs,y∈ks
theorem Fnd.all {Ae:List (List Int)}{Ad ks:List Int}(c:WFn Ae)(h:Fnd Ae Ad ks 0)(x:Int):x∈ks↔Nd Ae Ad x:=by
 refine⟨λa=>(h.in_ x a).2,λa=>?_⟩
 induction a with
 |ask m=>exact h.ask _ m
 |@need w y zs _ e m ih=>
  have b:=(h.in_ w ih).1;exact h.clo w.toNat zs (by lia) (by rw[show((w.toNat:Nat):Int)=w by lia];exact ih) e y m
def qAD (Ae:List (List Int))(Ad zs:List Int):Prop:=Rise (Ae.length:Int) zs/\∀x,x∈zs↔Nd Ae Ad x
theorem qN1:∀{l m:List Int},l.Pairwise (·<·)->m.Pairwise (·<·)->(∀x,x∈l↔x∈m)->l=m
 |[],[],_,_,_=>rfl
 |[],y::m,_,_,h=>absurd ((h y).mpr (by simp)) (by simp)
 |x::l,[],_,_,h=>absurd ((h x).mp (by simp)) (by simp)
 |x::l,y::m,hl,hm,h=>by
  have l1:=O0.mp hl;have m1:=O0.mp hm;have exy:x=y:=by
   rcases B7.mp ((h x).mp (by simp)) with e|e
   ·exact e
   ·rcases B7.mp ((h y).mpr (by simp)) with e2|e2
    ·exact e2.symm
    ·have:=m1.1 x e;have:=l1.1 y e2
     lia
  subst exy;rw[qN1 l1.2 m1.2 λz=>?_]
  constructor
  ·intro hz;rcases B7.mp ((h z).mp (by simp[hz])) with e|e
   ·have:=l1.1 z hz;lia
   ·exact e
  ·intro hz;rcases B7.mp ((h z).mpr (by simp[hz])) with e|e
   ·have:=m1.1 z hz;lia
   ·exact e
noncomputable def qDR (ws:List Int)(x:Int):Option Int:=if x∈ws then some (ws.idxOf x:Int) else none
theorem qJG {ws:List Int}{x p:Int}(h:qDR ws x=some p):0<=p/\ws[p.toNat]?=some x:=by
 unfold qDR at h
 split at h
 ·rename_i m
  cases h;have a:=List.idxOf_lt_length_iff.mpr m;refine⟨by lia,?_⟩
  rw[D2,A4 a,List.getElem_idxOf]
 ·cases h
theorem qDD {ws:List Int}(b:ws.Nodup){x:Int}{i:Nat}(h:ws[i]?=some x):qDR ws x=some (i:Int):=by
 obtain⟨a,e⟩:=A3.mp h;unfold qDR;rw[if_pos (by rw[<- e];exact U0 a),<- e,b.idxOf_getElem]
theorem qSW {ws:List Int}(c:ws.Nodup){i:Nat}{y:Int}(h:ws[i]?=some y)(x:Int):qDR (ws.take (i+1)) x=if x=y then some (i:Int) else qDR (ws.take i) x:=by
 obtain⟨f,e⟩:=A3.mp h;have d:ws.take (i+1)=ws.take i++[y]:=by rw[C6,h];rfl
 have b:(ws.take (i+1)).Nodup:=c.sublist (X3 _ _);by_cases a:x=y
 ·subst a;rw[if_pos rfl];exact qDD b (by rw[J1 (by lia)];exact h)
 ·rw[if_neg a];unfold qDR;rw[d];by_cases m:x∈ws.take i
  ·rw[if_pos (by simp[m]),if_pos m,List.idxOf_append,if_pos m]
  ·rw[if_neg (by simp[m,a]),if_neg m]
noncomputable def qBY (Ae:List (List Int))(ws:List Int):List (List Int):=ws.map λw=>((Ae[w.toNat]?).getD []).filterMap (qDR ws)
theorem qBV (Ae:List (List Int))(ws:List Int):(qBY Ae ws).length=ws.length:=by simp[qBY]
theorem qGV {Ae:List (List Int)}{ws:List Int}{i:Nat}{w:Int}(h:ws[i]?=some w):(qBY Ae ws)[i]?=some (((Ae[w.toNat]?).getD []).filterMap (qDR ws)):=by
 unfold qBY;rw[C1,h]
 rfl
theorem qN0 {ws:List Int}(k:ws.Pairwise (·<·)){i j:Nat}{x y:Int}(g:ws[i]?=some x)(l:ws[j]?=some y):i<j↔x<y:=by
 obtain⟨e,n⟩:=A3.mp g;obtain⟨f,m⟩:=A3.mp l;have c:∀a b (ha:a<ws.length) (hb:b<ws.length),a<b->ws[a]<ws[b]:=λa b ha hb d=>G7.mp k a b ha hb d
 constructor
 ·intro h;have:=c i j e f h
  lia
 ·intro h;rcases c5 i j with z|z|z
  ·exact z
  ·subst z
   lia
  ·have:=c j i f e z
   lia
theorem qKR {ws zs:List Int}(i:ws.Pairwise (·<·))(e:zs.Pairwise (·<·)):(zs.filterMap (qDR ws)).Pairwise (·<·):=by
 rw[List.pairwise_filterMap];refine e.imp λ{a b} c p f q g=>?_;obtain⟨k,d⟩:=qJG f;obtain⟨j,h⟩:=qJG g;have:=(qN0 i d h).mpr c
 lia
theorem qC5 {ws zs:List Int}(d:ws.Nodup){p:Int}:p∈zs.filterMap (qDR ws)↔0<=p/\∃x,ws[p.toNat]?=some x/\x∈zs:=by
 rw[M9]
 constructor
 ·rintro⟨x,a,e⟩;obtain⟨c,b⟩:=qJG e;exact⟨c,x,b,a⟩
 ·rintro⟨c,x,b,a⟩;refine⟨x,a,?_⟩;have:=qDD d b;rw[this];congr 1
  lia
theorem qJM {Ae:List (List Int)}(a:WFn Ae)(w:Nat):Rise (w:Int) ((Ae[w]?).getD []):=by
 cases e:Ae[w]? with
 |none=>exact Rise.nil
 |some zs=>exact a w zs e
theorem qCL {Ae:List (List Int)}{ws:List Int}(f:WFn Ae)(r:Rise (Ae.length:Int) ws):WFn (qBY Ae ws):=by
 intro i l h;have b:i<ws.length:=by rw[<- qBV Ae ws];exact(A3.mp h).1
 have c:=A4 b;rw[qGV c] at h;cases h;have j:=(r.in_ ws[i] (U0 b)).1;have a:=qJM f ws[i].toNat;refine⟨qKR r.up a.up,λp g=>?_⟩;obtain⟨m,x,d,e⟩:=(qC5 r.nodup).mp g;have k:=a.in_ x e;have:=(qN0 r.up d c).mpr (by lia)
 lia
def qXY:Sp:=λvs H Q _=>∃(a t:Addr) (Ae:List (List Int)) (Ad:List Int),vs=[.ref a,.ref t]/\NetAt H a Ae/\WFn Ae/\Ae.length<=63/\H t=some (.tup (Ad.map V.int))/\(∀x∈Ad,0<=x/\x<(Ae.length:Int))/\
 ∀l zs H',Same H H'->H l=none->H' l=some (.lst (zs.map V.int))->qAD Ae Ad zs->Q (.ref l) H'
def qdA:Sp:=λvs H Q _=>∃(r d:Addr) (zs:List Int) (Af:List (Key×V)) (num:Int->Option Int),vs=[.ref r,.ref d]/\H r=some (.tup (zs.map V.int))/\zs.length<=63/\H d=some (.dK Af)/\(∀x,valV Af (D7 x)=(num x).map V.int)/\
 ∀r' H',Same H H'->H' r'=some (.tup ((zs.filterMap num).map V.int))->Q (.ref r') H'
abbrev Mv:=Str×Int
def nd (Ae:List (List Int))(w:Int):List Int:=(Ae[w.toNat]?).getD []
theorem qB8 {Ae:List (List Int)}{w:Int}{zs:List Int}(h:Ae[w.toNat]?=some zs):nd Ae w=zs:=by unfold nd;rw[h];rfl
noncomputable def qaJ (Ae:List (List Int)):List Int->Int->Option Int
 |[],_=>none
 |w::r,y=>match qaJ Ae r y with
  |some v=>some v
  |none=>if y∈nd Ae w then some w else none
def later (Ae:List (List Int))(zs:List Int)(j:Nat)(x:Int):Prop:=∃v∈zs.drop j,x∈nd Ae v
instance (Ae:List (List Int)) (zs:List Int) (j:Nat) (x:Int):Decidable (later Ae zs j x):=by unfold later;infer_instance
noncomputable def clrs (Ae:List (List Int))(Ad zs:List Int)(w:Int):List Int:=(nd Ae w).filter λy=>decide (qaJ Ae zs y=some w/\y∉Ad)
noncomputable def qfN (Ae:List (List Int)) (Ad zs:List Int) (w:Int):List Mv:=("do",w)::(clrs Ae Ad zs w).map λy=>("clear",y)
noncomputable def qdP (Ae:List (List Int))(Ad zs:List Int):List Mv:=zs.flatMap (qfN Ae Ad zs)
inductive Run (Ae:List (List Int))(Aa:Int):List Int->List Mv->List Int->Prop
 |nil {s:List Int}:Run Ae Aa s [] s
 |do_ {s s' t:List Int} {w:Int} {ms:List Mv}:w∉s->(∀y∈nd Ae w,y∈s)->(s.length:Int)<Aa->s'.Perm (s++[w])->s'.Pairwise (·<·)->Run Ae Aa s' ms t->Run Ae Aa s (("do",w)::ms) t
 |clear {s t:List Int} {w:Int} {ms:List Mv}:w∈s->Run Ae Aa (s.filter λx=>decide (x≠w)) ms t->Run Ae Aa s (("clear",w)::ms) t
noncomputable def qBA (ms:List Mv):List Int:=ms.filterMap λ(m:Mv)=>if m.1=B9 "do" then some m.2 else none
theorem qO5 (a b:List Mv):qBA (a++b)=qBA a++qBA b:=U5
theorem qa8:∀{s:List Int} {w:Int},s.Nodup->w∈s->(s.filter λx=>decide (x≠w)).length+1=s.length
 |[],w,_,h=>by cases h
 |x::s,w,n,h=>by
  have n2:=L4.mp n;by_cases e:x=w
  ·subst e;have:s.filter (λy=>decide (y≠x))=s:=Y5.mpr λy hy=>decide_eq_true λz=>n2.1 (z▸hy);rw[G9,if_neg (by simp),this,C3]
  ·rw[G9,if_pos (by simpa using e),C3,C3,qa8 n2.2 ((B7.mp h).resolve_left λz=>e z.symm)]
section
variable{Ae:List (List Int)}{Ad zs:List Int}
theorem qDK (f:WFn Ae)(N:qAD Ae Ad zs){i:Nat}{w y:Int}(h:zs[i]?=some w)(a:y∈nd Ae w):y∈zs.take i/\y<w:=by
 have b:=B1 h;have m:=N.1.in_ w b;have j:w.toNat<Ae.length:=by lia
 have e:=A4 j;rw[qB8 e] at a;have l:=(f w.toNat _ e).in_ y a;have g:y∈zs:=(N.2 y).mpr (.need ((N.2 w).mp b) e a);obtain⟨k,c⟩:=D8 g;have d:k<i:=(qN0 N.1.up c h).mpr (by lia)
 refine⟨B1 (i:=k) (by rw[J1 d];exact c),by lia⟩
theorem qZX (N:qAD Ae Ad zs)(c:WFn Ae){i:Nat}{w:Int}(h:zs[i]?=some w):w∈Ad\/later Ae zs (i+1) w:=by
 have b:=B1 h;cases(N.2 w).mp b with
 |ask m=>exact .inl m
 |@need v _ ns hv e hm=>
  have d:=(N.2 v).mpr hv;obtain⟨k,a⟩:=D8 d;have q:=qDK c N a (by rw[qB8 e];exact hm)
  have f:i<k:=(qN0 N.1.up h a).mpr q.2;refine .inr ⟨v,B1 (i:=k-(i+1)) ?_,by rw[qB8 e];exact hm⟩
  rw[List.getElem?_drop,show i+1+(k-(i+1))=k by lia]
  exact a
theorem qHI (N:qAD Ae Ad zs){i:Nat}{w x:Int}(h:zs[i]?=some w)(c:x∈zs.take i):x<w:=by
 obtain⟨k,a⟩:=D8 c;have b:k<i:=by have:=(A3.mp a).1;rw[C4] at this;lia
 rw[J1 b] at a;exact(qN0 N.1.up a h).mp b
theorem qC8 {c:List Int}(a:qAD Ae Ad zs)(b:qAD Ae Ad c):zs=c:=qN1 a.1.up b.1.up λx=>(a.2 x).trans (b.2 x).symm
end
def PlanAt (H:Hp)(l:Addr)(ms:List Mv):Prop:=∃rs:List Addr,H l=some (.lst (rs.map V.ref))/\MovL H rs ms
theorem PlanAt.same {H H':Hp}{l:Addr}{a:List Mv}(h:PlanAt H l a)(k:Same H H'):PlanAt H' l a:=by
 obtain⟨b,d,c⟩:=h;exact⟨b,k _ _ d,c.same k⟩
def qI2 (H:Hp)(t:Addr)(Ae:List (List Int))(Ad:List Int):Prop:=H t=some (.tup (Ad.map V.int))/\Rise (Ae.length:Int) Ad
def qIO:Sp:=λvs H Q _=>∃(a t:Addr) (Ae:List (List Int)) (Ad:List Int),vs=[.ref a,.ref t]/\NetAt H a Ae/\WFn Ae/\Ae.length<=63/\qI2 H t Ae Ad/\
 ∀l zs H',Same H H'->H l=none->H' l=some (.lst (zs.map V.int))->qAD Ae Ad zs->Q (.ref l) H'
def qR2:Sp:=λvs H Q _=>∃(a mv:Addr) (Ae:List (List Int)) (Ac:Str) (wk:Int),vs=[.ref a,.ref mv]/\NetAt H a Ae/\H mv=some (.tup [.str Ac,.int wk])/\(Ac = "do"\/Ac = "clear")/\0<=wk/\wk<(Ae.length:Int)/\∀H',Same H H'->Q (.bl true) H'
theorem qX8:B18 "dict" = some (.type "dict"):=by decide +kernel
noncomputable def lv (L:List Int)(x:Int):Int:=(L[x.toNat]?).getD 0
structure Lev (Ae:List (List Int))(L:List Int):Prop where
 len:L.length=Ae.length
 at_:∀(i:Nat) zs,Ae[i]?=some zs->∃l,L[i]?=some l/\0<=l/\l<=(i:Int)/\(∀y∈zs,lv L y+1<=l)/\(l=0\/∃y∈zs,lv L y+1=l)
structure Fd (n:Nat)(L:List Int)(S:Int->Prop)(fs:List Int):Prop where
 len:fs.length=n
 at_:∀w:Nat,w<n->(S w->fs[w]?=some (lv L w))/\(¬S w->fs[w]?=some 0)
noncomputable def nds (Ae:List (List Int))(ws:List Int):List Int:=(ws.map (nd Ae)).flatten
theorem qYM {Ae:List (List Int)}{ws:List Int}{i:Nat}{x:Int}(h:ws[i]?=some x):nds Ae (ws.take (i+1))=nds Ae (ws.take i)++nd Ae x:=by
 unfold nds;rw[C6,h,C8,B0,l6];simp
structure CntX (n:Nat)(cs:List Int)(seen:List Int):Prop where
 len:cs.length=n
 at_:∀x:Nat,x<n->cs[x]?=some ((seen.count (x:Int):Nat):Int)
theorem CntX.nil (n:Nat):CntX n (D4 n 0) []:=⟨by simp,λx a=>by simp[a]⟩
theorem CntX.bump {n:Nat}{f a:List Int}{z c:Int}(h:CntX n f a)(l:0<=z)(k:z<n)(j:f[z.toNat]?=some c):CntX n (f.set z.toNat (c+1)) (a++[z]):=by
 refine⟨by rw[k5];exact h.len,λx b=>?_⟩
 rw[p9];by_cases e:x=z.toNat
 ·subst e;have q:=h.at_ _ b;rw[j] at q;rw[W6 (by rw[h.len];exact b)]
  have i:((z.toNat:Nat):Int)=z:=by lia
  rw[i] at q ⊢;have g:=D0 q;have d:[z].count z=1:=by simp
  rw[d,g]
  rfl
 ·rw[X7 (by lia),h.at_ x b]
  have d:[z].count (x:Int)=0:=by
   rw[m7];simp
   lia
  rw[d]
  rfl
theorem CntX.get {n:Nat}{b a:List Int}(h:CntX n b a){x:Int}(c:0<=x)(d:x<n):b[x.toNat]?=some ((a.count x:Nat):Int):=by
 have:=h.at_ x.toNat (by lia)
 rw[show((x.toNat:Nat):Int)=x by lia] at this
 exact this
theorem qMC {Ae:List (List Int)}(b:WFn Ae){a x:Int}(h:Nd Ae [a] x):x<=a:=by
 induction h with
 |ask m=>rw[A5.mp m];exact L7 _
 |@need w y zs _ e m ih=>
  have:=(b _ _ e).in_ y m
  lia
noncomputable def cI (Ae:List (List Int))(zs:List Int)(x:Int):Int:=(((nds Ae zs).count x:Nat):Int)
noncomputable def qOX (Ae:List (List Int))(a:Int)(zs:List Int):Bool:=zs.all λx=>decide (x≠a->cI Ae zs x=1)
theorem qXV (Ae:List (List Int))(a:Int)(zs:List Int):(((zs.filter λx=>decide (x≠a)).map λx=>decide (V.int (cI Ae zs x)=V.int 1)).all id)=qOX Ae a zs:=by
 unfold qOX;generalize hc:cI Ae zs=c;clear hc
 induction zs with
 |nil=>rfl
 |cons x r ih=>
  rw[G9,t7,<- ih];by_cases e:x=a
  ·rw[if_neg (by simp[e])]
   have:decide (x≠a->c x=1)=true:=decide_eq_true λz=>absurd e z;rw[this]
   rfl
  ·rw[if_pos (by simp[e]),C7,t7]
   congr 1;exact decide_eq_decide.mpr ⟨λz _=>V.int.inj z,λz=>by rw[z e]⟩
def qdC:Sp:=λvs H Q _=>∃(a lw:Addr) (Ae:List (List Int)) (ws:List Int),vs=[.ref a,.ref lw]/\NetAt H a Ae/\WFn Ae/\Ae.length<=63/\H lw=some (.lst (ws.map V.int))/\(∀x∈ws,0<=x/\x<(Ae.length:Int))/\
 ∀l cs H',Same H H'->H l=none->H' l=some (.lst (cs.map V.int))->CntX Ae.length cs (nds Ae ws)->Q (.ref l) H'
def qR1:Sp:=λvs H Q _=>∃(a:Addr) (Ae:List (List Int)) (work:Int),vs=[.ref a,.int work]/\NetAt H a Ae/\WFn Ae/\Ae.length<=63/\0<=work/\work<(Ae.length:Int)/\
 ∀zs H',Same H H'->qAD Ae [work] zs->Q (.bl (qOX Ae work zs)) H'
def Beh (st st':List Int) (Ac:Str) (wk:Int):Prop:=(Ac = "do"->st'.Perm (st++[wk])/\st'.Pairwise (·<=·))/\(Ac = "clear"->st'=st.filter λx=>decide (x≠wk))
theorem qHK:∀{l m:List Int},l.Perm m->l.Pairwise (·<=·)->m.Pairwise (·<=·)->l=m:=by
 intro l m e d c;exact e.eq_of_pairwise (λa b _ _ f g=>A11 f g) d c
theorem Beh.one {st a b:List Int} {Ac:Str} {f:Int} (i:Ac = "do"\/Ac = "clear") (d:Beh st a Ac f) (c:Beh st b Ac f):a=b:=by
 rcases i with e|e
 ·obtain⟨g,k⟩:=d.1 e;obtain⟨h,j⟩:=c.1 e;exact qHK (g.trans h.symm) k j
 ·rw[d.2 e,c.2 e]
def qF1:Sp:=λvs H Q _=>∃(s mv:Addr) (st:List Int) (Ac:Str) (wk:Int),vs=[.ref s,.ref mv]/\H s=some (.tup (st.map V.int))/\st.length<=62/\H mv=some (.tup [.str Ac,.int wk])/\(Ac = "do"\/Ac = "clear")/\
 ∀r st' H',Same H H'->H' r=some (.tup (st'.map V.int))->Beh st st' Ac wk->Q (.ref r) H'
inductive Play (Ae:List (List Int))(Aa:Int):List Int->List Mv->List (List Int)->V->Prop
 |nil {st}:Play Ae Aa st [] [] .non
 |stop {st m ms w0}:wd Ae st Aa m=.str w0->Play Ae Aa st (m::ms) [] (.str w0)
 |go {st st' m ms sts v}:wd Ae st Aa m=.non->Beh st st' m.1 m.2->Play Ae Aa st' ms sts v->Play Ae Aa st (m::ms) (st'::sts) v
def MvOk (Ae:List (List Int)) (ms:List Mv):Prop:=∀m∈ms,(m.1 = "do"\/m.1 = "clear")/\0<=m.2/\m.2<(Ae.length:Int)
theorem Play.one {Ae:List (List Int)}{Aa:Int}{st:List Int}{d:List Mv}{a b:List (List Int)}{v u:V}(g:MvOk Ae d)(h:Play Ae Aa st d a v)(c:Play Ae Aa st d b u):a=b/\v=u:=by
 induction h generalizing b u with
 |nil=>cases c;exact⟨rfl,rfl⟩
 |stop e=>
  cases c with
  |stop e2=>rw[e] at e2;exact⟨rfl,e2⟩
  |go e2 _ _=>rw[e] at e2;cases e2
 |go e bh p ih=>
  cases c with
  |stop e2=>rw[e] at e2;cases e2
  |go e2 bh2 p2=>
   have:=bh.one (g _ (by simp)).1 bh2
   subst this;obtain⟨x,y⟩:=ih (λm f=>g m (A9 _ f)) p2;exact⟨by rw[x],y⟩
theorem Beh.fits {Ae:List (List Int)} {Aa:Int} {st a:List Int} {m:Mv} (c:m.1 = "do"\/m.1 = "clear") (e:wd Ae st Aa m=.non) (b:Beh st a m.1 m.2) (h:(st.length:Int)<=Aa):(a.length:Int)<=Aa:=by
 rcases c with d|d
 ·have l:=(b.1 d).1.length_eq;rw[A8,B3] at l;unfold wd qCD qCV at e;rw[if_pos d] at e
  split at e
  ·cases e
  ·split at e
   ·split at e
    ·cases e
    ·lia
   ·cases e
 ·rw[b.2 d];have:=J5 (λx=>decide (x≠m.2)) st
  lia
def StandsAt (H:Hp)(l:Addr)(sts:List (List Int)):Prop:=∃rs:List Addr,H l=some (.lst (rs.map V.ref))/\NetL H rs sts
theorem NetL.sm {H H':Hp}{rs:List Addr}{a:List (List Int)}(h:NetL H rs a)(s:Same H H'):NetL H' rs a:=h.same λr b e=>s _ _ e
theorem StandsAt.same {H H':Hp}{l:Addr}{c:List (List Int)}(h:StandsAt H l c)(s:Same H H'):StandsAt H' l c:=by
 obtain⟨d,a,b⟩:=h;exact⟨d,s _ _ a,NetL.sm b s⟩
theorem NetL.put {H:Hp}{p:Addr}{xs:List V}{o:HO}{rs:List Addr}{a:List (List Int)}(h:NetL H rs a)(b:H p=some (.lst xs)):NetL (Ag H p o) rs a:=h.same λr c e=>by
 rw[qA8 (qCC e b (by intro z;cases z))]
 exact e
def qSB (H:Hp)(a l:Addr)(Ae:List (List Int))(ms:List Mv)(Aa:Int):Prop:=NetAt H a Ae/\WFn Ae/\Ae.length<=63/\PlanAt H l ms/\ms.length<=10000/\MvOk Ae ms/\0<=Aa/\Aa<=60
noncomputable def isDo (m:Mv):Bool:=decide (m.1 = "do")
noncomputable def doN (ms:List Mv):Int:=((ms.filter isDo).length:Nat)
theorem qZJ {α:Type}{p:α->Bool}{l:List α}{i:Nat}:((l.take i).filter p).length<=i:=
 F2 (J5 _ _) (by rw[C4];lia)
theorem qJ6 {α:Type}{l:List α}{i:Nat}{x:α}(h:l[i]?=some x):l.take (i+1)=l.take i++[x]:=by
 rw[List.take_succ,h]
 rfl
noncomputable def lens (sts:List (List Int)):List Int:=sts.map λz=>(z.length:Int)
def qTX:Sp:=λvs H Q _=>∃(l:Addr) (ms:List Mv),vs=[.ref l]/\PlanAt H l ms/\ms.length<=10000/\∀H',Same H H'->Q (.int (doN ms)) H'
theorem Play.len {Ae:List (List Int)}{Aa:Int}{st:List Int}{b:List Mv}{a:List (List Int)}{v:V}(h:Play Ae Aa st b a v):a.length<=b.length:=by
 induction h with
 |nil=>exact A7 _
 |stop _=>exact D9 _
 |go _ _ _ ih=>rw[C3,C3];lia
structure YNa (K:PySem.W.Frag)(C:Addr):Prop where
 Ae:qSC K C "net"
 Aa:qSC K C "rooms"
 made:qSC K C "made"
 stands:qSC K C "stands"
noncomputable def yfs (a:Addr) (Aa:Int) (lm ls:Addr):List (Str×V):=putF "stands" (.ref ls) (putF "made" (.ref lm) (putF "rooms" (.int Aa) (putF "net" (.ref a) [])))
noncomputable def qNP (st:List Int):List (List Int)->List Int
 |[]=>st
 |s::r=>qNP s r
theorem qVR:∀{rs:List Addr} {st:List Int} {sts:List (List Int)} {H:Hp},NetL H rs (st::sts)->∃ss r,rs=ss++[r]/\H r=some (.tup ((qNP st sts).map V.int)):=by
 intro rs st sts
 induction sts generalizing rs st with
 |nil=>
  intro H h;cases h with
  |cons a b=>cases b;exact⟨[],_,rfl,a⟩
 |cons s r ih=>
  intro H h;cases h with
  |cons a b=>
   obtain⟨ss,q,rfl,g⟩:=ih b;exact⟨_::ss,q,rfl,g⟩
structure YardAt (C:Addr)(H:Hp)(y a lm ls:Addr)(Ae:List (List Int))(Aa:Int)(ms:List Mv)(sts:List (List Int)):Prop where
 obj:∃dx,H y=some (.ins C dx (yfs a Aa lm ls))
 nat:NetAt H a Ae
 wf:WFn Ae
 n400:Ae.length<=63
 r0:0<=Aa
 r62:Aa<=62
 made:PlanAt H lm ms
 ok:MvOk Ae ms
 len:ms.length<=10000
 stands:StandsAt H ls ([]::sts)
 play:Play Ae Aa [] ms sts .non
 ne:lm≠ls
section
variable{Ae:List (List Int)}
noncomputable def qcM (Ae:List (List Int)):Nat->List Int
 |0=>[]
 |i+1=>qcM Ae i++[if nd Ae (i:Int)=[] then 1 else((nd Ae (i:Int)).map λz=>(qcM Ae i).getD z.toNat 0).sum]
noncomputable def cn (Ae:List (List Int))(z:Int):Int:=(qcM Ae (z.toNat+1)).getD z.toNat 0
def hd (p:List Int):Int:=p.headD 0
noncomputable def apF (Ae:List (List Int)):Nat->List Int->List (List Int)
 |0,p=>[p]
 |n+1,p=>if nd Ae (hd p)=[] then[p] else((nd Ae (hd p)).reverse.map λz=>apF Ae n (z::p)).flatten
noncomputable def aP (Ae:List (List Int))(p:List Int):List (List Int):=apF Ae ((hd p).toNat+1) p
structure POk (Ae:List (List Int))(p:List Int):Prop where
 ne:p≠[]
 h0:0<=hd p
 h1:hd p<(Ae.length:Int)
 len:(p.length:Int)+hd p<=(Ae.length:Int)
structure PWay (Ae:List (List Int))(work:Int)(fs st:List (List Int)):Prop where
 all:fs++(st.map (aP Ae)).flatten=aP Ae [work]
 ok:∀p∈st,POk Ae p
 fok:∀p∈fs,POk Ae p
end
noncomputable def off (n:Nat):Nat->Nat
 |0=>0
 |r+1=>off n r+(n-r)
noncomputable abbrev keyOf (s:Nat×Nat):List Key:=[D7 (s.1:Int),D7 (s.2:Int)]
structure NumP (rs:List Addr)(ss:List (Nat×Nat))(j:Nat)(ps:List (List Key×Addr×V)):Prop where
 keys:ps.map (·.1)=(ss.take j).map keyOf
 at_:∀(k:Nat) (s:Nat×Nat),k<j->ss[k]?=some s->∃a,ps[k]?=some (keyOf s,a,.int (k:Int))
noncomputable def qc7 (ins:List (Int×Int))(x:Int):Option Int:=(ins.find? λq=>decide (q.1=x)).map (·.2)
noncomputable def qfE (ins:List (Int×Int))(i:Nat):Nat:=((G8 i).filter λ(x:Nat)=>(qc7 ins (x:Int)).isNone).length
noncomputable def numO (m:Nat)(ins:List (Int×Int))(x:Nat):Int:=match qc7 ins (x:Int) with|some v=>v|none=>((m+qfE ins x:Nat):Int)
structure InsAt (H:Hp)(i:Addr)(ins:List (Int×Int)):Prop where
 at_:∃rs:List Addr,BareT H i (rs.map V.ref)/\Paired (λr (q:Int×Int)=>H r=some (.tup [.int q.1,.int q.2])) rs ins
 nodup:(ins.map (·.1)).Nodup
structure InsOk (m:Nat)(other:List (List Int))(k:Nat)(ins:List (Int×Int))(fs:List Int):Prop where
 st:∀q∈ins,(0<=q.1/\q.1<(k:Int))/\other[q.1.toNat]?=some []/\0<=q.2/\q.2<(m:Int)
 nd1:(ins.map (·.1)).Nodup
 nd2:(ins.map (·.2)).Nodup
 fr:fs.Nodup
 fin:∀x∈fs,(0<=x/\x<(m:Int))/\x∉ins.map (·.2)
 len:ins.length<=k
noncomputable def pm (m:Mv):Int:=if m.1 = "do" then 1 else -1
noncomputable def peak:Int->List Mv->Int
 |n,[]=>n
 |n,m::ms=>max n (peak (n+pm m) ms)
theorem qfJ (w:Int):pm ("do",w)=1:=rfl
theorem qRF (w:Int):pm ("clear",w) = -1:=if_neg (qAF)
theorem qM9:∀(n:Int) (ms:List Mv),n<=peak n ms
 |n,[]=>L7 _
 |n,m::ms=>by show n<=max n _;lia
theorem Run.app {Ae:List (List Int)}{Aa:Int}{s t u:List Int}{a b:List Mv}(h:Run Ae Aa s a t)(k:Run Ae Aa t b u):Run Ae Aa s (a++b) u:=by
 induction h with
 |nil=>exact k
 |do_ h1 h2 h3 h4 h5 _ ih=>exact .do_ h1 h2 h3 h4 h5 (ih k)
 |clear h1 _ ih=>exact .clear h1 (ih k)
theorem qXT {s:List Int}(h:s.Pairwise (·<·)):s.Nodup:=h.imp λ{a b} c=>by lia
noncomputable def less (th s:List Int):List Int:=s.filter λx=>decide (x∉th)
noncomputable def qfW (th:List Int)(ms:List Mv):List Mv:=ms.filter λm=>decide (m.2∉th)
theorem Run.play {Ae:List (List Int)}{Aa:Int}{s t:List Int}{c:List Mv}(h:Run Ae Aa s c t):s.Pairwise (·<·)->∃sts,Play Ae Aa s c sts .non/\qNP s sts=t/\topD none (lens (s::sts))=some (peak (s.length:Int) c)/\∀z∈sts,(z.length:Int)<=peak (s.length:Int) c:=by
 induction h with
 |nil=>intro _;exact⟨[],.nil,rfl,rfl,λ_ z=>nomatch z⟩
 |@do_ s s' t w c h1 h2 h3 h4 h5 h6 ih=>
  intro n;obtain⟨sts,p,l,d,j⟩:=ih h5;have o:=h4.length_eq;rw[A8,B3] at o;have i:peak (s.length:Int) (("do",w)::c)=max (s.length:Int) (peak (s'.length:Int) c):=by
   show max _ (peak ((s.length:Int)+pm ("do",w)) c)=_
   rw[qfJ,show((s.length:Int)+1)=(s'.length:Int) by lia]
  have pg:=qM9 (s'.length:Int) c;refine⟨s'::sts,.go ?_ ⟨λ_=>⟨h4,h5.imp λ{a b} y=>by lia⟩,λz=>absurd z.symm qAF⟩ p,l,?_,λz v=>?_⟩
  ·unfold wd qCD qCV;rw[if_pos rfl,if_neg h1,if_pos (show∀x∈(Ae[w.toNat]?).getD [],x∈s from h2),if_neg (by lia)]
  ·unfold lens at d ⊢;rw[C7] at d;rw[C7,C7,i];show some (topI _ _)=_;have e:topI (s'.length:Int) (sts.map λz=>(z.length:Int))=peak (s'.length:Int) c:=D0 d;have g:=qF0 ((s'.length:Int)::sts.map λz=>(z.length:Int)) (s.length:Int);have f:=qF0 (sts.map λz=>(z.length:Int)) (s'.length:Int);rw[e] at f;congr 1;have u:∀x∈(s'.length:Int)::sts.map (λz=>(z.length:Int)),x<=peak (s'.length:Int) c:=λx k=>by
    rcases B7.mp k with q|q
    ·lia
    ·exact f.2.1 x q
   have r:peak (s'.length:Int) c∈(s'.length:Int)::sts.map (λz=>(z.length:Int)):=by
    rcases f.2.2 with q|q
    ·rw[q];exact C5
    ·exact A9 _ q
   have b3:=g.2.1 _ r;rcases g.2.2 with q|q
   ·lia
   ·have:=u _ q
    lia
  ·rw[i];rcases B7.mp v with q|q
   ·rw[q];lia
   ·have:=j z q;lia
 |@clear s t w c h1 h2 ih=>
  intro n;obtain⟨sts,p,l,d,j⟩:=ih (n.filter _);have o:=qa8 (qXT n) h1;generalize hs':(s.filter λx=>decide (x≠w))=s' at p l d j o;have i:peak (s.length:Int) (("clear",w)::c)=max (s.length:Int) (peak (s'.length:Int) c):=by
   show max _ (peak ((s.length:Int)+pm ("clear",w)) c)=_;rw[qRF,show((s.length:Int) + -1)=(s'.length:Int) by lia]
  have pg:=qM9 (s'.length:Int) c;refine⟨s'::sts,.go ?_ ⟨λz=>absurd z qAF,λ_=>hs'.symm⟩ p,l,?_,λz v=>?_⟩
  ·unfold wd qCD qCW;rw[if_neg (show¬(("clear",w):Mv).1 = "do" fromλz=>qAF z),if_pos h1]
  ·unfold lens at d ⊢;rw[C7] at d;rw[C7,C7,i];show some (topI _ _)=_;have e:topI (s'.length:Int) (sts.map λz=>(z.length:Int))=peak (s'.length:Int) c:=D0 d;have g:=qF0 ((s'.length:Int)::sts.map λz=>(z.length:Int)) (s.length:Int);have f:=qF0 (sts.map λz=>(z.length:Int)) (s'.length:Int);rw[e] at f;congr 1;have u:∀x∈(s'.length:Int)::sts.map (λz=>(z.length:Int)),x<=peak (s'.length:Int) c:=λx k=>by
    rcases B7.mp k with q|q
    ·lia
    ·exact f.2.1 x q
   have r:peak (s'.length:Int) c∈(s'.length:Int)::sts.map (λz=>(z.length:Int)):=by
    rcases f.2.2 with q|q
    ·rw[q];exact C5
    ·exact A9 _ q
   have b3:=g.2.1 _ r;rcases g.2.2 with q|q
   ·lia
   ·have:=u _ q
    lia
  ·rw[i];rcases B7.mp v with q|q
   ·rw[q];lia
   ·have:=j z q;lia
noncomputable def pbGo (num:Int->Int)(jn:Int->Bool)(pl:Int->List Mv):List Int->List Mv->List Mv
 |_,[]=>[]
 |th,m::c=>if m.1 = "clear" then("clear",num m.2)::pbGo num jn pl (th.filter λx=>decide (x≠num m.2)) c else(if jn m.2 then qfW th (pl (num m.2)) else[("do",num m.2)])++pbGo num jn pl (th++[num m.2]) c
structure ThOk (n:Nat)(num:Int->Int)(th s:List Int):Prop where
 perm:th.Perm (s.map num)
 rise:Rise (n:Int) s
structure TopO (Ae:List (List Int))(zs:List Int):Prop where
 nodup:zs.Nodup
 in_:∀x∈zs,0<=x/\x<(Ae.length:Int)
 bef:∀(p:Nat) (o:Int),zs[p]?=some o->∀x∈nd Ae o,x∈zs.take p
 aft:∀(p:Nat) (o:Int),zs[p]?=some o->p+1<zs.length->later Ae zs (p+1) o
structure Begun (Ae:List (List Int))(some_ ord:List Int):Prop where
 nodup:ord.Nodup
 sub:∀x∈ord,x∈some_
 bef:∀(p:Nat) (o:Int),ord[p]?=some o->∀x∈nd Ae o,x∈ord.take p
noncomputable def ndOf (Ae:List (List Int))(Ad:List Int):List Int:=by
 classical
 exact if h:∃zs,qAD Ae Ad zs then A68 h else[]
noncomputable def qaA (Ae:List (List Int))(w:Int):List Mv:=qdP Ae [w] (ndOf Ae [w])
def numF (m:Nat)(ins:List (Int×Int))(x:Int):Int:=numO m ins x.toNat
noncomputable def qfZ (ins:List (Int×Int))(x:Int):Bool:=(qc7 ins x).isSome
noncomputable def qgI (one:List (List Int))(ins:List (Int×Int))(ms:List Mv):List Mv:=pbGo (numF one.length ins) (qfZ ins) (qaA one) [] ms
noncomputable def qfR (one:List (List Int))(ins:List (Int×Int)):Int:=(topD (some 1) (ins.map λq=>peak 0 (qaA one q.2))).getD 0
noncomputable def qgH (one:List (List Int))(ins:List (Int×Int))(ms:List Mv):Int:=match ins with|[]=>peak 0 ms|_::_=>qfR one ins+peak 0 ms-1
structure BehIn (H:Hp)(a b i l:Addr)(one other:List (List Int))(ins:List (Int×Int))(ms:List Mv)(st:List Int):Prop where
 gA:NetAt H a one
 wf1:WFn one
 gB:NetAt H b other
 wf2:WFn other
 gI:InsAt H i ins
 ok:∃fs,InsOk one.length other other.length ins fs
 plan:PlanAt H l ms
 mv:MvOk other ms
 len:ms.length<=63
 run:Run other (other.length:Int) [] ms st
 o1:1<=one.length
 o2:one.length<=60
 o3:1<=other.length
 o4:other.length<=60
theorem qY4 {Ae:List (List Int)}{Aa:Int}{a:List Mv}{st:List Int}(d:MvOk Ae a)(R:Run Ae Aa [] a st):(∀sts m,Play Ae Aa [] a sts .non->topD none (lens ([]::sts))=some m->m=peak 0 a)/\∀sts w0,¬Play Ae Aa [] a sts (.str w0):=by
 obtain⟨b,c,f,e,_⟩:=R.play .nil;refine⟨λsts m p h=>?_,λsts w0 p=>?_⟩
 ·rw[(Play.one d p c).1,e] at h;exact(D0 h).symm
 ·have:=(Play.one d p c).2;cases this
theorem qYO {Ae:List (List Int)}{Ad:List Int}(a:WFn Ae)(r:Rise (Ae.length:Int) Ad){x:Int}(h:Nd Ae Ad x):0<=x/\x<(Ae.length:Int):=by
 induction h with
 |ask m=>exact r.in_ _ m
 |need _ e hy ih=>
  have c:=(a _ _ e).in_ _ hy;have b:=(A3.mp e).1
  lia
theorem qV8 {Ae:List (List Int)}{Ad:List Int}(b:WFn Ae)(r:Rise (Ae.length:Int) Ad):∃zs,qAD Ae Ad zs:=by
 classical
 refine⟨(qC6 0 Ae.length).filter λx=>decide (Nd Ae Ad x),⟨(qEB _ _).filter _,λx a=>?_⟩,λx=>?_⟩
 ·have:=mem_rangeI.mp (D6.mp a).1
  lia
 ·rw[D6,decide_eq_true_eq,mem_rangeI];exact⟨λh=>h.2,λh=>⟨qYO b r h,h⟩⟩
structure TwoIn (H:Hp)(a b i:Addr)(one other:List (List Int))(ins:List (Int×Int)):Prop where
 gA:NetAt H a one
 wf1:WFn one
 gB:NetAt H b other
 wf2:WFn other
 gI:InsAt H i ins
 ok:∃fs,InsOk one.length other other.length ins fs
 o1:1<=one.length
 o2:one.length<=40
 o3:1<=other.length
 o4:other.length<=7
theorem qa0 {Ae:List (List Int)} {st:List Int} {Aa:Int} {Ac:Str} {b:Int} (c:Ac = "do"\/Ac = "clear") (e:wd Ae st Aa (Ac,b)=.non):(Ac = "do"->b∉st/\(∀y∈nd Ae b,y∈st)/\(st.length:Int)<Aa)/\(Ac = "clear"->b∈st):=by
 rcases c with d|d
 ·subst d;refine⟨λ_=>?_,λz=>absurd z.symm qAF⟩;have a:qCV ((Ae[b.toNat]?).getD []) st Aa b=.non:=by
   have:=e;unfold wd qCD at this;rw[if_pos rfl] at this;exact this
  unfold qCV at a
  split at a
  ·cases a
  rename_i hn
  split at a
  ·rename_i hall
   split at a
   ·cases a
   ·exact⟨hn,hall,by lia⟩
  ·cases a
 ·subst d;refine⟨λz=>absurd z qAF,λ_=>?_⟩;have a:qCW st b=.non:=by
   have:=e;unfold wd qCD at this;rw[if_neg (show¬B9 "clear" = B9 "do" from qAF)] at this
   exact this
  unfold qCW at a
  split at a
  ·rename_i hin;exact hin
  ·cases a
theorem qS9 {n:Nat} {st a:List Int} {Ac:Str} {c:Int} (r:Rise (n:Int) st) (j:Ac = "do"\/Ac = "clear") (h:0<=c) (g:c<(n:Int)) (k:Ac = "do"->c∉st) (b:Beh st a Ac c):Rise (n:Int) a:=by
 rcases j with d|d
 ·obtain⟨f,i⟩:=b.1 d;refine⟨qF6 i (f.nodup_iff.mpr (qJN r.nodup (k d))),λx e=>?_⟩;rcases B4.mp (f.mem_iff.mp e) with q|q
  ·exact r.in_ x q
  ·rw[A5.mp q];exact⟨h,g⟩
 ·rw[b.2 d];exact⟨r.up.filter _,λx e=>r.in_ x (D6.mp e).1⟩
def PlayIn2 (H:Hp)(a l:Addr)(Ae:List (List Int))(ms:List Mv)(Aa:Int):Prop:=NetAt H a Ae/\WFn Ae/\Ae.length<=60/\PlanAt H l ms/\ms.length<=10000/\MvOk Ae ms/\0<=Aa/\Aa<=100000
theorem PlayIn2.same {H H':Hp}{a l:Addr}{Ae:List (List Int)}{b:List Mv}{Aa:Int}(h:PlayIn2 H a l Ae b Aa)(s:Same H H'):PlayIn2 H' a l Ae b Aa:=by
 obtain⟨d,c,e,j,g,i,f⟩:=h;exact⟨d.same s,c,e,j.same s,g,i,f⟩
def qLR:Sp:=λvs H Q _=>∃(a l:Addr) (Ae:List (List Int)) (ms:List Mv) (Aa:Int),vs=[.ref a,.int Aa,.ref l]/\PlayIn2 H a l Ae ms Aa/\
 ∀T ls sts v H',Same H H'->Play Ae Aa [] ms sts v->H' T=some (.tup [.ref ls,v])->H ls=none->StandsAt H' ls ([]::sts)->sts.length<=ms.length->Q (.ref T) H'
structure Ord (Ae:List (List Int))(Ad os:List Int):Prop where
 nodup:os.Nodup
 in_:∀w∈os,0<=w/\w<(Ae.length:Int)
 has:∀(i:Nat) (w y:Int),os[i]?=some w->y∈nd Ae w->y∈os.take i
 used:∀(i:Nat) (w:Int),os[i]?=some w->w∈Ad\/later Ae os (i+1) w
 ask:∀x∈Ad,x∈os
structure Span (Ae:List (List Int))(Ad os:List Int)(K:Nat):Prop where
 near:∀(q r:Nat) (x v:Int),os[q]?=some x->os[r]?=some v->x∈nd Ae v->r<=q+K
 last:∀x∈Ad,∀q:Nat,os[q]?=some x->q+1=os.length
structure Told (Ae:List (List Int))(R:Int)(ms:List Mv):Prop where
 run:Run Ae R [] ms [(Ae.length:Int)-1]
 top:peak 0 ms=R
 ok:MvOk Ae ms
 once:(qBA ms).Perm (qC6 0 (Ae.length:Int))
 len:ms.length<=2*Ae.length
noncomputable def mskN (zs:List Int):Nat:=(zs.map λz=>2^z.toNat).sum
noncomputable def cntN (n b:Nat):Nat:=((G8 n).map λk=>b/2^k%2).sum
def clrb (b k:Nat):Nat:=b-2^k*(b/2^k%2)
noncomputable def nxt (Ae:List (List Int))(k:Nat):Nat:=mskN ((Ae[k]?).getD [])
def can (Ae:List (List Int))(Aa:Int)(b k:Nat):Prop:=(cntN Ae.length b:Int)<Aa/\k<Ae.length/\b &&& nxt Ae k=nxt Ae k
inductive Rm (Ae:List (List Int))(Aa:Int):Nat->Nat->Prop
 |zero:Rm Ae Aa 0 0
 |clr {m b k:Nat}:Rm Ae Aa m b->k<Ae.length->Rm Ae Aa m (clrb b k)
 |do_ {m b k:Nat}:Rm Ae Aa m b->can Ae Aa b k->Rm Ae Aa (m+1) (b ||| 2^k)
def Mn (Ae:List (List Int))(Aa:Int)(m b:Nat):Prop:=Rm Ae Aa m b/\∀m',m'<m->¬Rm Ae Aa m' b
theorem qcN (b k:Nat):clrb b k<=b:=Nat.sub_le _ _
theorem Rm.lt {Ae:List (List Int)}{Aa:Int}{m b:Nat}(h:Rm Ae Aa m b):b<2^Ae.length:=by
 induction h with
 |zero=>exact Nat.two_pow_pos _
 |clr _ _ ih=>exact U2 (qcN _ _) ih
 |do_ _ c ih=>exact Nat.or_lt_two_pow ih (A21 (by decide) c.2.1)
theorem qHJ {α:Type}[DecidableEq α]:∀{l r:List α},l.Nodup->(∀x∈l,x∈r)->l.length<=r.length
 |[],r,_,_=>D9 _
 |a::l,r,nd,h=>by
  have nd':=L4.mp nd;have ha:=h a (C5 ..);have:=qHJ (r:=r.erase a) nd'.2 λx hx=>(List.mem_erase_of_ne (λ(e:x=a)=>nd'.1 (e▸hx))).mpr (h x (A9 _ hx));rw[Z2 ha] at this;have:0<r.length:=T6 ha;rw[C3]
  lia
theorem qEF {ks:List Nat}{n:Nat}(c:ks.Nodup)(h:∀b∈ks,b<n):ks.length<=n:=by
 have:=qHJ (r:=G8 n) c λx a=>G3.mpr (h x a)
 rwa[c6] at this
theorem qHL {ks:List Nat}{x:Nat}(d:ks.Nodup)(h:x∉ks):(ks++[x]).Nodup:=by
 rw[S0];exact⟨d,by simp,λa c b f e=>h (by rw[A5.mp f] at e;exact e▸c)⟩
structure FdC (Ae:List (List Int))(Aa:Int)(many:Nat)(ks:List Nat)(f:Nat->Nat):Prop where
 nd:ks.Nodup
 snd:∀b∈ks,f b<=many/\Mn Ae Aa (f b) b
 zero:0∈ks
 full:∀m,m<many->∀b,Rm Ae Aa m b->b∈ks
section
variable{Ae:List (List Int)}{Aa:Int}{many:Nat}{ks cl ly:List Nat}{f:Nat->Nat}{at_ wk:Nat}
theorem FdC.lt (h:FdC Ae Aa many ks f){b:Nat}(a:b∈ks):b<2^Ae.length:=(h.snd b a).2.1.lt
theorem FdC.len (h:FdC Ae Aa many ks f):ks.length<=2^Ae.length:=qEF h.nd λb a=>h.lt a
theorem FdC.le (h:FdC Ae Aa many ks f){m b:Nat}(a:b∈ks)(r:Rm Ae Aa m b):f b<=m:=by
 apply Q6;intro z;exact(h.snd b a).2.2 m (by lia) r
def fset (f:Nat->Nat)(x v:Nat):Nat->Nat:=λy=>if y=x then v else f y
theorem qF9 (f:Nat->Nat)(x v:Nat):fset f x v x=v:=if_pos rfl
theorem qcA {f:Nat->Nat}{x v y:Nat}(h:y≠x):fset f x v y=f y:=if_neg h
theorem qFA {f:Nat->Nat}{x v y:Nat}{ks:List Nat}(h:y∈ks)(a:x∉ks):fset f x v y=f y:=qcA λe=>a (by rw[<- e];exact h)
theorem FdC.add (h:FdC Ae Aa many ks f){x:Nat}(a:x∉ks)(r:Rm Ae Aa many x):FdC Ae Aa many (ks++[x]) (fset f x many):=by
 refine⟨qHL h.nd a,λb hb=>?_,B4.mpr (.inl h.zero),λm c b e=>B4.mpr (.inl (h.full m c b e))⟩;rcases B4.mp hb with hb|hb
 ·rw[qFA hb a];exact h.snd b hb
 ·rw[A5.mp hb,qF9];exact⟨A7 _,r,λd c z=>a (h.full d c x z)⟩
structure A1 (Ae:List (List Int))(Aa:Int)(many:Nat)(ks:List Nat)(f:Nat->Nat)(cl:List Nat)(at_ wk:Nat):Prop where
 fd:FdC Ae Aa many ks f
 dos:∀m b k,m+1=many->Rm Ae Aa m b->can Ae Aa b k->b ||| 2^k∈ks
 clm:∀b,b∈cl↔b∈ks/\f b=many
 nd:cl.Nodup
 done:∀i b,cl[i]?=some b->i<at_->∀k,k<Ae.length->clrb b k∈ks
 dk:∀b,cl[at_]?=some b->∀k,k<wk->clrb b k∈ks
theorem A1.start:A1 Ae Aa 0 [0] (λ_=>0) [0] 0 0:=
 ⟨⟨by simp,λb c=>by rw[A5.mp c];exact⟨A7 _,.zero,λ_ z=>absurd z (G6 _)⟩,by simp,λm a=>absurd a (G6 _)⟩,λm b k e=>by lia,λb=>by simp,by simp,λi b _ z=>absurd z (G6 _),λb _ k z=>absurd z (G6 _)⟩
theorem A1.hit (h:A1 Ae Aa many ks f cl at_ wk){c:Nat}(g:cl[at_]?=some c)(i:clrb c wk∈ks):A1 Ae Aa many ks f cl at_ (wk+1):=by
 refine⟨h.fd,h.dos,h.clm,h.nd,h.done,λb a k d=>?_⟩;by_cases e:k=wk
 ·rw[g] at a;cases a;rw[e];exact i
 ·exact h.dk b a k (by lia)
theorem A1.add (h:A1 Ae Aa many ks f cl at_ wk){c:Nat}(n:cl[at_]?=some c)(s:wk<Ae.length)(j:clrb c wk∉ks):A1 Ae Aa many (ks++[clrb c wk]) (fset f (clrb c wk) many) (cl++[clrb c wk]) at_ (wk+1):=by
 have d:=(h.clm c).mp (B1 n);have q:Rm Ae Aa many c:=d.2▸(h.fd.snd c d.1).2.1;have g:∀{i b},i<=at_->(cl++[clrb c wk])[i]?=some b->cl[i]?=some b:=λ{i b} o e=>by
  have:=(A3.mp n).1
  rwa[F6 (by lia)] at e
 refine⟨h.fd.add j (.clr q s),λm b k p r c=>B4.mpr (.inl (h.dos m b k p r c)),λb=>?_,qHL h.nd λz=>j ((h.clm _).mp z).1,λi b e o k a=>?_,λb e k a=>?_⟩
 ·rw[B4,B4,A5,h.clm b]
  constructor
  ·rintro(z|z)
   ·exact⟨.inl z.1,by rw[qFA z.1 j];exact z.2⟩
   ·exact⟨.inr z,by rw[z,qF9]⟩
  ·rintro⟨z|z,e⟩
   ·rw[qFA z j] at e;exact .inl ⟨z,e⟩
   ·exact .inr z
 ·exact B4.mpr (.inl (h.done i b (g (by lia) e) o k a))
 ·have l:=g (A7 _) e;by_cases t:k=wk
  ·rw[n] at l;cases l;rw[t];exact B4.mpr (.inr (A5.mpr rfl))
  ·exact B4.mpr (.inl (h.dk b l k (by lia)))
theorem A1.next (h:A1 Ae Aa many ks f cl at_ Ae.length):A1 Ae Aa many ks f cl (at_+1) 0:=by
 refine⟨h.fd,h.dos,h.clm,h.nd,λi b e d k a=>?_,λb _ k z=>absurd z (G6 _)⟩;by_cases c:i=at_
 ·rw[c] at e;exact h.dk b e k a
 ·exact h.done i b e (by lia) k a
theorem A1.len (h:A1 Ae Aa many ks f cl at_ wk):cl.length<=2^Ae.length:=qEF h.nd λb a=>h.fd.lt ((h.clm b).mp a).1
theorem A1.all (h:A1 Ae Aa many ks f cl at_ wk)(l:cl.length<=at_):∀m b,Rm Ae Aa m b->m<=many->b∈ks:=by
 intro m b r
 induction r with
 |zero=>exactλ_=>h.fd.zero
 |@clr m b k r hk ih=>
  intro a;have d:=ih a;by_cases e:f b=many
  ·obtain⟨i,j,g⟩:=Y4 ((h.clm b).mpr ⟨d,e⟩);exact h.done i b (by rw[A4 j,g]) (by lia) k hk
  ·have:=(h.fd.snd b d);exact h.fd.full (f b) (by lia) _ (.clr this.2.1 hk)
 |@do_ m b k r c ih=>
  intro a;by_cases e:m+1=many
  ·exact h.dos m b k e r c
  ·exact h.fd.full (m+1) (by lia) _ (.do_ r c)
structure A2 (Ae:List (List Int))(Aa:Int)(many:Nat)(ks:List Nat)(f:Nat->Nat)(cl ly:List Nat)(at_ wk:Nat):Prop where
 fd:FdC Ae Aa (many+1) ks f
 clm:∀b,b∈cl↔b∈ks/\f b=many
 lym:∀b,b∈ly↔b∈ks/\f b=many+1
 nd:ly.Nodup
 done:∀i b,cl[i]?=some b->i<at_->∀k,can Ae Aa b k->b ||| 2^k∈ks
 dk:∀b,cl[at_]?=some b->∀k,k<wk->can Ae Aa b k->b ||| 2^k∈ks
theorem A1.two (h:A1 Ae Aa many ks f cl at_ wk)(c:cl.length<=at_):A2 Ae Aa many ks f cl [] 0 0:=by
 refine⟨⟨h.fd.nd,λb a=>⟨by have:=(h.fd.snd b a).1;lia,(h.fd.snd b a).2⟩,h.fd.zero,λm d b r=>h.all c m b r (by lia)⟩,h.clm,λb=>⟨λz=>absurd z (by simp),λz=>?_⟩,.nil,λi b _ z=>absurd z (G6 _),λb _ k z=>absurd z (G6 _)⟩
 have:=(h.fd.snd b z.1).1
 lia
theorem A2.hit (h:A2 Ae Aa many ks f cl ly at_ wk){c:Nat}(j:cl[at_]?=some c)(g:can Ae Aa c wk->c ||| 2^wk∈ks):A2 Ae Aa many ks f cl ly at_ (wk+1):=by
 refine⟨h.fd,h.clm,h.lym,h.nd,h.done,λb a k i d=>?_⟩;by_cases e:k=wk
 ·rw[j] at a;cases a;rw[e] at d ⊢;exact g d
 ·exact h.dk b a k (by lia) d
theorem A2.add (h:A2 Ae Aa many ks f cl ly at_ wk){c:Nat}(j:cl[at_]?=some c)(p:can Ae Aa c wk)(a:c ||| 2^wk∉ks):A2 Ae Aa many (ks++[c ||| 2^wk]) (fset f (c ||| 2^wk) (many+1)) cl (ly++[c ||| 2^wk]) at_ (wk+1):=by
 have d:=(h.clm c).mp (B1 j);have l:Rm Ae Aa many c:=d.2▸(h.fd.snd c d.1).2.1;refine⟨h.fd.add a (.do_ l p),λb=>?_,λb=>?_,qHL h.nd λz=>a ((h.lym _).mp z).1,λi b e n k g=>B4.mpr (.inl (h.done i b e n k g)),λb e k m g=>?_⟩
 ·rw[h.clm b,B4,A5]
  constructor
  ·rintro⟨z,e⟩;exact⟨.inl z,by rw[qFA z a];exact e⟩
  ·rintro⟨z|z,e⟩
   ·rw[qFA z a] at e;exact⟨z,e⟩
   ·rw[z,qF9] at e
    lia
 ·rw[B4,B4,A5,h.lym b]
  constructor
  ·rintro(z|z)
   ·exact⟨.inl z.1,by rw[qFA z.1 a];exact z.2⟩
   ·exact⟨.inr z,by rw[z,qF9]⟩
  ·rintro⟨z|z,e⟩
   ·rw[qFA z a] at e;exact .inl ⟨z,e⟩
   ·exact .inr z
 ·by_cases o:k=wk
  ·rw[j] at e;cases e;rw[o];exact B4.mpr (.inr (A5.mpr rfl))
  ·exact B4.mpr (.inl (h.dk b e k (by lia) g))
theorem A2.next (h:A2 Ae Aa many ks f cl ly at_ Ae.length):A2 Ae Aa many ks f cl ly (at_+1) 0:=by
 refine⟨h.fd,h.clm,h.lym,h.nd,λi b e d k c=>?_,λb _ k z=>absurd z (G6 _)⟩;by_cases a:i=at_
 ·rw[a] at e;exact h.dk b e k c.2.1 c
 ·exact h.done i b e (by lia) k c
theorem A2.skip (h:A2 Ae Aa many ks f cl ly at_ wk){c:Nat}(j:cl[at_]?=some c)(g:¬(cntN Ae.length c:Int)<Aa):A2 Ae Aa many ks f cl ly (at_+1) 0:=by
 refine⟨h.fd,h.clm,h.lym,h.nd,λi b e l k a=>?_,λb _ k z=>absurd z (G6 _)⟩;by_cases d:i=at_
 ·rw[d,j] at e;cases e;exact absurd a.1 g
 ·exact h.done i b e (by lia) k a
theorem A2.one (h:A2 Ae Aa many ks f cl ly at_ wk)(o:cl.length<=at_):A1 Ae Aa (many+1) ks f ly 0 0:=by
 refine⟨h.fd,λm b k e r c=>?_,h.lym,h.nd,λi b _ z=>absurd z (G6 _),λb _ k z=>absurd z (G6 _)⟩;have n:m=many:=by lia
 subst n;have a:=h.fd.full m (by lia) b r
 have j:=h.fd.le a r;by_cases g:f b=m
 ·obtain⟨i,l,d⟩:=Y4 ((h.clm b).mpr ⟨a,g⟩);exact h.done i b (by rw[A4 l,d]) (by lia) k c
 ·exact h.fd.full (f b+1) (by lia) _ (.do_ (h.fd.snd b a).2.1 c)
structure Come (Ae:List (List Int))(Aa:Int)(ks:List Nat)(f:Nat->Nat):Prop where
 nd:ks.Nodup
 snd:∀b∈ks,Mn Ae Aa (f b) b
 all:∀m b,Rm Ae Aa m b->b∈ks
theorem A1.come (h:A1 Ae Aa many ks f [] at_ wk):Come Ae Aa ks f:=by
 have d:∀b∈ks,f b<many:=λb a=>by
  have i:=(h.fd.snd b a).1;have g:f b≠many:=λe=>nomatch(h.clm b).mpr ⟨a,e⟩
  lia
 refine⟨h.fd.nd,λb a=>(h.fd.snd b a).2,λm b r=>?_⟩
 induction r with
 |zero=>exact h.fd.zero
 |@clr m b k r hk ih=>exact h.fd.full (f b) (d b ih) _ (.clr (h.fd.snd b ih).2.1 hk)
 |@do_ m b k r c ih=>
  have:=d b ih;by_cases e:f b+1=many
  ·exact h.dos (f b) b k e (h.fd.snd b ih).2.1 c
  ·exact h.fd.full (f b+1) (by lia) _ (.do_ (h.fd.snd b ih).2.1 c)
end
noncomputable def kvN (ks:List Nat)(f:Nat->Nat):List (Key×V):=ks.map λ(b:Nat)=>((D7 (b:Int):Key),V.int (f b:Int))
theorem qPZ (ks:List Nat)(f:Nat->Nat):(kvN ks f).length=ks.length:=by simp[kvN]
theorem qPY (ks:List Nat)(f:Nat->Nat)(x:Nat):valV (kvN ks f) (D7 (x:Int))=if x∈ks then some (.int (f x:Int)) else none:=by
 induction ks with
 |nil=>rfl
 |cons b ks ih=>
  show((((D7 (b:Int):Key),V.int (f b:Int))::kvN ks f).find? λc=>decide (c.1=D7 (x:Int))).map (·.2)=_;rw[V6];by_cases e:b=x
  ·subst e;simp
  ·have:¬((D7 (b:Int):Key)=D7 (x:Int)):=λz=>e (by have:=U7 z;lia)
   rw[decide_eq_false this];show valV (kvN ks f) (D7 (x:Int))=_;rw[ih];have a:x≠b:=G4 e;simp[a]
theorem qVU {ks:List Nat}{f:Nat->Nat}{x v:Nat}(h:x∉ks):putK (kvN ks f) (D7 (x:Int)) (.int (v:Int))=kvN (ks++[x]) (fset f x v):=by
 rw[qIU _ (by rw[qPY,if_neg h])]
 unfold kvN;rw[B0];congr 1
 ·exact J8 λb a=>by rw[qFA a h]
 ·simp[qF9]
theorem qFY (a b:Nat):U8 (a:Int) (b:Int)=((a &&& b:Nat):Int):=by
 unfold U8;rw[decide_eq_true (W9 a),decide_eq_true (W9 b)]
 rfl
theorem qXB (a b:Nat):A40 (a:Int) (b:Int)=((a ||| b:Nat):Int):=by
 have e:∀c:Nat,V0 (c:Int)=w5 c:=λc=>by unfold V0;lia
 have f:∀c:Nat,decide (0<=w5 c)=false:=λc=>decide_eq_false (by lia)
 have d:∀c:Nat,V0 (w5 c)=(c:Int):=λc=>by unfold V0;lia
 unfold A40 U8;rw[e,e,f,f];show V0 (V0 (((V0 (w5 a)).toNat ||| (V0 (w5 b)).toNat:Nat)))=_;rw[d,d,e,d]
 rfl
theorem qUB (a k:Nat):(a:Int)/2^k=((a/2^k:Nat):Int):=by
 rw[Int.natCast_ediv,A78]
 rfl
theorem qQN (a k:Nat):U8 ((a:Int)/2^k) 1=((a/2^k%2:Nat):Int):=by
 rw[qUB,show(1:Int)=((1:Nat):Int) from rfl,qFY,A49]
theorem qPB (k:Nat):(1:Int)*2^k=((2^k:Nat):Int):=by
 rw[Int.one_mul,A78]
 rfl
theorem qcP (a k:Nat):(a:Int)-(1*2^k)*U8 ((a:Int)/2^k) 1=((clrb a k:Nat):Int):=by
 rw[qQN,qPB,<- Int.natCast_mul];unfold clrb;have b:a/2^k%2<=a/2^k:=Nat.mod_le _ _;have c:2^k*(a/2^k%2)<=a:=F2 (Nat.mul_le_mul_left _ b) (Nat.mul_div_le _ _)
 lia
noncomputable def qSG (ws Ad:List Int):Nat:=mskN ((qC6 0 ws.length).filter λp=>decide ((ws[p.toNat]?).getD 0∈Ad))
def qFK (Ae:List (List Int))(ws Ad:List Int)(r:Int):Prop:=∃m b,Rm (qBY Ae ws) r m b/\b &&& qSG ws Ad=qSG ws Ad
def qOP (Ae:List (List Int))(ws Ad:List Int)(r:Int):Prop:=1<=r/\qFK Ae ws Ad r/\∀r',1<=r'->r'<r->¬qFK Ae ws Ad r'
theorem qS4 (g:Nat->Nat):∀l:List Nat,(l.map λk=>((g k:Nat):Int)).sum=(((l.map g).sum:Nat):Int)
 |[]=>rfl
 |k::l=>by rw[C7,j7,qS4 g l,C7,j7];lia
theorem qVE:∀zs:List Int,(zs.map λz=>(1:Int)*2^z.toNat).sum=((mskN zs:Nat):Int)
 |[]=>rfl
 |z::l=>by
  have:=qVE l;unfold mskN at this ⊢;rw[C7,j7,this,C7,j7,qPB]
  lia
def natI (l:List Nat):List Int:=l.map λ(b:Nat)=>(b:Int)
theorem qJO (l:List Nat)(b:Nat):natI (l++[b])=natI l++[(b:Int)]:=by simp[natI]
theorem qGW (l:List Nat):(natI l).length=l.length:=by simp[natI]
theorem qRQ {l:List Nat}{i:Nat}{b:Nat}(h:l[i]?=some b):(natI l)[i]?=some (b:Int):=by unfold natI;rw[C1,h];rfl
theorem qbX {l:List Nat}{i:Nat}{z:Int}(h:(natI l)[i]?=some z):∃b:Nat,l[i]?=some b/\z=(b:Int):=by
 unfold natI at h;rw[C1] at h;cases e:l[i]? with
 |none=>rw[e] at h;cases h
 |some b=>rw[e] at h;cases h;exact⟨b,rfl,rfl⟩
def qa5:Sp:=λvs H Q _=>∃(a:Addr) (Ae:List (List Int)) (Aa:Int),vs=[.ref a,.int Aa]/\NetAt H a Ae/\WFn Ae/\Ae.length<=12/\
 ∀(d:Addr) (o:Obj) (ks:List Nat) (f:Nat->Nat) H',Same H H'->H d=none->H' d=some (.frz o (.dK (kvN ks f)))->Come Ae Aa ks f->Q (.ref d) H'
theorem qVF {k:Nat}:∀{st:List Int},(∀x∈st,(k:Int)<=x)->∃a,mskN st=2^k*a
 |[],_=>⟨0,rfl⟩
 |z::st,h=>by
  obtain⟨a,ha⟩:=qVF (st:=st) λx hx=>h x (A9 _ hx);have hz:=h z (by simp)
  refine⟨2^(z.toNat-k)+a,?_⟩;show 2^z.toNat+mskN st=_;rw[ha,Nat.mul_add,<- Nat.pow_add,show k+(z.toNat-k)=z.toNat by lia]
theorem qMD:∀{st:List Int},st.Pairwise (·<·)->(∀x∈st,0<=x)->∀j:Nat,(mskN st).testBit j=decide ((j:Int)∈st)
 |[],_,_,j=>by show(0:Nat).testBit j=_;simp
 |z::st,up,nn,j=>by
  have up':=O0.mp up;have hz:=nn z (by simp)
  obtain⟨a,ha⟩:=qVF (k:=z.toNat+1) (st:=st) λx hx=>by have:=up'.1 x hx;lia
  have ih:=qMD up'.2 (λx hx=>nn x (A9 _ hx)) j;have e:mskN (z::st)=2^(z.toNat+1)*a+2^z.toNat:=by show 2^z.toNat+mskN st=_;rw[ha,Nat.add_comm]
  rw[e,Nat.testBit_two_pow_mul_add a (A21 (by decide) (by lia)) j]
  by_cases c:j<z.toNat+1
  ·rw[if_pos c,Y6];refine decide_eq_decide.mpr ⟨λh=>?_,λh=>?_⟩
   ·rw[B7];left;lia
   ·rcases B7.mp h with h|h
    ·lia
    ·have:=up'.1 _ h;lia
  ·rw[if_neg c];rw[ha,Nat.testBit_two_pow_mul] at ih;have:decide (j>=z.toNat+1)=true:=decide_eq_true (by lia)
   rw[this,i8] at ih;rw[ih];refine decide_eq_decide.mpr ⟨λh=>A9 _ h,λh=>?_⟩;rcases B7.mp h with h|h
   ·lia
   ·exact h
theorem Rise.nn {n:Int}{st:List Int}(r:Rise n st):∀x∈st,0<=x:=λx a=>(r.in_ x a).1
theorem qAX {n:Int}{st:List Int}(r:Rise n st)(j:Nat):(mskN st).testBit j=decide ((j:Int)∈st):=qMD r.up r.nn j
theorem qVG {n:Int}{st a:List Int}(r:Rise n st)(c:Rise n a)(h:mskN st=mskN a):st=a:=by
 refine qN1 r.up c.up λx=>?_
 constructor
 ·intro b;have e:=qAX r x.toNat;rw[h,qAX c x.toNat] at e;have d:=r.nn x b;rw[show((x.toNat:Nat):Int)=x by lia,decide_eq_true b] at e
  exact of_decide_eq_true e
 ·intro b;have e:=qAX r x.toNat;rw[h,qAX c x.toNat] at e;have d:=c.nn x b;rw[show((x.toNat:Nat):Int)=x by lia,decide_eq_true b] at e
  exact of_decide_eq_true e.symm
theorem qMU (b k:Nat):b/2^k%2=if b.testBit k=true then 1 else 0:=by
 rw[Nat.testBit_eq_decide_div_mod_eq];by_cases h:b/2^k%2=1
 ·rw[decide_eq_true h,if_pos rfl,h]
 ·rw[decide_eq_false h,if_neg C2]
  lia
theorem qYS {a b:List Int}(h:a.Perm b):mskN a=mskN b:=by
 induction h with
 |nil=>rfl
 |cons x _ ih=>show 2^x.toNat+mskN _=2^x.toNat+mskN _;rw[ih]
 |swap x y l=>show 2^y.toNat+(2^x.toNat+mskN l)=2^x.toNat+(2^y.toNat+mskN l);lia
 |trans _ _ h1 h2=>exact h1.trans h2
theorem qJY {st:List Int}(a:st.Nodup){k:Int}(h:k∈st):st.Perm (k::st.filter λx=>decide (x≠k)):=by
 have e:(st.filter λx=>decide (x≠k))=st.erase k:=by
  rw[a.erase_eq_filter];exact S9 λx _=>by simp[bne,BEq.beq]
 rw[e];exact List.perm_cons_erase h
theorem qQJ {n:Int}{st:List Int}(r:Rise n st)(k:Nat):clrb (mskN st) k=mskN (st.filter λx=>decide (x≠(k:Int))):=by
 unfold clrb;rw[qMU,qAX r];by_cases h:(k:Int)∈st
 ·rw[decide_eq_true h,if_pos rfl,Nat.mul_one,qYS (qJY r.nodup h)];show 2^((k:Int)).toNat+mskN _-_=_;rw[D2,Nat.add_sub_cancel_left]
 ·rw[decide_eq_false h,if_neg C2,Nat.mul_zero,Nat.sub_zero];congr 1;exact(Y5.mpr λx a=>by rw[decide_eq_true_eq];intro e;exact h (e▸a)).symm
theorem qKD {n:Int}{st ns:List Int}(r:Rise n st)(a:Rise n ns):mskN st &&& mskN ns=mskN ns↔∀y∈ns,y∈st:=by
 constructor
 ·intro h y d;have e:=congrArg (λb=>Nat.testBit b y.toNat) h;simp only[X2,qAX r,qAX a] at e;have f:=a.nn y d;rw[show((y.toNat:Nat):Int)=y by lia,decide_eq_true d,B02] at e
  exact of_decide_eq_true e
 ·intro h;refine P7 λj=>?_;rw[X2,qAX r,qAX a];by_cases c:(j:Int)∈ns
  ·rw[decide_eq_true c,decide_eq_true (h _ c)];rfl
  ·rw[decide_eq_false c,W5]
noncomputable def insL:List Int->Int->List Int
 |[],k=>[k]
 |x::r,k=>if k<x then k::x::r else x::insL r k
theorem qF8:∀(st:List Int) (k:Int),(insL st k).Perm (st++[k])
 |[],k=>.refl _
 |x::r,k=>by
  unfold insL
  split
  ·exact(List.perm_append_comm (l₁:=x::r) (l₂:=[k])).symm
  ·exact(qF8 r k).cons x
theorem mem_insL {st:List Int}{k x:Int}:x∈insL st k↔x∈st\/x=k:=by
 rw[(qF8 st k).mem_iff,B4,A5]
theorem qW6:∀{st:List Int} {k:Int},st.Pairwise (·<=·)->(insL st k).Pairwise (·<=·)
 |[],k,_=>by simp[insL]
 |x::r,k,h=>by
  have h':=O0.mp h;unfold insL
  split
  ·rename_i c
   refine O0.mpr ⟨λy hy=>?_,h⟩;rcases B7.mp hy with e|e
   ·lia
   ·have:=h'.1 y e;lia
  ·rename_i c
   refine O0.mpr ⟨λy hy=>?_,qW6 h'.2⟩;rcases mem_insL.mp hy with e|e
   ·exact h'.1 y e
   ·lia
theorem qRV (st:List Int)(k:Int):(insL st k).length=st.length+1:=by rw[(qF8 st k).length_eq,A8];rfl
noncomputable def behL (st:List Int) (m:Mv):List Int:=if m.1=B9 "do" then insL st m.2 else st.filter λx=>decide (x≠m.2)
theorem qFZ {n:Int} {st:List Int} {m:Mv} (r:Rise n st) (a:m.1 = "do"\/m.1 = "clear"):Beh st (behL st m) m.1 m.2:=by
 refine⟨λe=>?_,λe=>?_⟩
 ·unfold behL;rw[if_pos e];exact⟨qF8 _ _,qW6 (r.up.imp λh=>m5 h)⟩
 ·unfold behL;rw[if_neg (λz=>by rw[e] at z;exact qAF z)]
theorem qeL {n:Int} {st a:List Int} {m:Mv} (r:Rise n st) (b:m.1 = "do"\/m.1 = "clear") (h:Beh st a m.1 m.2):a=behL st m:=Beh.one b h (qFZ r b)
theorem qaG {n:Int}{st:List Int}(r:Rise n st){k:Nat}(b:(k:Int)∉st)(a:Rise n (insL st (k:Int))):mskN st ||| 2^k=mskN (insL st (k:Int)):=by
 refine P7 λj=>?_;rw[A28,qAX r,qAX a,Y6,Q7,Z3,decide_eq_true_eq,decide_eq_true_eq,decide_eq_true_eq,mem_insL]
 constructor
 ·rintro(h|h)
  ·exact .inl h
  ·exact .inr (by lia)
 ·rintro(h|h)
  ·exact .inl h
  ·exact .inr (by lia)
theorem qJ7 (p:Nat->Bool):∀l:List Nat,(l.map λk=>if p k=true then 1 else 0).sum=(l.filter p).length
 |[]=>rfl
 |k::l=>by
  rw[C7,j7,qJ7 p l,G9];cases p k
  ·simp
  ·simp;lia
theorem qX0 {n:Nat}{st:List Int}(r:Rise (n:Int) st):cntN n (mskN st)=st.length:=by
 unfold cntN;have e:((G8 n).map λk=>mskN st/2^k%2)=(G8 n).map λ(k:Nat)=>if(decide ((k:Int)∈st))=true then 1 else 0:=J8 λk _=>by rw[qMU,qAX r]
 rw[e,qJ7 (λ(k:Nat)=>decide ((k:Int)∈st))];have b:(((G8 n).filter λ(k:Nat)=>decide ((k:Int)∈st)).map λ(k:Nat)=>(k:Int))=st:=by
  refine qN1 ?_ r.up λx=>?_
  ·refine J2.mpr ?_;exact(z8.filter _).imp λh=>by lia
  ·rw[D5]
   constructor
   ·rintro⟨k,c,rfl⟩;exact of_decide_eq_true (D6.mp c).2
   ·intro a;have d:=r.in_ x a;exact⟨x.toNat,D6.mpr ⟨G3.mpr (by lia),decide_eq_true (by rw[show((x.toNat:Nat):Int)=x by lia];exact a)⟩,by lia⟩
 have:=congrArg j9 b
 rwa[A0] at this
section
variable{Ae:List (List Int)}{Aa:Int}
theorem due_iff {st:List Int} {m:Mv}:m∈qCZ Ae st Aa↔((m.1 = "do"\/m.1 = "clear")/\0<=m.2/\m.2<(Ae.length:Int))/\(m.1 = "do"->m.2∉st/\(∀y∈nd Ae m.2,y∈st)/\(st.length:Int)<Aa)/\(m.1 = "clear"->m.2∈st):=by
 unfold qCZ;rw[D6,decide_eq_true_eq]
 constructor
 ·rintro⟨f,d⟩;have a:=qRZ f;exact⟨a,qa0 a.1 d⟩
 ·rintro⟨⟨f,d,h⟩,k,i⟩;obtain⟨j,g⟩:=m;refine⟨?_,?_⟩
  ·unfold qMP qJP;rw[B4,D5,D5];rcases f with e|e
   ·exact .inl ⟨g.toNat,G3.mpr (by dsimp only at d h;lia),by dsimp only at e d ⊢;rw[e];congr 1;lia⟩
   ·exact .inr ⟨g.toNat,G3.mpr (by dsimp only at d h;lia),by dsimp only at e d ⊢;rw[e];congr 1;lia⟩
  ·show qCD _ st Aa j g=.non;unfold qCD;rcases f with e|e
   ·obtain⟨a,b,c⟩:=k e;dsimp only at e;rw[if_pos e];unfold qCV;rw[if_neg a,if_pos (show∀y∈(Ae[g.toNat]?).getD [],y∈st from b),if_neg (by lia)]
   ·have a:=i e;dsimp only at e;rw[if_neg (λz=>by rw[e] at z;exact qAF z)]
    unfold qCW;rw[if_pos a]
inductive Pt (Ae:List (List Int))(Aa:Int):Nat->List Int->Prop
 |zero:Pt Ae Aa 0 []
 |step {t:Nat} {st:List Int} {m:Mv}:Pt Ae Aa t st->m∈qCZ Ae st Aa->Pt Ae Aa (t+1) (behL st m)
theorem Pt.rise {t:Nat}{st:List Int}(h:Pt Ae Aa t st):Rise (Ae.length:Int) st:=by
 induction h with
 |zero=>exact .nil
 |step _ hm ih=>
  obtain⟨⟨a,b,c⟩,d,e⟩:=due_iff.mp hm;exact qS9 ih a b c (λz=>(d z).1) (qFZ ih a)
theorem qKA {st:List Int} (r:Rise (Ae.length:Int) st) {m:Mv} (f:m∈qCZ Ae st Aa):(m.1 = "do"/\(behL st m).length=st.length+1)\/(m.1 = "clear"/\(behL st m).length+1=st.length):=by
 obtain⟨⟨a,b,c⟩,d,e⟩:=due_iff.mp f;rcases a with a|a
 ·refine .inl ⟨a,?_⟩;unfold behL;rw[if_pos a,qRV]
 ·refine .inr ⟨a,?_⟩;unfold behL;rw[if_neg (λz=>by rw[a] at z;exact qAF z)]
  have:=(qJY r.nodup (e a)).length_eq;rw[C3] at this
  lia
theorem qV9 (a:WFn Ae){w:Int}(h:w<(Ae.length:Int)):Rise (Ae.length:Int) (nd Ae w):=by
 by_cases b:0<=w
 ·exact(qJM a w.toNat).mono (by lia)
 ·have:=qJM a w.toNat;rw[show w.toNat=0 by lia] at this
  unfold nd;rw[show w.toNat=0 by lia]
  exact this.mono (by lia)
theorem Pt.bits (j:WFn Ae){t:Nat}{st:List Int}(h:Pt Ae Aa t st):∃m,2*m=t+st.length/\Rm Ae Aa m (mskN st):=by
 induction h with
 |zero=>exact⟨0,rfl,.zero⟩
 |@step t st m h hm ih=>
  obtain⟨d,e,R⟩:=ih;have r:=h.rise;have i:=(Pt.step h hm).rise;obtain⟨⟨a,b,c⟩,q,u⟩:=due_iff.mp hm;have f:((m.2.toNat:Nat):Int)=m.2:=by lia
  rcases qKA r hm with⟨w,l⟩|⟨w,l⟩
  ·refine⟨d+1,by lia,?_⟩
   obtain⟨o,s,n⟩:=q w;have g:behL st m=insL st m.2:=by unfold behL;rw[if_pos w]
   rw[g] at i ⊢;have:=qaG (k:=m.2.toNat) r (by rw[f];exact o) (by rw[f];exact i)
   rw[f] at this;rw[<- this];refine .do_ R ⟨by rw[qX0 r];exact n,by lia,?_⟩
   have p:Rise (Ae.length:Int) (nd Ae m.2):=qV9 j c;exact(qKD r p).mpr s
  ·refine⟨d,by lia,?_⟩
   have g:behL st m=st.filter λx=>decide (x≠m.2):=by unfold behL;rw[if_neg (λz=>by rw[w] at z;exact qAF z)]
   rw[g];have:=qQJ r m.2.toNat;rw[f] at this;rw[<- this];exact .clr R (by lia)
theorem qbR {b k:Nat}(h:b.testBit k=true):b ||| 2^k=b:=by
 refine P7 λj=>?_;rw[A28,Y6];by_cases e:k=j
 ·subst e;simp[h]
 ·simp[e]
theorem Rm.path (o:WFn Ae){m b:Nat}(h:Rm Ae Aa m b):∃st t,b=mskN st/\Pt Ae Aa t st/\t+st.length<=2*m:=by
 induction h with
 |zero=>exact⟨[],0,rfl,.zero,by simp⟩
 |@clr m b k _ hk ih=>
  obtain⟨st,t,rfl,P,l⟩:=ih;have r:=P.rise;by_cases c:(k:Int)∈st
  ·have a:((B9 "clear",(k:Int)):Mv)∈qCZ Ae st Aa:=due_iff.mpr ⟨⟨.inr rfl,by show(0:Int)<=(k:Int);lia,by show(k:Int)<_;lia⟩,λz=>absurd z qAF,λ_=>c⟩
   refine⟨_,t+1,?_,.step P a,?_⟩
   ·rw[qQJ r];unfold behL;rw[if_neg qAF]
   ·rcases qKA r a with⟨w,_⟩|⟨_,u⟩
    ·exact absurd w qAF
    ·lia
  ·refine⟨st,t,?_,P,l⟩;rw[qQJ r];congr 1;exact Y5.mpr λx n=>by rw[decide_eq_true_eq];intro e;exact c (e▸n)
 |@do_ m b k _ hc ih=>
  obtain⟨st,t,rfl,P,l⟩:=ih;have r:=P.rise;by_cases c:(k:Int)∈st
  ·exact⟨st,t,qbR (by rw[qAX r];exact decide_eq_true c),P,by lia⟩
  ·obtain⟨d,s,f⟩:=hc;rw[qX0 r] at d;have p:Rise (Ae.length:Int) (nd Ae (k:Int)):=qV9 o (by lia)
   have q:nxt Ae k=mskN (nd Ae (k:Int)):=by unfold nxt nd;rw[D2]
   rw[q] at f;have a:((B9 "do",(k:Int)):Mv)∈qCZ Ae st Aa:=due_iff.mpr ⟨⟨.inl rfl,by show(0:Int)<=(k:Int);lia,by show(k:Int)<_;lia⟩,λ_=>⟨c,(qKD r p).mp f,d⟩,λz=>absurd z.symm qAF⟩
   have i:=Pt.step P a;have j:behL st ((B9 "do",(k:Int)):Mv)=insL st (k:Int):=by unfold behL;rw[if_pos rfl]
   refine⟨_,t+1,?_,i,?_⟩
   ·have g:=i.rise;rw[j] at g ⊢;exact qaG r c g
   ·rw[j,qRV]
    lia
def Mt (Ae:List (List Int))(Aa:Int)(t:Nat)(st:List Int):Prop:=Pt Ae Aa t st/\∀u,u<t->¬Pt Ae Aa u st
theorem Mt.one {t u:Nat}{st:List Int}(h:Mt Ae Aa t st)(h':Mt Ae Aa u st):t=u:=by
 rcases c5 t u with c|c|c
 ·exact absurd h.1 (h'.2 t c)
 ·exact c
 ·exact absurd h'.1 (h.2 u c)
structure BF (Ae:List (List Int))(Aa:Int)(t:Nat)(ks due ly:List (List Int))(f:List Int->Nat)(i k:Nat):Prop where
 nd:ks.Nodup
 snd:∀s∈ks,∃u,u<=t+1/\Mt Ae Aa u s/\2*f s=u+s.length
 full:∀u s,u<=t->Pt Ae Aa u s->s∈ks
 duem:∀s,s∈due↔Mt Ae Aa t s
 lym:∀s,s∈ly↔s∈ks/\Mt Ae Aa (t+1) s
 done:∀j s,due[j]?=some s->j<i->∀m∈qCZ Ae s Aa,behL s m∈ks
 dk:∀s,due[i]?=some s->∀m∈(qCZ Ae s Aa).take k,behL s m∈ks
theorem BF.start:BF Ae Aa 0 [[]] [[]] [] (λ_=>0) 0 0:=by
 have z:∀s,Pt Ae Aa 0 s->s=[]:=λs h=>by cases h;rfl
 have a:Mt Ae Aa 0 []:=⟨.zero,λu b=>absurd b (G6 _)⟩;refine⟨by simp,λs d=>?_,λu s b p=>?_,λs=>?_,λs=>?_,λj s _ f=>absurd f (G6 _),λs _ m c=>by simp at c⟩
 ·rw[A5.mp d];exact⟨0,by lia,a,rfl⟩
 ·have:u=0:=by lia
  subst this;rw[z s p];simp
 ·rw[A5];exact⟨λe=>e▸a,λh=>z s h.1⟩
 ·constructor
  ·intro h;cases h
  ·rintro⟨h,m⟩;rw[A5.mp h] at m;exact absurd (Mt.one m a) (by lia)
section
variable{t:Nat}{ks due ly:List (List Int)}{f:List Int->Nat}{i k:Nat}
theorem BF.hit (h:BF Ae Aa t ks due ly f i k){s:List Int}{m:Mv}(b:due[i]?=some s)(c:(qCZ Ae s Aa)[k]?=some m)(d:behL s m∈ks):BF Ae Aa t ks due ly f i (k+1):=by
 refine⟨h.nd,h.snd,h.full,h.duem,h.lym,h.done,λj e g a=>?_⟩;rw[b] at e;cases e;rw[C6,c,C8,B4,A5] at a;rcases a with z|z
 ·exact h.dk s b g z
 ·rw[z];exact d
noncomputable def qIL (f:List Int->Nat)(x:List Int)(v:Nat):List Int->Nat:=λy=>if y=x then v else f y
theorem qL9 (f:List Int->Nat)(x:List Int)(v:Nat):qIL f x v x=v:=if_pos rfl
theorem qIX {f:List Int->Nat}{x y:List Int}{v:Nat}{ks:List (List Int)}(h:y∈ks)(a:x∉ks):qIL f x v y=f y:=if_neg λe=>a (by rw[<- e];exact h)
theorem qJA {ks:List (List Int)}{x:List Int}(d:ks.Nodup)(h:x∉ks):(ks++[x]).Nodup:=by
 rw[S0];exact⟨d,by simp,λa c b f e=>h (by rw[A5.mp f] at e;exact e▸c)⟩
theorem BF.val (h:BF Ae Aa t ks due ly f i k){s:List Int}(b:s∈due):s∈ks/\2*f s=t+s.length:=by
 have m:=(h.duem s).mp b;have a:=h.full t s (A7 _) m.1;obtain⟨u,_,c,e⟩:=h.snd s a;rw[Mt.one c m] at e;exact⟨a,e⟩
theorem BF.add (h:BF Ae Aa t ks due ly f i k){s:List Int}{m:Mv}(d:due[i]?=some s)(n:(qCZ Ae s Aa)[k]?=some m)(c:behL s m∉ks):
  BF Ae Aa t (ks++[behL s m]) due (ly++[behL s m]) (qIL f (behL s m) (f s+if m.1=B9 "do" then 1 else 0)) i (k+1):=by
 have b:=B1 d;have o:=(h.duem s).mp b;obtain⟨a0,ev⟩:=h.val b;have q:=B1 n;have r:Mt Ae Aa (t+1) (behL s m):=⟨.step o.1 q,λu v p=>c (h.full u _ (by lia) p)⟩
 refine⟨qJA h.nd c,λx y=>?_,λu x v p=>B4.mpr (.inl (h.full u x v p)),h.duem,λx=>?_,λj x e hj g a=>B4.mpr (.inl (h.done j x e hj g a)),λx e g a=>?_⟩
 ·rcases B4.mp y with z|z
  ·rw[qIX z c];exact h.snd x z
  ·rw[A5.mp z,qL9];refine⟨t+1,A7 _,r,?_⟩;rcases qKA o.1.rise q with⟨w,l⟩|⟨w,l⟩
   ·rw[if_pos w];lia
   ·rw[if_neg (λz=>by rw[w] at z;exact qAF z)];lia
 ·rw[B4,B4,A5,h.lym x]
  constructor
  ·rintro(z|z)
   ·exact⟨.inl z.1,z.2⟩
   ·exact⟨.inr z,z▸r⟩
  ·rintro⟨z|z,e⟩
   ·exact .inl ⟨z,e⟩
   ·exact .inr z
 ·rw[d] at e;cases e;rw[C6,n,C8,B4,A5] at a;rcases a with z|z
  ·exact B4.mpr (.inl (h.dk s d g z))
  ·rw[z];simp
theorem BF.next (h:BF Ae Aa t ks due ly f i k){s:List Int}(b:due[i]?=some s)(d:(qCZ Ae s Aa).length<=k):BF Ae Aa t ks due ly f (i+1) 0:=by
 refine⟨h.nd,h.snd,h.full,h.duem,h.lym,λj x e g m a=>?_,λs _ m a=>by simp at a⟩
 by_cases c:j=i
 ·subst c;rw[b] at e;cases e;exact h.dk s b m (by rw[E7 d];exact a)
 ·exact h.done j x e (by lia) m a
theorem BF.level (h:BF Ae Aa t ks due ly f i k)(hi:due.length<=i):BF Ae Aa (t+1) ks ly [] f 0 0:=by
 have full:∀u s,u<=t+1->Pt Ae Aa u s->s∈ks:=λu s g p=>by
  cases p with
  |zero=>exact h.full 0 [] (by lia) .zero
  |@step u st m p hm=>
   have a:=h.full u st (by lia) p
   obtain⟨v,q,d,_⟩:=h.snd st a;have n:v<=u:=by
    apply Q6;intro z;exact d.2 u (by lia) p
   by_cases e:v=t
   ·subst e;obtain⟨j,b,l⟩:=Y4 ((h.duem st).mpr d);exact h.done j st (by rw[A4 b,l]) (by lia) m hm
   ·exact h.full (v+1) _ (by lia) (.step d.1 hm)
 refine⟨h.nd,λs c=>?_,full,λs=>?_,λs=>?_,λj s _ b=>absurd b (G6 _),λs _ m hm=>by simp at hm⟩
 ·obtain⟨u,g,r⟩:=h.snd s c;exact⟨u,by lia,r⟩
 ·rw[h.lym s];exact⟨λz=>z.2,λz=>⟨full _ _ (A7 _) z.1,z⟩⟩
 ·constructor
  ·intro z;cases z
  ·rintro⟨c,m⟩;obtain⟨u,g,o,_⟩:=h.snd s c;exact absurd (Mt.one o m) (by lia)
structure Rch (Ae:List (List Int))(Aa:Int)(ks:List (List Int))(f:List Int->Nat):Prop where
 nd:ks.Nodup
 snd:∀s∈ks,∃u,Mt Ae Aa u s/\2*f s=u+s.length
 all:∀u s,Pt Ae Aa u s->s∈ks
theorem BF.rch (h:BF Ae Aa t ks [] [] f i k):Rch Ae Aa ks f:=by
 have c:∀s∈ks,∃u,u<t/\Mt Ae Aa u s:=λs a=>by
  obtain⟨u,m,b,_⟩:=h.snd s a;have g:u≠t:=λe=>nomatch(h.duem s).mpr (e▸b);have l:u≠t+1:=λe=>nomatch(h.lym s).mpr ⟨a,e▸b⟩;exact⟨u,by lia,b⟩
 refine⟨h.nd,λs a=>let⟨u,_,r⟩:=h.snd s a;⟨u,r⟩,λu s p=>?_⟩
 induction p with
 |zero=>exact h.full 0 [] (by lia) .zero
 |step p hm ih=>
  obtain⟨v,j,d⟩:=c _ ih;exact h.full (v+1) _ (by lia) (.step d.1 hm)
theorem BF.len (h:BF Ae Aa t ks due ly f i k):ks.length<=2^Ae.length:=by
 have c:∀s∈ks,Rise (Ae.length:Int) s:=λs d=>let⟨_,_,m,_⟩:=h.snd s d;m.1.rise
 have nd:(ks.map mskN).Nodup:=by
  refine J2.mpr (h.nd.imp_of_mem λ{a b} o l g e=>g (qVG (c a o) (c b l) e))
 have:=qEF (n:=2^Ae.length) nd λb l=>by
  obtain⟨s,d,rfl⟩:=D5.mp l;refine o7 _ λj p=>?_;rw[qAX (c s d)];refine decide_eq_false λz=>?_;have:=((c s d).in_ _ z).2
  lia
 rwa[A0] at this
end
theorem Rch.le {ks:List (List Int)}{f:List Int->Nat}(h:Rch Ae Aa ks f){s:List Int}(a:s∈ks){t:Nat}(p:Pt Ae Aa t s):2*f s<=t+s.length:=by
 obtain⟨u,m,e⟩:=h.snd s a;have:u<=t:=by
  apply Q6;intro z;exact m.2 t (by lia) p
 lia
end
theorem _root_.L2.lm_hu {X:Cx}{a:Scope}{p:Str}{fv:List Nat}{q:Str}(z:LmZ):(lmCx X a p fv q z).A.units+1<cLine:=by
 have:=z.rm.un;show z.A.units+3+1<cLine
 lia
theorem _root_.L2.hu2_of {k:Nat}{A:Around}(a:Room k A):A.in1.units+1<cLine:=by
 have:=a.units;show A.units+1+1<cLine
 lia
noncomputable def keyS (s:List Int):List Key:=s.map D7
theorem qF7 (s:List Int):(keyS s).map kV=s.map V.int:=by unfold keyS;rw[Y9];rfl
theorem qMG {s c:List Int}(h:keyS s=keyS c):s=c:=by
 unfold keyS at h;exact List.map_inj_right (λa b e=>U7 e) |>.mp h
def Val3 (H:Hp)(v:V)(n:Nat):Prop:=∃r x y,v=.ref r/\H r=some (.tup [.int (n:Int),x,y])
def Ent (H:Hp)(Af:List (List Key×V))(ks:List (List Int))(f:List Int->Nat):Prop:=Paired (λ(kv:List Key×V) s=>kv.1=keyS s/\Val3 H kv.2 (f s)) Af ks
section
variable{H H':Hp}{Af:List (List Key×V)}{ks:List (List Int)}{f:List Int->Nat}
theorem Ent.val:∀{Af:List (List Key×V)} {ks:List (List Int)},Ent H Af ks f->∀{s:List Int},s∈ks->∃v,valV Af (keyS s)=some v/\Val3 H v (f s)
 |_,_,.nil,s,hs=>nomatch hs
 |_,_,.cons (a:=kv) (b:=s0) ⟨e,v3⟩ t,s,hs=>by
  by_cases c:s0=s
  ·subst c;exact⟨kv.2,qBG e,v3⟩
  ·rw[qB9 (λz=>c (qMG (e.symm.trans z)))];exact Ent.val t ((B7.mp hs).resolve_left λz=>c z.symm)
theorem Ent.none:∀{Af:List (List Key×V)} {ks:List (List Int)},Ent H Af ks f->∀{s:List Int},s∉ks->valV Af (keyS s)=none
 |_,_,.nil,s,hs=>rfl
 |_,_,.cons (a:=kv) (b:=s0) ⟨e,v3⟩ t,s,hs=>by
  rw[qB9 (λz=>hs (by rw[qMG (e.symm.trans z)];simp))]
  exact Ent.none t λz=>hs (A9 _ z)
theorem Ent.len (h:Ent H Af ks f):Af.length=ks.length:=B6 h
end
def StL (H:Hp)(rs:List Addr)(ss:List (List Int)):Prop:=Paired (λ(r:Addr) (s:List Int)=>H r=some (.tup (s.map V.int))) rs ss
theorem StL.same {H H':Hp}{rs:List Addr}{a:List (List Int)}(h:StL H rs a)(b:Same H H'):StL H' rs a:=Paired.mapP h λ_ _ z=>b _ _ z
theorem StL.put {H:Hp}{rs:List Addr}{a:List (List Int)}{d:Addr}{o u:HO}(h:StL H rs a)(b:H d=some o)(c:∀xs,o≠.tup xs):StL (Ag H d u) rs a:=Paired.mapP h λr s z=>by
 rw[qA8 (qCC z b λe=>c _ e.symm)];exact z
theorem StL.snoc {H:Hp}{rs:List Addr}{b:List (List Int)}{r:Addr}{s:List Int}(h:StL H rs b)(g:H r=some (.tup (s.map V.int))):StL H (rs++[r]) (b++[s]):=by
 induction h with
 |nil=>exact .cons g .nil
 |cons a _ ih=>exact .cons a ih
theorem MovL.putG {H:Hp}{rs:List Addr}{a:List Mv}{d:Addr}{o u:HO}(h:MovL H rs a)(b:H d=some o)(c:∀xs,o≠.tup xs):MovL (Ag H d u) rs a:=Paired.mapP h λr s z=>by
 rw[qA8 (qCC z b λe=>c _ e.symm)];exact z
theorem qHQ:∀a b c:List Int,HT.lexLt a b=false->HT.lexLt b c=false->HT.lexLt a c=false
 |[],[],c,_,h=>h
 |[],_::_,c,h,_=>by cases h
 |x::a,[],[],_,_=>rfl
 |x::a,[],_::_,_,h=>by cases h
 |x::a,y::b,[],_,_=>rfl
 |x::a,y::b,z::c,h1,h2=>by
  rw[HT.lexLt_cons] at h1 h2 ⊢;by_cases e1:x=y
  ·subst e1;rw[if_pos rfl] at h1;by_cases e2:x=z
   ·rw[if_pos e2] at h2 ⊢;exact qHQ a b c h1 h2
   ·rw[if_neg e2] at h2 ⊢;exact h2
  ·rw[if_neg e1] at h1;have h1:=of_decide_eq_false h1;by_cases e2:y=z
   ·subst e2;rw[if_neg e1];exact decide_eq_false h1
   ·rw[if_neg e2] at h2;have h2:=of_decide_eq_false h2;rw[if_neg (by lia)]
    exact decide_eq_false (by lia)
theorem qRS:∀a b:List Int,HT.lexLt a b=true->HT.lexLt b a=false
 |[],[],_=>rfl
 |[],_::_,_=>rfl
 |_::_,[],h=>by cases h
 |x::a,y::b,h=>by
  rw[HT.lexLt_cons] at h ⊢;by_cases e:x=y
  ·subst e;rw[if_pos rfl] at h ⊢;exact qRS a b h
  ·rw[if_neg e] at h;have h:=of_decide_eq_true h;rw[if_neg (by lia)]
   exact decide_eq_false (by lia)
theorem qJH:∀(r:List (V×List Int)) (b:V×List Int),∃k,(qEW b r,k)∈b::r/\∀q∈b::r,HT.lexLt q.2 k=false
 |[],b=>⟨b.2,by simp[qEW],λq hq=>by rw[A5.mp hq];exact qPW _⟩
 |x::r,b=>by
  by_cases e:HT.lexLt x.2 b.2=true
  ·obtain⟨k,h1,h2⟩:=qJH r x;have ep:qEW b (x::r)=qEW x r:=by rw[qEW,if_pos e]
   rw[ep];refine⟨k,A9 _ h1,λq hq=>?_⟩;rcases B7.mp hq with z|z
   ·rw[z];exact qHQ _ _ _ (qRS _ _ e) (h2 x (by simp))
   ·exact h2 q z
  ·obtain⟨k,h1,h2⟩:=qJH r b;have ep:qEW b (x::r)=qEW b r:=by rw[qEW,if_neg e]
   rw[ep];refine⟨k,?_,λq hq=>?_⟩
   ·rcases B7.mp h1 with z|z
    ·rw[z];simp
    ·exact A9 _ (A9 _ z)
   ·rcases B7.mp hq with z|z
    ·exact h2 q (by rw[z];simp)
    ·rcases B7.mp z with z|z
     ·rw[z];exact qHQ _ _ _ (F5.mpr e) (h2 b (by simp))
     ·exact h2 q (A9 _ z)
def TabB (H:Hp) (Pt:Addr):Prop:=H Pt=some (.tbl (.tab "best_end.<locals>.<lambda>"))
def qa6 (Pt:Addr):Sp:=λvs H Q _=>∃(d t:Addr) (o:Obj) (Af:List (List Key×V)) (ks:List (List Int)) (f:List Int->Nat) (Ad:List Int),vs=[.ref d,.ref t]/\TabB H Pt/\H d=some (.frz o (.dT Af))/\Ent H Af ks f/\ks.length<=4096/\H t=some (.tup (Ad.map V.int))/\Ad.length<=63/\
 ∀H',Same H H'->((∀s∈ks,¬ ∀x∈Ad,x∈s)->Q .non H')/\∀r s,H' r=some (.tup (s.map V.int))->s∈ks->(∀x∈Ad,x∈s)->(∀s'∈ks,(∀x∈Ad,x∈s')->f s<=f s')->Q (.ref r) H'
def LB (Ae:List (List Int))(Aa:Int)(Ad:List Int):Option Nat->Prop
 |none=>∀m b,Rm Ae Aa m b->¬b &&& mskN Ad=mskN Ad
 |some k=>(∃b,Rm Ae Aa k b/\b &&& mskN Ad=mskN Ad)/\∀m b,Rm Ae Aa m b->b &&& mskN Ad=mskN Ad->k<=m
section
variable{Ae:List (List Int)}{Aa:Int}{Ad:List Int}
theorem qXC (i:WFn Ae)(j:Rise (Ae.length:Int) Ad){ks:List (List Int)}{f:List Int->Nat}(h:Rch Ae Aa ks f){s:List Int}(r:s∈ks)(o:∀x∈Ad,x∈s)(le:∀s'∈ks,(∀x∈Ad,x∈s')->f s<=f s'):LB Ae Aa Ad (some (f s)):=by
 obtain⟨u,m,e⟩:=h.snd s r;obtain⟨d,w,R⟩:=m.1.bits i;have n:d=f s:=by lia
 subst n;refine⟨⟨_,R,(qKD m.1.rise j).mpr o⟩,λy b q p=>?_⟩;obtain⟨k,t,v,P,l⟩:=q.path i;subst v;have g:=h.all t k P;have a:=le k g ((qKD P.rise j).mp p);have c:=h.le g P
 lia
theorem qXD (c:WFn Ae)(d:Rise (Ae.length:Int) Ad){ks:List (List Int)}{f:List Int->Nat}(h:Rch Ae Aa ks f)(g:∀s∈ks,¬ ∀x∈Ad,x∈s):LB Ae Aa Ad none:=λm b R e=>by
 obtain⟨a,t,i,P,l⟩:=R.path c;subst i;exact g a (h.all t a P) ((qKD P.rise d).mp e)
theorem qa7 {a:List Mv}{s t:List Int}(h:Run Ae Aa s a t):∀{u:Nat},(∀m∈a,0<=m.2/\m.2<(Ae.length:Int))->Pt Ae Aa u s->Pt Ae Aa (u+a.length) t:=by
 induction h with
 |nil=>exactλ_ p=>p
 |@do_ s s' t w a h1 h2 h3 h4 h5 h6 ih=>
  intro u b p;have d:((B9 "do",w):Mv)∈qCZ Ae s Aa:=due_iff.mpr ⟨⟨.inl rfl,(b _ (by simp)).1,(b _ (by simp)).2⟩,λ_=>⟨h1,h2,h3⟩,λz=>absurd z.symm qAF⟩
  have e:s'=behL s (B9 "do",w):=by
   unfold behL;rw[if_pos rfl];refine qN1 h5 ((Pt.step p d).rise.up |> λz=>by unfold behL at z;rw[if_pos rfl] at z;exact z) λx=>?_
   rw[h4.mem_iff,mem_insL,B4,A5]
  have:=ih (u:=u+1) (λm c=>b m (A9 _ c)) (by rw[e];exact .step p d)
  rw[C3,show u+(a.length+1)=u+1+a.length by lia]
  exact this
 |@clear s t w a h1 h2 ih=>
  intro u b p;have d:((B9 "clear",w):Mv)∈qCZ Ae s Aa:=due_iff.mpr ⟨⟨.inr rfl,(b _ (by simp)).1,(b _ (by simp)).2⟩,λz=>absurd z qAF,λ_=>h1⟩
  have:=ih (u:=u+1) (fun m c=>b m (A9 _ c)) (by
   have q:=Pt.step p d;unfold behL at q;rw[if_neg qAF] at q;exact q)
  rw[C3,show u+(a.length+1)=u+1+a.length by lia]
  exact this
theorem qRT {P:Nat->Prop}:∀n,P n->∃k,P k/\∀m,P m->k<=m:=by
 intro n
 induction n using Z5 with
 |_ n ih=>
  intro h;by_cases c:∃m,m<n/\P m
  ·obtain⟨m,d,a⟩:=c;exact ih m d a
  ·exact⟨n,h,λm b=>Y1 λz=>c ⟨m,z,b⟩⟩
theorem qfU (Ae:List (List Int))(Aa:Int)(Ad:List Int):∃o,LB Ae Aa Ad o:=by
 by_cases c:∃m b,Rm Ae Aa m b/\b &&& mskN Ad=mskN Ad
 ·obtain⟨m,b,R,e⟩:=c;obtain⟨k,⟨d,f,a⟩,l⟩:=qRT (P:=λm=>∃b,Rm Ae Aa m b/\b &&& mskN Ad=mskN Ad) m ⟨b,R,e⟩;exact⟨some k,⟨d,f,a⟩,λm b R e=>l m ⟨b,R,e⟩⟩
 ·exact⟨none,λm b R e=>c ⟨m,b,R,e⟩⟩
noncomputable def lstO (Ae:List (List Int))(Aa:Int)(Ad:List Int):Option Nat:=A68 (qfU Ae Aa Ad)
noncomputable def upS (Ae:List (List Int))(Ad:List Int)(r:Nat):List (Nat×Nat):=(G8 r).filterMap λi=>(lstO Ae ((i+1:Nat):Int) Ad).map λk=>(i+1,k)
end
theorem Rch.len {Ae:List (List Int)}{Aa:Int}{ks:List (List Int)}{f:List Int->Nat}(h:Rch Ae Aa ks f):ks.length<=2^Ae.length:=by
 have c:∀s∈ks,Rise (Ae.length:Int) s:=λs d=>let⟨_,m,_⟩:=h.snd s d;m.1.rise
 have nd:(ks.map mskN).Nodup:=J2.mpr (h.nd.imp_of_mem λ{a b} k i g e=>g (qVG (c a k) (c b i) e));have:=qEF (n:=2^Ae.length) nd λb i=>by
  obtain⟨s,d,rfl⟩:=D5.mp i;refine o7 _ λj l=>?_;rw[qAX (c s d)];refine decide_eq_false λz=>?_;have:=((c s d).in_ _ z).2
  lia
 rwa[A0] at this
abbrev Prv:=Option (List Int×Mv)
def ValX (H:Hp)(v:V)(n:Nat):Prv->Prop
 |none=>∃r,v=.ref r/\H r=some (.tup [.int (n:Int),.non,.non])
 |some (p,m)=>∃r rp rm,v=.ref r/\H r=some (.tup [.int (n:Int),.ref rp,.ref rm])/\H rp=some (.tup (p.map V.int))/\H rm=some (.tup [.str m.1,.int m.2])
theorem ValX.same {H H':Hp}{v:V}{n:Nat}{o:Prv}(h:ValX H v n o)(a:Same H H'):ValX H' v n o:=by
 cases o with
 |none=>obtain⟨r,e,g⟩:=h;exact⟨r,e,a _ _ g⟩
 |some pm=>obtain⟨r,c,f,e,b,d,i⟩:=h;exact⟨r,c,f,e,a _ _ b,a _ _ d,a _ _ i⟩
theorem ValX.put {H:Hp}{v:V}{n:Nat}{q:Prv}{d:Addr}{o u:HO}(h:ValX H v n q)(f:H d=some o)(a:∀xs,o≠.tup xs):ValX (Ag H d u) v n q:=by
 have k:∀(r:Addr) (xs:List V),H r=some (.tup xs)->(Ag H d u) r=some (.tup xs):=λr xs g=>by
  rw[qA8 (qCC g f λz=>a _ z.symm)];exact g
 cases q with
 |none=>obtain⟨r,e,g⟩:=h;exact⟨r,e,k _ _ g⟩
 |some pm=>obtain⟨r,c,j,e,b,i,l⟩:=h;exact⟨r,c,j,e,k _ _ b,k _ _ i,k _ _ l⟩
theorem ValX.val3 {H:Hp}{v:V}{n:Nat}{o:Prv}(h:ValX H v n o):Val3 H v n:=by
 cases o with
 |none=>obtain⟨r,e,g⟩:=h;exact⟨r,_,_,e,g⟩
 |some pm=>obtain⟨r,b,a,e,g,_⟩:=h;exact⟨r,_,_,e,g⟩
def EntX (H:Hp)(Af:List (List Key×V))(ks:List (List Int))(f:List Int->Nat)(g:List Int->Prv):Prop:=Paired (λ(kv:List Key×V) s=>kv.1=keyS s/\ValX H kv.2 (f s) (g s)) Af ks
noncomputable def gset (g:List Int->Prv)(x:List Int)(v:Prv):List Int->Prv:=λy=>if y=x then v else g y
section
variable{H H':Hp}{Af:List (List Key×V)}{ks:List (List Int)}{f:List Int->Nat}{g:List Int->Prv}
theorem EntX.same (h:EntX H Af ks f g)(a:Same H H'):EntX H' Af ks f g:=Paired.mapP h λ_ _ z=>⟨z.1,z.2.same a⟩
theorem EntX.put {d:Addr}{o u:HO}(h:EntX H Af ks f g)(a:H d=some o)(b:∀xs,o≠.tup xs):EntX (Ag H d u) Af ks f g:=Paired.mapP h λ_ _ z=>⟨z.1,z.2.put a b⟩
theorem EntX.ent (h:EntX H Af ks f g):Ent H Af ks f:=Paired.mapP h λ_ _ z=>⟨z.1,z.2.val3⟩
theorem EntX.val:∀{Af:List (List Key×V)} {ks:List (List Int)},EntX H Af ks f g->∀{s:List Int},s∈ks->∃v,valV Af (keyS s)=some v/\ValX H v (f s) (g s)
 |_,_,.nil,s,hs=>nomatch hs
 |_,_,.cons (a:=kv) (b:=s0) ⟨e,v3⟩ t,s,hs=>by
  by_cases c:s0=s
  ·subst c;exact⟨kv.2,qBG e,v3⟩
  ·rw[qB9 (λz=>c (qMG (e.symm.trans z)))];exact EntX.val t ((B7.mp hs).resolve_left λz=>c z.symm)
theorem EntX.snoc (h:EntX H Af ks f g){s:List Int}(c:s∉ks){v:V}{n:Nat}{o:Prv}(e:ValX H v n o):EntX H (putK Af (keyS s) v) (ks++[s]) (qIL f s n) (gset g s o):=by
 rw[qIU v (h.ent.none c)];have d:EntX H Af ks (qIL f s n) (gset g s o):=by
  have:∀{Af:List (List Key×V)} {ks:List (List Int)},EntX H Af ks f g->s∉ks->EntX H Af ks (qIL f s n) (gset g s o):=by
   intro Af ks h
   induction h with
   |nil=>exactλ_=>.nil
   |@cons kv s0 l1 l2 a t ih=>exactλb=>.cons ⟨a.1,by rw[show qIL f s n s0=f s0 from if_neg λz=>b (by rw[z];simp),show gset g s o s0=g s0 from if_neg λz=>b (by rw[z];simp)];exact a.2⟩ (ih λz=>b (A9 _ z))
  exact this h c
 have:∀{Af:List (List Key×V)} {ks:List (List Int)},EntX H Af ks (qIL f s n) (gset g s o)->EntX H (Af++[(keyS s,v)]) (ks++[s]) (qIL f s n) (gset g s o):=by
  intro Af ks h
  induction h with
  |nil=>exact .cons ⟨rfl,by rw[show qIL f s n s=n from if_pos rfl,show gset g s o s=o from if_pos rfl];exact e⟩ .nil
  |cons a _ ih=>exact .cons a ih
 exact this d
end
section
variable{Ae:List (List Int)}{Aa:Int}{ks ks':List (List Int)}{f f':List Int->Nat}{g g':List Int->Prv}
def Prov (Ae:List (List Int))(Aa:Int)(ks:List (List Int))(f:List Int->Nat)(g:List Int->Prv):Prop:=
 ∀s∈ks,(s=[]/\g s=none/\f s=0)\/∃p m,g s=some (p,m)/\p∈ks/\m∈qCZ Ae p Aa/\s=behL p m/\f s=f p+if m.1=B9 "do" then 1 else 0
theorem qc2 {a b:List (List Int)}(e:a.Nodup)(d:b.Nodup)(h:∀x∈a,x∈b):a.length<=b.length:=by
 have p:a.Perm (b.filter λx=>decide (x∈a)):=(l8 e (d.filter _)).mpr λx=>by
  rw[D6,decide_eq_true_eq];exact⟨λc=>⟨h x c,c⟩,λc=>c.2⟩
 rw[p.length_eq];exact J5 _ _
noncomputable def qF3 (g:List Int->Prv):Nat->List Int->List Mv
 |0,_=>[]
 |n+1,s=>match g s with
  |none=>[]
  |some (p,m)=>qF3 g n p++[m]
noncomputable def pth (f:List Int->Nat)(g:List Int->Prv)(s:List Int):List Mv:=qF3 g (2*f s-s.length) s
theorem qLQ (R:Rch Ae Aa ks f) {p:List Int} {m:Mv} (b:p∈ks) (d:m∈qCZ Ae p Aa) {u:Nat} (e:2*(f p+if m.1=B9 "do" then 1 else 0)=u+(behL p m).length):∃v,u=v+1/\2*f p=v+p.length:=by
 obtain⟨v,c,a⟩:=R.snd p b;refine⟨v,?_,a⟩;rcases qKA c.1.rise d with⟨w,l⟩|⟨w,l⟩
 ·rw[if_pos w] at e;lia
 ·rw[if_neg (λz=>by rw[w] at z;exact qAF z)] at e;lia
theorem qbD (l:WFn Ae){p:List Int}{m:Mv}{t:Nat}(P:Pt Ae Aa t p)(f:m∈qCZ Ae p Aa):Run Ae Aa p [m] (behL p m):=by
 have r:=P.rise;have i:=(Pt.step P f).rise;obtain⟨⟨a,b,c⟩,d,e⟩:=due_iff.mp f;obtain⟨g,n⟩:=m;rcases a with a|a
 ·have a:g=B9 "do":=a
  subst a;obtain⟨j,k,h⟩:=d rfl;exact .do_ j k h (by unfold behL;rw[if_pos rfl];exact qF8 _ _) i.up .nil
 ·have a:g=B9 "clear":=a;subst a;unfold behL;rw[if_neg (λz=>qAF z)];exact .clear (e rfl) .nil
theorem qRH (wf:WFn Ae)(R:Rch Ae Aa ks f)(pv:Prov Ae Aa ks f g):∀(u:Nat) (s:List Int),s∈ks->2*f s=u+s.length->Run Ae Aa [] (qF3 g u s) s/\(qBA (qF3 g u s)).length=f s/\MvOk Ae (qF3 g u s)/\(qF3 g u s).length=u/\
  ∃L:List (List Int),L.length=u+1/\L.Nodup/\∀x∈L,x∈ks/\∃v,v<=u/\2*f x=v+x.length
 |0,s,hs,e=>by
  rcases pv s hs with⟨a1,a2,a3⟩|⟨p,m,a1,a2,a3,a4,a5⟩
  ·subst a1;refine⟨.nil,by rw[a3];rfl,(λ_ z=>by cases z),rfl,[[]],rfl,by simp,λx hx=>by rw[A5.mp hx];exact⟨hs,0,A7 _,e⟩⟩
  ·rw[a5,a4] at e;obtain⟨v,z,_⟩:=qLQ R a2 a3 e
   lia
 |u+1,s,hs,e=>by
  rcases pv s hs with⟨a1,a2,a3⟩|⟨p,m,a1,a2,a3,a4,a5⟩
  ·rw[a3,a1] at e;simp at e
  ·have e2:=e;rw[a5,a4] at e2;obtain⟨v,z1,z2⟩:=qLQ R a2 a3 e2;have:v=u:=by lia
   subst this;obtain⟨i1,i2,i3,i4,L,i5,i6,i7⟩:=qRH wf R pv v p a2 z2;obtain⟨_,mp,_⟩:=R.snd p a2;have ep:qF3 g (v+1) s=qF3 g v p++[m]:=by show(match g s with|none=>[]|some (p,m)=>qF3 g v p++[m])=_;rw[a1]
   rw[ep];have one:=qbD wf mp.1 a3;rw[<- a4] at one;have dd:(qBA [m]).length=if m.1=B9 "do" then 1 else 0:=by
    unfold qBA;rw[L0]
    split<;>rename_i h
    ·split at h
     ·cases h
     ·rename_i hn;rw[if_neg hn];rfl
    ·split at h
     ·rename_i hy;rw[if_pos hy];rfl
     ·cases h
   refine⟨i1.app one,by rw[qO5,A8,i2,dd,a5],λx hx=>?_,by rw[A8,i4];rfl,L++[s],by rw[A8,i5];rfl,qJA i6 λhz=>?_,λx hx=>?_⟩
   ·rcases B4.mp hx with z|z
    ·exact i3 x z
    ·rw[A5.mp z];exact(due_iff.mp a3).1
   ·obtain⟨_,w,w1,w2⟩:=i7 s hz
    lia
   ·rcases B4.mp hx with z|z
    ·obtain⟨j1,w,w1,w2⟩:=i7 x z;exact⟨j1,w,by lia,w2⟩
    ·rw[A5.mp z];exact⟨hs,v+1,A7 _,e⟩
theorem qP9 (h:WFn Ae)(R:Rch Ae Aa ks f)(i:Prov Ae Aa ks f g){s:List Int}(a:s∈ks):Run Ae Aa [] (pth f g s) s/\(qBA (pth f g s)).length=f s/\MvOk Ae (pth f g s)/\(pth f g s).length+1<=ks.length:=by
 obtain⟨u,_,e⟩:=R.snd s a;have l:2*f s-s.length=u:=by lia
 obtain⟨d,b,j,o,L,n,m,k⟩:=qRH h R i u s a e;unfold pth;rw[l];refine⟨d,b,j,?_⟩;have:=qc2 m R.nd λx c=>(k x c).1
 lia
end
structure EntZ (H:Hp)(Af:List (List Key×V))(ks:List (List Int))(f:List Int->Nat)(Φ:(List Int->Prv)->Prop):Prop where
 ex:∃g,EntX H Af ks f g/\Φ g
section
variable{H H':Hp}{Af:List (List Key×V)}{ks:List (List Int)}{f:List Int->Nat}{Φ Ψ:(List Int->Prv)->Prop}
theorem EntZ.same (h:EntZ H Af ks f Φ)(c:Same H H'):EntZ H' Af ks f Φ:=let⟨g,a,b⟩:=h.ex;⟨g,a.same c,b⟩
theorem EntZ.put {d:Addr}{o u:HO}(h:EntZ H Af ks f Φ)(c:H d=some o)(e:∀xs,o≠.tup xs):EntZ (Ag H d u) Af ks f Φ:=let⟨g,a,b⟩:=h.ex;⟨g,a.put c e,b⟩
theorem EntZ.ent (h:EntZ H Af ks f Φ):Ent H Af ks f:=let⟨_,a,_⟩:=h.ex;a.ent
theorem EntZ.len (h:EntZ H Af ks f Φ):Af.length=ks.length:=h.ent.len
theorem EntZ.val (h:EntZ H Af ks f Φ){s:List Int}(a:s∈ks):∃v,valV Af (keyS s)=some v/\Val3 H v (f s):=h.ent.val a
theorem EntZ.none (h:EntZ H Af ks f Φ){s:List Int}(a:s∉ks):valV Af (keyS s)=none:=h.ent.none a
theorem EntZ.snoc (h:EntZ H Af ks f Φ){s p:List Int}{m:Mv}(j:s∉ks){r c d:Addr}{n:Nat}(e:H r=some (.tup [.int (n:Int),.ref c,.ref d]))(k:H c=some (.tup (p.map V.int)))(l:H d=some (.tup [.str m.1,.int m.2]))(i:∀g,Φ g->Ψ (gset g s (some (p,m)))):
  EntZ H (putK Af (keyS s) (.ref r)) (ks++[s]) (qIL f s n) Ψ:=let⟨g,a,b⟩:=h.ex;⟨_,a.snoc (v:=.ref r) (n:=n) (o:=some (p,m)) j ⟨r,c,d,rfl,e,k,l⟩,i g b⟩
end
def qU4:Sp:=λvs H Q _=>∃(a l t:Addr) (Ae:List (List Int)) (ms:List Mv) (Aa:Int) (Ad last:List Int),vs=[.ref a,.int Aa,.ref l,.ref t]/\PlayIn2 H a l Ae ms Aa/\Run Ae Aa [] ms last/\H t=some (.tup (Ad.map V.int))/\Ad.length<=63/\(∀x∈Ad,x∈last)/\∀H',Same H H'->Q (.bl true) H'
theorem qL6:∀(sts:List (List Int)) (s:List Int),(s::sts)[sts.length]?=some (qNP s sts)
 |[],s=>rfl
 |x::sts,s=>qL6 sts x
noncomputable def renW (ws:List Int)(i:Int):Int:=(ws[i.toNat]?).getD 0
noncomputable def renM (ws:List Int)(ms:List Mv):List Mv:=ms.map λm=>(m.1,renW ws m.2)
section
variable{Ae:List (List Int)}{Ad ws:List Int}{Aa:Int}
theorem qM4 {i:Nat}{x:Int}(h:ws[i]?=some x):renW ws (i:Int)=x:=by
 unfold renW;rw[D2,h]
 rfl
theorem qJD (c:ws.Pairwise (·<·)){i j:Int}(e:0<=i)(h:i<j)(d:j<(ws.length:Int)):renW ws i<renW ws j:=by
 have b:i.toNat<ws.length:=by lia
 have a:j.toNat<ws.length:=by lia
 unfold renW;rw[A4 b,A4 a];exact G7.mp c i.toNat j.toNat b a (by lia)
theorem qRB (a:ws.Pairwise (·<·)){i j:Int}(b:0<=i)(hi:i<(ws.length:Int))(d:0<=j)(f:j<(ws.length:Int))(e:renW ws i=renW ws j):i=j:=by
 rcases Int.lt_trichotomy i j with c|c|c
 ·have:=qJD a b c f;lia
 ·exact c
 ·have:=qJD a d c hi;lia
theorem qYL (N:qAD Ae Ad ws){w y:Int}(b:w∈ws)(a:y∈nd Ae w):y∈ws:=by
 have n:=(N.2 w).mp b;unfold nd at a;cases e:Ae[w.toNat]? with
 |none=>rw[e] at a;cases a
 |some zs=>
  rw[e] at a;exact(N.2 y).mpr (.need n e a)
theorem qR8 (N:qAD Ae Ad ws){s t:List Int}{n:List Mv}(R:Run (qBY Ae ws) Aa s n t):(∀x∈s,0<=x/\x<(ws.length:Int))->MvOk (qBY Ae ws) n->Run Ae Aa (s.map (renW ws)) (renM ws n) (t.map (renW ws)):=by
 have up:=N.1.up;have v:=qBV Ae ws
 induction R with
 |nil=>exactλ_ _=>.nil
 |@do_ s s' t w n h1 h2 h3 h4 h5 h6 ih=>
  intro l j;have c:=(j (B9 "do",w) (by simp)).2
  dsimp only at c;rw[v] at c;have f:∀x∈s',0<=x/\x<(ws.length:Int):=λx d=>by
   rcases B4.mp (h4.mem_iff.mp d) with z|z
   ·exact l x z
   ·rw[A5.mp z];exact c
  have wi:w.toNat<ws.length:=by lia
  have ew:ws[w.toNat]?=some (renW ws w):=by unfold renW;rw[A4 wi];rfl
  refine .do_ (λhz=>?_) (λy r=>?_) (by rw[A0];exact h3) ?_ ?_ (ih f λm g=>j m (A9 _ g))
  ·obtain⟨x,d,ex⟩:=D5.mp hz;have k:=l x d;rw[qRB up k.1 k.2 c.1 c.2 ex] at d;exact h1 d
  ·have p:=qYL N (B1 ew) r;obtain⟨i,u⟩:=D8 p;have q:(i:Int)∈nd (qBY Ae ws) w:=by
    unfold nd;rw[qGV ew];exact(qC5 N.1.nodup).mpr ⟨by lia,y,by rw[D2];exact u,r⟩
   exact D5.mpr ⟨(i:Int),h2 _ q,qM4 u⟩
  ·have:=h4.map (renW ws);rw[B0] at this;exact this
  ·rw[J2];exact h5.imp_of_mem λ{a b} ha hb o=>qJD up (f a ha).1 o (f b hb).2
 |@clear s t w n h1 h2 ih=>
  intro l j;have c:=(j (B9 "clear",w) (by simp)).2
  dsimp only at c;rw[v] at c;refine .clear (D5.mpr ⟨w,h1,rfl⟩) ?_;have e:(s.map (renW ws)).filter (λx=>decide (x≠renW ws w))=(s.filter λx=>decide (x≠w)).map (renW ws):=by
   rw[A79];congr 1;refine S9 λx d=>?_;have k:=l x d;refine decide_eq_decide.mpr ⟨λh z=>h (by rw[z]),λh z=>h (qRB up k.1 k.2 c.1 c.2 z)⟩
  rw[e];exact ih (λx d=>l x (D6.mp d).1) λm g=>j m (A9 _ g)
noncomputable def qCX (ws Ad:List Int):List Int:=Ad.filterMap (qDR ws)
theorem qHG (N:qAD Ae Ad ws)(c:Rise (Ae.length:Int) Ad):Rise ((qBY Ae ws).length:Int) (qCX ws Ad):=by
 refine⟨qKR N.1.up c.up,λx b=>?_⟩;obtain⟨d,y,a,_⟩:=(qC5 N.1.nodup).mp b;have:=(A3.mp a).1;rw[qBV]
 lia
theorem qGH (N:qAD Ae Ad ws)(e:Rise (Ae.length:Int) Ad):qSG ws Ad=mskN (qCX ws Ad):=by
 unfold qSG;congr 1;refine qN1 ((qEB 0 ws.length).filter _) (qKR N.1.up e.up) λx=>?_;rw[D6,show x∈qCX ws Ad↔_ from qC5 N.1.nodup,mem_rangeI,decide_eq_true_eq]
 constructor
 ·rintro⟨⟨b,f⟩,a⟩;have c:x.toNat<ws.length:=by lia
  rw[A4 c] at a ⊢;exact⟨b,_,rfl,a⟩
 ·rintro⟨b,y,d,a⟩;have c:=(A3.mp d).1;rw[d];exact⟨⟨b,by lia⟩,a⟩
theorem qc4 (N:qAD Ae Ad ws)(a:Rise (Ae.length:Int) Ad){k:Nat}(h:LB (qBY Ae ws) Aa (qCX ws Ad) (some k)):qFK Ae ws Ad Aa:=by
 obtain⟨⟨b,R,e⟩,_⟩:=h;exact⟨k,b,R,by rw[qGH N a];exact e⟩
theorem qe2 (N:qAD Ae Ad ws)(a:Rise (Ae.length:Int) Ad)(h:LB (qBY Ae ws) Aa (qCX ws Ad) none):¬qFK Ae ws Ad Aa:=by
 rintro⟨m,b,R,e⟩;rw[qGH N a] at e;exact h m b R e
end
def qR0:Sp:=λvs H Q _=>∃(t u:Addr) (ws Ad:List Int),vs=[.ref t,.ref u]/\BareT H t (ws.map V.int)/\H u=some (.tup (Ad.map V.int))/\ws.Nodup/\Ad.length<=63/\ws.length<=63/\(∀x∈Ad,x∈ws)/\
 ∀r H',Same H H'->H' r=some (.tup ((qCX ws Ad).map V.int))->Q (.ref r) H'
def qU0:Sp:=λvs H Q _=>∃(a t:Addr) (Ae:List (List Int)) (ws:List Int),vs=[.ref a,.ref t]/\NetAt H a Ae/\WFn Ae/\Ae.length<=63/\Rd H t (.tup (ws.map V.int))/\Rise (Ae.length:Int) ws/\
 ∀b H',Same H H'->NetAt H' b (qBY Ae ws)->Q (.ref b) H'
theorem sqo {b:Bool}{K:PySem.W.Frag}{H:Hp}{a:Addr}{xs:List V}(h:Rd H a (seqO b xs)):SqO b K H a xs:=by
 cases b with
 |true=>exact .inl h
 |false=>exact .inl h
theorem Rd.same {H H':Hp}{a:Addr}{o:HO}(h:Rd H a o)(s:Same H H'):Rd H' a o:=h.elim (λe=>.inl (s _ _ e)) λ⟨q,e⟩=>.inr ⟨q,s _ _ e⟩
structure Nev (Ae:List (List Int))(Aa:Int)(want:List Int)(ss:List (List Int)):Prop where
 rise:∀s∈ss,Rise (Ae.length:Int) s
 few:∀s∈ss,(s.length:Int)<=Aa
 nil:[]∈ss
 shut:∀s∈ss,∀m∈qCZ Ae s Aa,behL s m∈ss
 no:∀s∈ss,¬ ∀x∈want,x∈s
structure NevP (Ae:List (List Int))(Aa:Int)(ss:List (List Int)):Prop where
 nd:ss.Nodup
 mem:∀s,s∈ss↔∃u,Pt Ae Aa u s
 so:ss.Pairwise λa b=>HT.lexLt b a=false
def qU3:Sp:=λvs H Q _=>∃(b:Bool) (a t:Addr) (st Ad:List Int),vs=[.ref a,.ref t]/\H a=some (.tup (st.map V.int))/\Rd H t (seqO b (Ad.map V.int))/\Ad.length<=63/\∀H',Same H H'->Q (.bl (decide (∀x∈Ad,x∈st))) H'
structure PapN (H:Hp)(T tw l:Addr)(ws:List Int)(rs:List Addr)(ss:List (List Int)):Prop where
 tup:H T=some (.tup [.ref tw,.ref l])
 works:BareT H tw (ws.map V.int)
 lst:H l=some (.lst (rs.map V.ref))
 at_:StL H rs ss
open PySem PySem.Spec L2
def qTY:Sp:=λvs H Q _=>∃i:Int,vs=[.int i,.int i]/\∀H',Same H H'->Q (.bl true) H'
theorem qJF (m j:Nat):(2^m-1).testBit j=decide (j<m):=Nat.testBit_two_pow_sub_one m j
theorem qaZ {Ae:List (List Int)}(wf:WFn Ae):∀m,m<=Ae.length->Rm Ae (Ae.length:Int) m (2^m-1)
 |0,_=>.zero
 |m+1,h=>by
  have ih:=qaZ wf m (by lia)
  have hz:=A4 (show m<Ae.length by lia)
  have rz:=wf m _ hz;have e:2^(m+1)-1=(2^m-1) ||| 2^m:=P7 λj=>by
   rw[A28,qJF,qJF,Y6];by_cases c:j<m
   ·rw[decide_eq_true c,decide_eq_true (by lia:j<m+1),Bool.true_or]
   ·by_cases d:m=j
    ·rw[decide_eq_true d,decide_eq_true (by lia:j<m+1),Bool.or_true]
    ·rw[decide_eq_false c,decide_eq_false d,decide_eq_false (by lia:¬j<m+1)];rfl
  rw[e];refine .do_ ih ⟨?_,by lia,?_⟩
  ·have lt:cntN Ae.length (2^m-1)<=m:=by
    unfold cntN;rw[J8 (g:=λk=>if(decide (k<m))=true then 1 else 0) λk _=>by rw[qMU,qJF],qJ7]
    have nd:((G8 Ae.length).filter λk=>decide (k<m)).Nodup:=List.nodup_range.filter _;exact qEF nd λb hb=>of_decide_eq_true (D6.mp hb).2
   lia
  ·unfold nxt;rw[hz];refine P7 λj=>?_;rw[X2,qJF];show(decide (j<m)&&(mskN Ae[m]).testBit j)=(mskN Ae[m]).testBit j;rw[qMD rz.up (λx hx=>(rz.in_ x hx).1)];by_cases c:(j:Int)∈Ae[m]
   ·have:=(rz.in_ _ c).2;rw[decide_eq_true (by lia:j<m),i8]
   ·rw[decide_eq_false c,W5]
theorem qNX {Ae:List (List Int)}{ws Ad:List Int}(d:WFn Ae)(N:qAD Ae Ad ws):qFK Ae ws Ad (ws.length:Int):=by
 have b:WFn (qBY Ae ws):=qCL d N.1;have R:=qaZ b _ (A7 _);rw[qBV] at R;refine⟨_,_,R,P7 λj=>?_⟩;rw[X2,qJF];unfold qSG;rw[qMD ((qEB _ _).filter _) (λx a=>(mem_rangeI.mp (D6.mp a).1).1)];by_cases c:(j:Int)∈(qC6 0 ws.length).filter λp=>decide ((ws[p.toNat]?).getD 0∈Ad)
 ·have:=mem_rangeI.mp (D6.mp c).1;rw[decide_eq_true (by lia:j<ws.length),i8]
 ·rw[decide_eq_false c,W5]
theorem qYU {Ae:List (List Int)}{ws Ad:List Int}(f:WFn Ae)(N:qAD Ae Ad ws)(g:1<=Ad.length):∃r,qOP Ae ws Ad r/\r<=(ws.length:Int):=by
 have c:=qNX f N;have h:1<=ws.length:=by
  cases Ad with
  |nil=>simp at g
  |cons x Ad=>exact T6 ((N.2 x).mpr (.ask C5))
 obtain⟨k,e,b⟩:=qRT (P:=λk=>qFK Ae ws Ad ((k:Int)+1)) (ws.length-1) (by rw[show(((ws.length-1:Nat):Int)+1)=(ws.length:Int) by lia];exact c)
 have i:=b (ws.length-1) (by rw[show(((ws.length-1:Nat):Int)+1)=(ws.length:Int) by lia];exact c)
 refine⟨(k:Int)+1,⟨by lia,e,λa l j d=>?_⟩,by lia⟩
 have:=b (a-1).toNat (by rw[show(((a-1).toNat:Nat):Int)+1=a by lia];exact d)
 lia
def PrvH (Ae:List (List Int))(Aa:Int)(ks:List (List Int))(f:List Int->Nat)(g:List Int->Prv):Prop:=Prov Ae Aa ks f g/\∃l,ks=[]::l
theorem PrvH.start {Ae:List (List Int)}{Aa:Int}:PrvH Ae Aa [[]] (λ_=>0) (λ_=>none):=⟨λs a=>.inl ⟨A5.mp a,rfl,rfl⟩,[],rfl⟩
theorem PrvH.snoc {Ae:List (List Int)} {Aa:Int} {ks:List (List Int)} {f:List Int->Nat} {g:List Int->Prv} {s:List Int} {m:Mv} {z:Nat} (b:s∈ks) (j:m∈qCZ Ae s Aa) (c:behL s m∉ks) (q:z=if m.1=B9 "do" then 1 else 0) (h:PrvH Ae Aa ks f g):PrvH Ae Aa (ks++[behL s m]) (qIL f (behL s m) (f s+z)) (gset g (behL s m) (some (s,m))):=by
 obtain⟨h,l,n⟩:=h;refine⟨λx d=>?_,l++[behL s m],by rw[n];rfl⟩
 have i:∀y∈ks,gset g (behL s m) (some (s,m)) y=g y:=λy o=>if_neg λe=>c (by rw[<- e];exact o)
 rcases B4.mp d with k|k
 ·rw[qIX k c,i x k];rcases h x k with a|⟨p,mm,a1,a2,a3,a4,a5⟩
  ·exact .inl a
  ·exact .inr ⟨p,mm,a1,B4.mpr (.inl a2),a3,a4,by rw[qIX a2 c];exact a5⟩
 ·rw[A5.mp k];refine .inr ⟨s,m,if_pos rfl,B4.mpr (.inl b),j,rfl,?_⟩;rw[qL9,qIX b c,q]
def qQZ:Sp:=λvs H Q _=>∃(a:Addr) (Ae:List (List Int)) (Aa:Int),vs=[.ref a,.int Aa]/\NetAt H a Ae/\WFn Ae/\Ae.length<=12/\
 ∀d o Af ks f g H',Same H H'->H d=none->H' d=some (.frz o (.dT Af))->EntX H' Af ks f g->Rch Ae Aa ks f->PrvH Ae Aa ks f g->Q (.ref d) H'
def qTZ:Sp:=λvs H Q _=>∃(d t:Addr) (o:Obj) (Af:List (List Key×V)) (Ae:List (List Int)) (Aa:Int) (ks:List (List Int)) (f:List Int->Nat) (g:List Int->Prv) (s:List Int),vs=[.ref d,.ref t]/\H d=some (.frz o (.dT Af))/\EntX H Af ks f g/\WFn Ae/\Rch Ae Aa ks f/\PrvH Ae Aa ks f g/\ks.length<=4096/\H t=some (.tup (s.map V.int))/\s∈ks/\
 ∀l H',Same H H'->H l=none->PlanAt H' l (pth f g s)->Q (.ref l) H'
def FewP (Ae:List (List Int))(Ad:List Int)(r:Int)(ms:List Mv):Prop:=∃ws ks f g s,qAD Ae Ad ws/\qOP Ae ws Ad r/\Rch (qBY Ae ws) r ks f/\Prov (qBY Ae ws) r ks f g/\(s∈ks/\∀x∈qCX ws Ad,x∈s)/\ms=renM ws (pth f g s)
def qa4 (Pt:Addr):Sp:=λvs H Q _=>∃(a t:Addr) (Ae:List (List Int)) (Ad:List Int),vs=[.ref a,.ref t]/\TabB H Pt/\NetAt H a Ae/\WFn Ae/\Ae.length<=12/\qI2 H t Ae Ad/\1<=Ad.length/\
 ∀T l r ms H',Same H H'->FewP Ae Ad r ms->H l=none->PlanAt H' l ms->H' T=some (.tup [.int r,.ref l])->Q (.ref T) H'
theorem FewP.lr {Ae:List (List Int)}{Ad ws:List Int}{r:Int}{b:List Mv}(h:FewP Ae Ad r b)(N:qAD Ae Ad ws):qOP Ae ws Ad r:=by
 obtain⟨c,e,f,g,s,d,a,_⟩:=h;rw[qC8 N d];exact a
theorem FewP.run {Ae:List (List Int)}{Ad:List Int}(w:WFn Ae)(ra:Rise (Ae.length:Int) Ad)(v:Ae.length<=12){r:Int}{c:List Mv}(h:FewP Ae Ad r c):∃last,Run Ae r [] c last/\(∀x∈Ad,x∈last)/\MvOk Ae c/\c.length<=4096:=by
 obtain⟨a,ks,f,g,s,N,a2,p,u,B,e⟩:=h;have wp:=qCL w N.1;have y:=qBV Ae a;have lw:=N.1.len;obtain⟨R,_,l,ln⟩:=qP9 wp p u B.1;have lk:=p.len;have pw:2^(qBY Ae a).length<=2^12:=R4 (by decide) (by lia)
 refine⟨s.map (renW a),?_,λx o=>?_,λm n=>?_,?_⟩
 ·rw[e];exact qR8 N R (λ_ z=>nomatch z) l
 ·have j:x∈a:=(N.2 x).mpr (.ask o);obtain⟨i,b⟩:=D8 j;exact D5.mpr ⟨(i:Int),B.2 _ (M9.mpr ⟨x,o,qDD N.1.nodup b⟩),qM4 b⟩
 ·rw[e] at n;obtain⟨d,k,em⟩:=D5.mp n;obtain⟨q,h2,t⟩:=l d k;rw[y] at t;have b:d.2.toNat<a.length:=by lia
  have j:renW a d.2∈a:=by unfold renW;rw[A4 b];exact U0 b
  rw[<- em];exact⟨q,N.1.in_ _ j⟩
 ·rw[e];unfold renM;rw[A0]
  lia
section
variable{Ae:List (List Int)}{Ad ws:List Int}{Aa:Int}
theorem qGA {st:List Int} {m:Mv} (a:m.1 = "do"\/m.1 = "clear") (x:Int):x∈behL st m↔(m.1 = "do"/\(x∈st\/x=m.2))\/(m.1 = "clear"/\x∈st/\x≠m.2):=by
 unfold behL;rcases a with e|e
 ·rw[if_pos (by rw[e]),mem_insL]
  exact⟨λh=>.inl ⟨e,h⟩,λh=>h.elim (·.2) λh=>absurd (e.symm.trans h.1) (by decide)⟩
 ·rw[if_neg (by rw[e];decide),D6,decide_eq_true_eq]
  exact⟨λh=>.inr ⟨e,h⟩,λh=>h.elim (λh=>absurd (e.symm.trans h.1) (by decide)) (·.2)⟩
theorem prj (rW:Rise (Ae.length:Int) ws){t:Nat}{s:List Int}(h:Pt Ae Aa t s):∃u,Pt (qBY Ae ws) Aa u (qCX ws s):=by
 have up:=rW.up;have f:=rW.nodup
 induction h with
 |zero=>exact⟨0,.zero⟩
 |@step t st m p hm ih=>
  obtain⟨u,P⟩:=ih;have w:=(Pt.step p hm).rise;obtain⟨⟨k,h0,h1⟩,r,hc⟩:=due_iff.mp hm;by_cases c:m.2∈ws
  ·obtain⟨i,n⟩:=D8 c;have li:=(A3.mp n).1;have q:∀{z:List Int},(i:Int)∈qCX ws z↔m.2∈z:=λ{z}=>(qC5 f).trans ⟨λ⟨_,y,e,g⟩=>by rw[D2,n] at e;cases e;exact g,λh=>⟨by lia,m.2,by rw[D2];exact n,h⟩⟩
   have o:(m.1,(i:Int))∈qCZ (qBY Ae ws) (qCX ws st) Aa:=due_iff.mpr ⟨⟨k,by show(0:Int)<=(i:Int);lia,by rw[qBV];show(i:Int)<_;lia⟩,λe=>⟨λz=>(r e).1 (q.mp z),λy g=>?_,?_⟩,λe=>q.mpr (hc e)⟩
   ·have v:qCX ws (behL st m)=behL (qCX ws st) (m.1,(i:Int)):=qN1 (qKR up w.up) (Pt.step P o).rise.up λx=>by
     rw[qGA (m:=(m.1,(i:Int))) k,show x∈qCX ws (behL st m)↔_ from qC5 f,show x∈qCX ws st↔_ from qC5 f]
     constructor
     ·rintro⟨j,y,e,g⟩;rcases(qGA k y).mp g with⟨a,b|b⟩|⟨a,b,d⟩
      ·exact .inl ⟨a,.inl ⟨j,y,e,b⟩⟩
      ·refine .inl ⟨a,.inr ?_⟩;subst b;have:=qDD f n;rw[qDD f e] at this;show x=(i:Int);have:=D0 this
       lia
      ·refine .inr ⟨a,⟨j,y,e,b⟩,λz=>d ?_⟩;have z:x=(i:Int):=z;rw[z,D2,n] at e;exact(D0 e).symm
     ·rintro(⟨a,⟨j,y,e,g⟩|b⟩|⟨a,⟨j,y,e,g⟩,d⟩)
      ·exact⟨j,y,e,(qGA k y).mpr (.inl ⟨a,.inl g⟩)⟩
      ·have b:x=(i:Int):=b;exact⟨by lia,m.2,by rw[b,D2];exact n,(qGA k _).mpr (.inl ⟨a,.inr rfl⟩)⟩
      ·refine⟨j,y,e,(qGA k y).mpr (.inr ⟨a,g,λz=>d ?_⟩)⟩;subst z;have:=qDD f n;rw[qDD f e] at this;show x=(i:Int);have:=D0 this
       lia
    exact⟨u+1,by rw[v];exact .step P o⟩
   ·unfold nd at g;rw[D2,qGV n,W3] at g;obtain⟨y0,z,ez,hz⟩:=(qC5 f).mp g;exact(qC5 f).mpr ⟨y0,z,ez,(r e).2.1 z hz⟩
   ·have:=(r e).2.2;have l:(qCX ws st).length<=st.length:=O8 _ _
    lia
  ·have v:qCX ws (behL st m)=qCX ws st:=qN1 (qKR up w.up) (qKR up p.rise.up) λx=>by
    rw[show x∈qCX ws (behL st m)↔_ from qC5 f,show x∈qCX ws st↔_ from qC5 f];have ne:∀{y:Int},ws[x.toNat]?=some y->y≠m.2:=λe z=>c (by rw[<- z];exact B1 e)
    constructor
    ·rintro⟨j,y,e,g⟩;rcases(qGA k y).mp g with⟨a,b|b⟩|⟨a,b,d⟩
     ·exact⟨j,y,e,b⟩
     ·exact absurd b (ne e)
     ·exact⟨j,y,e,b⟩
    ·rintro⟨j,y,e,g⟩;refine⟨j,y,e,(qGA k y).mpr ?_⟩;rcases k with a|a
     ·exact .inl ⟨a,.inl g⟩
     ·exact .inr ⟨a,g,ne e⟩
   exact⟨u,by rw[v];exact P⟩
end
theorem qTC {ws:List Int}(g:ws.Nodup){y:Int}{j:Nat}(h:ws[j]?=some y):∀k,k<j->ws[k]?≠some y:=λk f e=>by
 obtain⟨c,b⟩:=A3.mp e;obtain⟨a,d⟩:=A3.mp h;exact absurd (b.trans d.symm) (G7.mp g k j c a f)
structure NevW (Ae:List (List Int))(Aa:Int)(ss:List (List Int)):Prop where
 rise:∀s∈ss,Rise (Ae.length:Int) s
 few:∀s∈ss,(s.length:Int)<=Aa
 nil:[]∈ss
 shut:∀s∈ss,∀m∈qCZ Ae s Aa,behL s m∈ss
def Once (Ae:List (List Int))(n:Nat):Prop:=∀(i j:Nat) (zi zj:List Int) (x:Int),i<n->j<n->Ae[i]?=some zi->Ae[j]?=some zj->x∈zi->x∈zj->i=j
def Opens (Ae:List (List Int))(os:List Int):Prop:=Once Ae Ae.length/\∀x∈os,∀(i:Nat) (zi:List Int),Ae[i]?=some zi->x∉zi
theorem Opens.nil:Opens [] []:=⟨(λi j _ _ _ h=>absurd h (G6 _)),(λx h=>nomatch h)⟩
theorem qH1 {α:Type}{l:List α}{z y:α}{i:Nat}(h:(l++[z])[i]?=some y):(i<l.length/\l[i]?=some y)\/(i=l.length/\y=z):=by
 by_cases c:i<l.length
 ·rw[F6 c] at h;exact .inl ⟨c,h⟩
 ·rw[P8 (by lia)] at h
  have a:=(A3.mp h).1;rw[B3] at a;have e:i-l.length=0:=by lia
  rw[e] at h;exact .inr ⟨by lia,(D0 h).symm⟩
theorem Opens.step {Ae:List (List Int)}{d:List Int}{kk:Nat}(h:Opens Ae d)(t:WFn Ae)(r:Rise (Ae.length:Int) d):Opens (Ae++[d.drop kk]) (d.take kk++[(Ae.length:Int)]):=by
 have f:∀x∈d.drop kk,∀(i:Nat) (zi:List Int),Ae[i]?=some zi->x∉zi:=λx o=>h.2 x (V2 o)
 constructor
 ·intro i j zi p x _ _ s q n l;rcases qH1 s with⟨b,a⟩|⟨b,a⟩
  ·rcases qH1 q with⟨g,c⟩|⟨g,c⟩
   ·exact h.1 i j zi p x b g a c n l
   ·subst c;exact absurd n (f x l i zi a)
  ·rcases qH1 q with⟨g,c⟩|⟨g,c⟩
   ·subst a;exact absurd l (f x n j p c)
   ·lia
 ·intro x o i zi e k;rcases B4.mp o with m|m
  ·rcases qH1 e with⟨b,a⟩|⟨b,a⟩
   ·exact h.2 x (M8 m) i zi a k
   ·subst a;have up:=r.up;rw[<- c9 kk d] at up;have:=(g9.mp up).2.2 x m x k
    lia
  ·have u:=A5.mp m;subst u;rcases qH1 e with⟨b,a⟩|⟨b,a⟩
   ·have:=((t i zi a).in_ _ k).2
    lia
   ·subst a;have:=(r.in_ _ (V2 k)).2
    lia
theorem qLE {Ae:List (List Int)}{x v:Int}:∀{l:List Int},l.Nodup->v∈l->(∀u∈l,x∈nd Ae u->u=v)->x∈nd Ae v->(nd Ae v).Nodup->(nds Ae l).count x=1
 |[],_,h,_,_,_=>by cases h
 |u::l,n,h,only,hx,nv=>by
  have n2:=L4.mp n;have e:nds Ae (u::l)=nd Ae u++nds Ae l:=by simp[nds]
  rw[e,p9];by_cases c:u=v
  ·subst c;have c1:(nd Ae u).count x=1:=by
    have a:=List.nodup_iff_count.mp nv x;have b:=m8.mpr hx
    lia
   have c2:(nds Ae l).count x=0:=m7.mpr λm=>by
    obtain⟨ys,hy,hm⟩:=d9.mp m;obtain⟨w,hw,ew⟩:=D5.mp hy;rw[<- ew] at hm;exact n2.1 (only w (A9 _ hw) hm▸hw)
   lia
  ·have c1:(nd Ae u).count x=0:=m7.mpr λm=>c (only u C5 m);have:=qLE n2.2 ((B7.mp h).resolve_left λz=>c z.symm) (λw hw=>only w (A9 _ hw)) hx nv
   lia
noncomputable def qD5 (l:List Int)(k:Nat):List Int:=(G8 k).map λi:Nat=>(l[i]?).getD 0+(i:Int)
theorem qOY {l:List Int}{k:Nat}{x:Int}(h:l[k]?=some x):qD5 l (k+1)=qD5 l k++[x+(k:Int)]:=by
 unfold qD5;rw[A10,B0];simp[h]
theorem qKV (l:List Int)(k:Nat):(qD5 l k).length=k:=by unfold qD5;rw[A0,c6]
noncomputable def qKI (l:List Int):Int:=topI ((l.length:Int)+1) (qD5 l l.length)
def Num1 (Ae:List (List Int))(f:Int->Int)(z:Int):Prop:=∃ds:List Int,ds.Perm ((nd Ae z).map f)/\ds.Pairwise (· >= ·)/\f z=qKI ds
def NumOn (Ae:List (List Int))(zs:List Int)(f:Int->Int):Prop:=∀z∈zs,Num1 Ae f z
theorem qQ9 {a b:List Int}(p:a.Perm b)(d:a.Pairwise (· >= ·))(c:b.Pairwise (· >= ·)):a=b:=by
 have e:=qHK (show a.reverse.Perm b.reverse from(b9 a).trans (p.trans (b9 b).symm)) (d4.mpr d) (d4.mpr c);have:=congrArg List.reverse e;rw[A22,A22] at this;exact this
theorem NumOn.snoc {Ae:List (List Int)}{zs:List Int}{o z:Int}{i:Nat}{f:Int->Int}{b:List Int}(wf:WFn Ae)(N:qAD Ae [o] zs)(hi:zs[i]?=some z)(h:NumOn Ae (zs.take i) f)(p:b.Perm ((nd Ae z).map f))(s:b.Pairwise (· >= ·)):NumOn Ae (zs.take (i+1)) (λy=>if y=z then qKI b else f y)/\(zs.take (i+1)).map (λy=>(if y=z then qKI b else f y))=(zs.take i).map f++[qKI b]:=by
 have t:∀y∈zs.take i,y≠z:=λy g=>by have:=qHI N hi g;lia
 have ns:∀w∈zs.take (i+1),∀y∈nd Ae w,y≠z:=λw q y g=>by
  obtain⟨j,k⟩:=D8 q;have r:j<i+1:=by have:=(A3.mp k).1;rw[C4] at this;lia
  rw[J1 r] at k;have a:=qDK wf N k g;by_cases c:j=i
  ·subst c;rw[hi] at k;cases k;lia
  ·have:w∈zs.take i:=B1 (i:=j) (by rw[J1 (by lia)];exact k)
   have:=qHI N hi this
   lia
 have u:zs.take (i+1)=zs.take i++[z]:=by rw[C6,hi];rfl
 constructor
 ·intro w q;have em:(nd Ae w).map (λy=>if y=z then qKI b else f y)=(nd Ae w).map f:=J8 λy g=>if_neg (ns w q y g)
  unfold Num1;rw[em];have n:=q;rw[u] at n;rcases B4.mp n with m|m
  ·obtain⟨d,a1,x,v⟩:=h w m;exact⟨d,a1,x,(if_neg (t w m)).trans v⟩
  ·have e:=A5.mp m;subst e;exact⟨b,p,s,if_pos rfl⟩
 ·rw[u,B0];congr 1
  ·exact J8 λy g=>if_neg (t y g)
  ·simp
noncomputable def qDF (l:List Int)(f:Int->Int):List (Key×V):=l.map λz=>(D7 z,V.int (f z))
theorem qIM {f:Int->Int}{y:Int}:∀{l:List Int},y∈l->valV (qDF l f) (D7 y)=some (.int (f y))
 |[],h=>by cases h
 |x::l,h=>by
  by_cases e:x=y
  ·subst e;exact qBG rfl
  ·exact(qB9 (λz=>e (U7 z))).trans (qIM ((B7.mp h).resolve_left λz=>e z.symm))
theorem qMZ {f:Int->Int}{y:Int}:∀{l:List Int},y∉l->valV (qDF l f) (D7 y)=none
 |[],_=>rfl
 |x::l,h=>(qB9 (λz=>h (by rw[<- U7 z];exact C5))).trans (qMZ λz=>h (A9 _ z))
theorem qRE {l:List Int}{f:Int->Int}{z v:Int}(h:z∉l):putK (qDF l f) (D7 z) (.int v)=qDF (l++[z]) (λy=>if y=z then v else f y):=by
 rw[qIU _ (qMZ h)];unfold qDF;rw[B0];congr 1
 ·exact J8 λy a=>by
   show _=(D7 y,V.int (if y=z then v else f y))
   rw[if_neg λ(e:y=z)=>h (e▸a)]
 ·simp
theorem qHM {f:Int->Int}:∀{zs l:List Int},(l++zs).Nodup->qDM (qDF l f) (zs.map λz=>(z,V.int (f z)))=qDF (l++zs) f
 |[],l,_=>by rw[K0];rfl
 |z::zs,l,n=>by
  have hz:z∉l:=λm=>(S0.mp n).2.2 z m z C5 rfl;have e:(λy=>if y=z then f z else f y)=f:=funext λy=>by
   by_cases c:y=z
   ·rw[if_pos c,c]
   ·rw[if_neg c]
  show qDM (putK (qDF l f) (D7 z) (.int (f z))) (zs.map λz=>(z,V.int (f z)))=_;rw[qRE hz,e,qHM (by rw[F3];exact n),F3]
  rfl
theorem qJJ {α β γ:Type}{F:α->γ->Prop}{h:β->γ}:∀{zs:List β} {l:List α},Paired F l (zs.map h)->Paired (λr z=>F r (h z)) l zs
 |[],l,p=>by cases p;exact .nil
 |z::zs,l,p=>by
  cases p with
  |cons a b=>exact .cons a (qJJ b)
theorem qI9 {α β γ:Type}{F:α->γ->Prop}{h:β->γ}{zs:List β}{l:List α}(p:Paired (λr z=>F r (h z)) l zs):Paired F l (zs.map h):=by
 induction p with
 |nil=>exact .nil
 |cons a b ih=>exact .cons a ih
theorem qBT {Ae:List (List Int)}{a:Int}{zs:List Int}(N:qAD Ae [a] zs):a∈zs:=(N.2 a).mpr (.ask (A5.mpr rfl))
def qa3:Sp:=λvs H Q _=>∃(p:Addr) (ds:List Int),vs=[.ref p]/\H p=some (.lst (ds.map V.int))/\ds.length<=63/\∀H',Same H H'->Q (.int (qKI ds)) H'
def qOZ:Sp:=λvs H Q _=>∃d c t ns m,vs=[.ref d,.int m]/\StAt H d c t ns/\t<=TB-1000/\1<=m/\m<=63/\
 ∀a Ae t' ns' H',StAt H' d c t' ns'->t<=t'->t'<=t+m->Keep d c H H'->NetAt H' a Ae->WFn Ae->(Ae.length:Int)=m->Once Ae Ae.length->Q (.ref a) H'
def OrdR (f:Int->Int)(a b:Int):Prop:=f b<f a\/(f a=f b/\a<b)
def clrM (ys:List Int):List Mv:=ys.map λy=>(("clear",y):Mv)
noncomputable def qG9 (Ae:List (List Int)) (P:Int->List Mv) (z:Int) (os:List Int):List Mv:=(os.map P).flatten++(("do",z):Mv)::clrM (nd Ae z)
def Pl1 (Ae:List (List Int))(f:Int->Int)(P:Int->List Mv)(z:Int):Prop:=∃os:List Int,os.Perm (nd Ae z)/\os.Pairwise (OrdR f)/\P z=qG9 Ae P z os
def PlOn (Ae:List (List Int))(zs:List Int)(f:Int->Int)(P:Int->List Mv):Prop:=∀z∈zs,Pl1 Ae f P z
theorem qUT {f:Int->Int}:∀{a b:List Int},a.Perm b->a.Pairwise (OrdR f)->b.Pairwise (OrdR f)->a=b
 |[],b,p,_,_=>(List.nil_perm.mp p).symm
 |x::a,b,p,h1,h2=>by
  cases b with
  |nil=>exact absurd p.length_eq (by simp)
  |cons y b=>
   rw[O0] at h1 h2;have e:x=y:=by
    rcases B7.mp (p.mem_iff.mp C5) with e|m
    ·exact e
    ·rcases B7.mp (p.mem_iff.mpr C5) with e|m2
     ·exact e.symm
     ·have r1:=h2.1 x m;have r2:=h1.1 y m2;unfold OrdR at r1 r2
      lia
   subst e;rw[qUT (List.Perm.cons_inv p) h1.2 h2.2]
def mx (a b:Int):Int:=if b>a then b else a
inductive TRun (Ae:List (List Int)):List Int->Int->List Mv->List Int->Int->Prop
 |nil {S:List Int} {m:Int}:TRun Ae S m [] S m
 |do_ {S:List Int} {m:Int} {x:Int} {r:List Mv} {t:List Int} {n:Int}:x∉S->(∀y∈nd Ae x,y∈S)->TRun Ae (S++[x]) (mx m ((S.length:Int)+1)) r t n->TRun Ae S m ((("do",x):Mv)::r) t n
 |clr {S:List Int} {m:Int} {x:Int} {r:List Mv} {t:List Int} {n:Int}:x∈S->TRun Ae (S.erase x) m r t n->TRun Ae S m ((("clear",x):Mv)::r) t n
noncomputable def tk:Nat->List Int->List Int
 |_,[]=>[]
 |j,x::l=>(x+(j:Int))::tk (j+1) l
theorem qa2:∀(l:List Int) (j i:Nat),(tk j l)[i]?=(l[i]?).map λx=>x+((i+j:Nat):Int)
 |[],j,i=>by simp[tk]
 |x::l,j,0=>by simp[tk]
 |x::l,j,i+1=>by
  show(tk (j+1) l)[i]?=_;rw[qa2 l (j+1) i,u8,show i+(j+1)=i+1+j by lia]
theorem qXX (l:List Int):qD5 l l.length=tk 0 l:=by
 apply A59;intro i;rw[qa2];unfold qD5;rw[C1];by_cases h:i<l.length
 ·rw[A35 h,A4 h];simp[A4 h]
 ·rw[O7 (by rw[c6];lia),O7 (by lia)]
  rfl
theorem qbY {l:List Int}:∀{m x:Int},mx (l.foldl mx m) x=l.foldl mx (mx m x):=by
 induction l with
 |nil=>intro m x;rfl
 |cons y l ih=>
  intro m x;rw[Q9,Q9,ih];congr 1;unfold mx
  repeat' split
  all_goals lia
theorem qYP {s:Int}{l:List Int}:∀{m b:Int},(l.map (s+·)).foldl mx (mx m (s+b))=mx m (s+l.foldl mx b):=by
 induction l with
 |nil=>intro m b;rfl
 |cons y l ih=>
  intro m b;rw[C7,Q9,Q9,<- ih];congr 1;unfold mx
  repeat' split
  all_goals lia
theorem qb5 (b:Int)(l:List Int):topI b l=l.foldl mx b:=rfl
theorem qPP {Ae:List (List Int)}{z y x:Int}(a:y∈nd Ae z)(h:Nd Ae [y] x)(b:∃zs,Ae[z.toNat]?=some zs):Nd Ae [z] x:=by
 induction h with
 |ask m=>
  obtain⟨zs,e⟩:=b;rw[A5.mp m];exact .need (.ask (A5.mpr rfl)) e (by rw[qB8 e] at a;exact a)
 |need _ e m ih=>exact .need ih e m
structure TIn (Ae:List (List Int))(zs:List Int)(work:Int):Prop where
 wf:WFn Ae
 N:qAD Ae [work] zs
 len:Ae.length<=63
 user:∀{u v x:Int},u∈zs->v∈zs->x∈nd Ae u->x∈nd Ae v->u=v
section
variable{Ae:List (List Int)}{zs:List Int}{work:Int}
theorem TIn.get (T:TIn Ae zs work){z:Int}(c:z∈zs):Ae[z.toNat]?=some (nd Ae z):=by
 have b:=T.N.1.in_ z c;have a:z.toNat<Ae.length:=by lia
 have g:=A4 a;rw[g,qB8 g]
theorem TIn.has (T:TIn Ae zs work){z y:Int}(f:z∈zs)(e:y∈nd Ae z):y∈zs/\y<z/\0<=y:=by
 obtain⟨i,d⟩:=D8 f;obtain⟨c,b⟩:=qDK T.wf T.N d e;have a:=M8 c;exact⟨a,b,(T.N.1.in_ y a).1⟩
theorem TIn.le (T:TIn Ae zs work){z:Int}(a:z∈zs):z<=work:=qMC T.wf ((T.N.2 z).mp a)
theorem TIn.sub (T:TIn Ae zs work){z x:Int}(a:z∈zs)(h:Nd Ae [z] x):x∈zs:=by
 induction h with
 |ask m=>rw[A5.mp m];exact a
 |@need w y ys hw e m ih=>exact(T.has ih (by rw[qB8 e];exact m)).1
theorem TIn.chain (T:TIn Ae zs work){a b x:Int}(d:a∈zs)(g:b∈zs)(f:Nd Ae [a] x):Nd Ae [b] x->Nd Ae [a] b\/Nd Ae [b] a:=by
 induction f with
 |ask m=>
  intro c;rw[A5.mp m] at c;exact .inr c
 |@need w y ys hw e m ih=>
  intro c;cases c with
  |ask m2=>rw[<- A5.mp m2];exact .inl (.need hw e m)
  |@need w2 _ ys2 hw2 e2 m2=>
   have:=T.user (T.sub d hw) (T.sub g hw2) (by rw[qB8 e];exact m) (by rw[qB8 e2];exact m2)
   subst this;exact ih hw2
theorem TIn.apart (T:TIn Ae zs work){z a b:Int}(d:z∈zs)(i:a∈nd Ae z)(g:b∈nd Ae z)(h:Nd Ae [a] b):a=b:=by
 cases h with
 |ask m=>exact(A5.mp m).symm
 |@need w _ ys hw e m=>
  have f:=T.has d i;have c:=T.sub f.1 hw;have:=T.user c d (by rw[qB8 e];exact m) g
  have:=qMC T.wf hw
  lia
theorem TIn.nodup (T:TIn Ae zs work){z:Int}(a:z∈zs):(nd Ae z).Nodup:=(T.wf _ _ (T.get a)).nodup
theorem qcO {S a:List Int}{z m n:Int}{r:List Mv}{t:List Int}(g:z∉a)(b:∀y∈a,y∉S):∀{os:List Int},os.Perm a->os.Nodup->TRun Ae (S++[z]) m r t n->TRun Ae (S++os++[z]) m (clrM a++r) t n:=by
 induction a with
 |nil=>
  intro os p _ h;rw[List.perm_nil.mp p,K0];exact h
 |cons y a ih=>
  intro os p d h;have c:y∈os:=p.mem_iff.mpr C5;refine .clr (by simp[c]) ?_
  have e:(S++os++[z]).erase y=S++os.erase y++[z]:=by
   rw[F3,List.erase_append_right _ (b y C5),List.erase_append_left _ c,F3]
  rw[e];refine ih (λq=>g (A9 _ q)) (λw f=>b w (A9 _ f)) ?_ (d.erase y) h;have:=p.erase y;rw[List.erase_cons_head] at this;exact this
theorem qXU (T:TIn Ae zs work){f:Int->Int}{P:Int->List Mv}(NO:NumOn Ae zs f)(PO:PlOn Ae zs f P):∀(k:Nat) (z:Int),z.toNat=k->z∈zs->∀(S:List Int) (m:Int) (r:List Mv) (t:List Int) (n:Int),(∀s∈S,¬Nd Ae [z] s)->
  TRun Ae (S++[z]) (mx m ((S.length:Int)+f z)) r t n->TRun Ae S m (P z++r) t n:=by
 intro k
 induction k using Z5 with
 |ind k ih=>
  intro z hk g S m r t n u h;obtain⟨d,p,so,e⟩:=PO z g;have zb:=T.N.1.in_ z g;have i:d.Nodup:=p.nodup_iff.mpr (T.nodup g)
  -- the needs' plans
  have j:∀(suf pre:List Int) (m:Int) (R:List Mv),d=pre++suf->TRun Ae (S++d) (((tk pre.length (suf.map f)).map ((S.length:Int)+·)).foldl mx m) R t n->TRun Ae (S++pre) m ((suf.map P).flatten++R) t n:=by
   intro suf
   induction suf with
   |nil=>
    intro pre m R l v;rw[K0] at l;rw[<- l];exact v
   |cons y suf ih2=>
    intro pre m R l v;have w:y∈d:=by rw[l];simp
    have o:=T.has g (p.mem_iff.mp w);rw[C7,Q0,F3];refine ih y.toNat (by lia) y rfl o.1 (S++pre) m _ t n (λs hs=>?_) ?_
    ·rcases B4.mp hs with q|q
     ·exactλc=>u s q (qPP (p.mem_iff.mp w) c ⟨_,T.get g⟩)
     ·intro c;have ms:s∈d:=by rw[l];exact V1 _ q
      have es:=T.apart g (p.mem_iff.mp w) (p.mem_iff.mp ms) c;rw[l] at i;exact(S0.mp i).2.2 s q y C5 es.symm
    ·rw[F3];refine ih2 (pre++[y]) _ R (by rw[l,F3];rfl) ?_
     have e3:((S++pre).length:Int)+f y=(S.length:Int)+(f y+(pre.length:Int)):=by rw[A8];lia
     rw[e3,A8,B3];exact v
  rw[e];unfold qG9;rw[F3];have:=j d [] m ((("do",z):Mv)::clrM (nd Ae z)++r) rfl
  rw[K0] at this;refine this (.do_ (λq=>?_) (λy o=>F9 _ (p.mem_iff.mpr o)) ?_)
  ·rcases B4.mp q with q|q
   ·exact u z q (.ask (A5.mpr rfl))
   ·have:=T.has g (p.mem_iff.mp q)
    lia
  ·refine qcO (λq=>?_) (λy o q=>?_) p i ?_
   ·have:=T.has g q
    lia
   ·exact u y q (.need (.ask (A5.mpr rfl)) (T.get g) o)
   ·obtain⟨ds,pd,sd,ez⟩:=NO z g;have x:(d.map f).Pairwise (· >= ·):=by
     rw[J2];refine so.imp λ{a b} h=>?_;unfold OrdR at h
     lia
    have ed:d.map f=ds:=qQ9 ((p.map f).trans pd.symm) x sd;have ev:mx (((tk 0 (d.map f)).map ((S.length:Int)+·)).foldl mx m) (((S++d).length:Int)+1)=mx m ((S.length:Int)+f z):=by
     rw[qbY,show((S++d).length:Int)+1=(S.length:Int)+((d.length:Int)+1) by rw[A8];lia,qYP,ez]
     unfold qKI;rw[qb5,qXX,<- ed,A0]
    rw[show([]:List Int).length=0 from rfl,ev];exact h
theorem qcG (a:List Int):qBA (clrM a)=[]:=by
 unfold qBA clrM;rw[List.filterMap_map];exact List.filterMap_eq_nil_iff.mpr λy _=>show(if B9 "clear" = B9 "do" then some y else none)=none from if_neg (by decide)
theorem qWR {P:Int->List Mv}(a:List Int):qBA ((a.map P).flatten)=(a.map λy=>qBA (P y)).flatten:=by
 unfold qBA;rw[List.filterMap_flatten,Y9]
 rfl
theorem qZR {P:Int->List Mv}(z:Int)(a:List Int):qBA (qG9 Ae P z a)=(a.map λy=>qBA (P y)).flatten++[z]:=by
 rw[<- qWR];unfold qG9;have e:qBA ((("do",z):Mv)::clrM (nd Ae z))=[z]:=by
  have:=qcG (nd Ae z);unfold qBA at this ⊢;rw[L0,this]
  rfl
 rw[<- e];unfold qBA;rw[U5]
theorem qLO (T:TIn Ae zs work){f:Int->Int}{P:Int->List Mv}(PO:PlOn Ae zs f P):∀(k:Nat) (z:Int),z.toNat=k->z∈zs->(qBA (P z)).Nodup/\(∀x,x∈qBA (P z)↔Nd Ae [z] x)/\(P z).length+1=2*(qBA (P z)).length:=by
 intro k
 induction k using Z5 with
 |ind k ih=>
  intro z hk j;obtain⟨q,p,so,e⟩:=PO z j;have zb:=T.N.1.in_ z j;have t:q.Nodup:=p.nodup_iff.mpr (T.nodup j);have d:∀y∈q,(qBA (P y)).Nodup/\(∀x,x∈qBA (P y)↔Nd Ae [y] x)/\(P y).length+1=2*(qBA (P y)).length:=λy g=>by
   have:=T.has j (p.mem_iff.mp g);exact ih y.toNat (by lia) y rfl this.1
  rw[e,qZR];refine⟨?_,λx=>?_,?_⟩
  ·rw[S0];refine⟨?_,by simp,λa r b n=>?_⟩
   ·unfold List.Nodup;rw[List.pairwise_flatten];refine⟨λl i=>?_,?_⟩
    ·obtain⟨y,g,rfl⟩:=D5.mp i;exact(d y g).1
    ·rw[J2];refine List.Pairwise.imp_of_mem (λ{a b} r n ne=>?_) t;intro x h1 x2 h2 ex;subst ex;have a1:=((d a r).2.1 x).mp h1;have a2:=((d b n).2.1 x).mp h2;have u:=p.mem_iff.mp r;have s:=p.mem_iff.mp n;rcases T.chain (T.has j u).1 (T.has j s).1 a1 a2 with c|c
     ·exact ne (T.apart j u s c)
     ·exact ne (T.apart j s u c).symm
   ·obtain⟨l,i,v⟩:=d9.mp r;obtain⟨y,g,rfl⟩:=D5.mp i;have h1:=qMC T.wf (((d y g).2.1 a).mp v);have h2:=T.has j (p.mem_iff.mp g);rw[A5.mp n]
    lia
  ·rw[B4,A5,d9]
   constructor
   ·rintro(⟨l,i,hx⟩|rfl)
    ·obtain⟨y,g,rfl⟩:=D5.mp i;exact qPP (p.mem_iff.mp g) (((d y g).2.1 x).mp hx) ⟨_,T.get j⟩
    ·exact .ask (A5.mpr rfl)
   ·intro h
    induction h with
    |ask m=>exact .inr (A5.mp m)
    |@need w y ys hw e2 m ih3=>
     left
     rcases ih3 with⟨l,i,hx⟩|rfl
     ·obtain⟨o,ho,rfl⟩:=D5.mp i;exact⟨_,i,((d o ho).2.1 y).mpr (.need (((d o ho).2.1 w).mp hx) e2 m)⟩
     ·have g:y∈q:=p.mem_iff.mpr (by rw[qB8 e2];exact m)
      exact⟨_,D5.mpr ⟨y,g,rfl⟩,((d y g).2.1 y).mpr (.ask (A5.mpr rfl))⟩
  ·have fl:∀l:List Int,(∀y∈l,(P y).length+1=2*(qBA (P y)).length)->((l.map P).flatten).length+l.length=2*((l.map λy=>qBA (P y)).flatten).length:=by
    intro l
    induction l with
    |nil=>intro _;rfl
    |cons y l ih4=>
     intro i;have a:=i y C5;have b:=ih4 λw hw=>i w (A9 _ hw);simp only[C7,Q0,A8,C3]
     lia
   have:=fl q λy g=>(d y g).2.2;have lp:=p.length_eq;unfold qG9 clrM;simp only[A8,C3,A0,J9]
   lia
theorem qXW (T:TIn Ae zs work){f:Int->Int}{P:Int->List Mv}(PO:PlOn Ae zs f P){z:Int}(a:z∈zs):(P z).length<=800:=by
 obtain⟨d,c,e⟩:=qLO T PO _ z rfl a;have:=qRP (n:=Ae.length) d λx b=>T.N.1.in_ x (T.sub a ((c x).mp b));have:=T.len
 lia
theorem qQY (T:TIn Ae zs work){f:Int->Int}{P:Int->List Mv}(NO:NumOn Ae zs f)(PO:PlOn Ae zs f P)(b:0<=f work):TRun Ae [] 0 (P work) [work] (f work):=by
 have:=qXU T NO PO _ work rfl (qBT T.N) [] 0 [] [work] (f work) (fun s a=>nomatch a) (by
  have e:mx 0 ((([]:List Int).length:Int)+f work)=f work:=by
   unfold mx;simp only[J9]
   split<;>lia
  rw[e];exact .nil)
 rw[K0] at this;exact this
theorem qKU (T:TIn Ae zs work){f:Int->Int}{P:Int->List Mv}(PO:PlOn Ae zs f P):(qBA (P work)).Perm zs:=by
 obtain⟨b,a,c⟩:=qLO T PO _ work rfl (qBT T.N);exact(l8 b T.N.1.nodup).mpr λx=>(a x).trans (T.N.2 x).symm
end
theorem lm_hu {X:Cx}{a:Scope}{p:Str}{fv:List Nat}{q:Str}(z:LmZ):(lmCx X a p fv q z).A.units+1<cLine:=by
 have:=z.rm.un;show z.A.units+3+1<cLine
 lia
noncomputable def kvsV (l:List Int)(g:Int->V):List (Key×V):=l.map λz=>(D7 z,g z)
theorem qMF {g:Int->V}{y:Int}:∀{l:List Int},y∈l->valV (kvsV l g) (D7 y)=some (g y)
 |[],h=>by cases h
 |x::l,h=>by
  by_cases e:x=y
  ·subst e;exact qBG rfl
  ·exact(qB9 (λz=>e (U7 z))).trans (qMF ((B7.mp h).resolve_left λz=>e z.symm))
theorem qNQ {g:Int->V}{y:Int}:∀{l:List Int},y∉l->valV (kvsV l g) (D7 y)=none
 |[],_=>rfl
 |x::l,h=>(qB9 (λz=>h (by rw[<- U7 z];exact C5))).trans (qNQ λz=>h (A9 _ z))
theorem qVS {g:Int->V}{y:Int}{l:List Int}:qO4 (kvsV l g) (D7 y)=kvsV (l.filter λx=>decide (x≠y)) g:=by
 unfold qO4 kvsV;rw[A79];congr 1;exact S9 λx _=>decide_eq_decide.mpr ⟨λh e=>h (by rw[e]),λh e=>h (U7 e)⟩
theorem qYY {l:List Int}{g:Int->V}{z:Int}{v:V}(h:z∉l):putK (kvsV l g) (D7 z) v=kvsV (l++[z]) (λy=>if y=z then v else g y):=by
 rw[qIU _ (qNQ h)];unfold kvsV;rw[B0];congr 1
 ·exact J8 λy a=>by
   show _=(D7 y,if y=z then v else g y)
   rw[if_neg λ(e:y=z)=>h (e▸a)]
 ·simp
noncomputable def opn (Ae:List (List Int))(l:List Int):List Int:=l.filter λx=>decide (∀w∈l,x∉nd Ae w)
section
variable{Ae:List (List Int)}{zs:List Int}{work:Int}
theorem opn_mem {l:List Int}{x:Int}:x∈opn Ae l↔x∈l/\∀w∈l,x∉nd Ae w:=by
 unfold opn;rw[D6,decide_eq_true_eq]
theorem qYI (T:TIn Ae zs work){i:Nat}{z y:Int}(hi:zs[i]?=some z)(a:y∈nd Ae z):y∈opn Ae (zs.take i):=by
 have h:=qDK T.wf T.N hi a;refine opn_mem.mpr ⟨h.1,λw b m=>?_⟩;have:=T.user (M8 b) (B1 hi) m a;have:=qHI T.N hi b
 lia
theorem qYH (T:TIn Ae zs work){i:Nat}{z:Int}(hi:zs[i]?=some z):opn Ae (zs.take (i+1))=((opn Ae (zs.take i)).filter λx=>decide (x∉nd Ae z))++[z]:=by
 have g:zs.take (i+1)=zs.take i++[z]:=by rw[C6,hi];rfl
 have j:=B1 hi;have c:∀x∈zs.take i,z∉nd Ae x:=λx f m=>by
  have a:=qHI T.N hi f;have b:=T.has (M8 f) m
  lia
 have d:z∉nd Ae z:=λm=>by have:=T.has j m;lia
 unfold opn;rw[g,m6,A50];congr 1
 ·refine S9 λx _=>?_;rw[<- A80];refine decide_eq_decide.mpr ⟨λh=>⟨h z (by simp),λw e=>h w (V1 _ e)⟩,λh w e=>?_⟩
  rcases B4.mp e with q|q
  ·exact h.2 w q
  ·rw[A5.mp q];exact h.1
 ·rw[List.filter_cons_of_pos,A81];rw[decide_eq_true_eq];intro w e;rcases B4.mp e with q|q
  ·exact c w q
  ·rw[A5.mp q];exact d
theorem qYJ (T:TIn Ae zs work):work∈opn Ae zs:=opn_mem.mpr ⟨qBT T.N,λw c m=>by
 have a:=T.has c m;have b:=T.le c
 lia⟩
theorem qbS (T:TIn Ae zs work)(l:List Int)(h:l.length<=zs.length):(opn Ae l).length<=63:=by
 have a:=J5 (λx=>decide (∀w∈l,x∉nd Ae w)) l;have b:=T.N.1.len;have c:=T.len;unfold opn
 lia
noncomputable def qUV (f:Int->Int)(l:List Int):List Int:=l.mergeSort λa b=>decide (f b<f a\/(f a=f b/\a<=b))
theorem qFT (f:Int->Int)(l:List Int):(qUV f l).Perm l:=List.mergeSort_perm _ _
theorem qUU {f:Int->Int}{l:List Int}(n:l.Nodup):(qUV f l).Pairwise (OrdR f):=by
 have h:=List.pairwise_mergeSort (le:=fun a b=>decide (f b<f a\/(f a=f b/\a<=b))) (fun a b c e d=>by
  rw[decide_eq_true_eq] at e d ⊢
  lia) (λa b=>by
  rw[Z3,decide_eq_true_eq,decide_eq_true_eq]
  lia) l
 have g:(qUV f l).Nodup:=(qFT f l).nodup_iff.mpr n;refine(h.and g).imp λ{a b} z=>?_;have i:=of_decide_eq_true z.1;have j:a≠b:=z.2;unfold OrdR
 lia
noncomputable def plF (Ae:List (List Int))(f:Int->Int):Nat->Int->List Mv
 |0,_=>[]
 |n+1,z=>qG9 Ae (plF Ae f n) z (qUV f (nd Ae z))
theorem qbN (T:TIn Ae zs work){f:Int->Int}:∀(k n m:Nat) (z:Int),z.toNat=k->z∈zs->k<n->k<m->plF Ae f n z=plF Ae f m z:=by
 intro k
 induction k using Z5 with
 |ind k ih=>
  intro n m z d a g c;obtain⟨n,rfl⟩:∃n',n=n'+1:=⟨n-1,by lia⟩
  obtain⟨m,rfl⟩:∃m',m=m'+1:=⟨m-1,by lia⟩
  show qG9 Ae (plF Ae f n) z _=qG9 Ae (plF Ae f m) z _;unfold qG9;rw[J8 λy b=>?_];have h:=T.has a ((qFT f _).mem_iff.mp b);have e:=T.N.1.in_ z a;exact ih y.toNat (by lia) n m y rfl h.1 (by lia) (by lia)
theorem exP (T:TIn Ae zs work)(f:Int->Int):∃P,PlOn Ae zs f P:=by
 refine⟨λz=>plF Ae f (z.toNat+1) z,λz a=>⟨qUV f (nd Ae z),qFT _ _,qUU (T.nodup a),?_⟩⟩;show qG9 Ae (plF Ae f z.toNat) z _=_;unfold qG9;rw[J8 λy b=>?_];have h:=T.has a ((qFT f _).mem_iff.mp b);have c:=T.N.1.in_ z a;exact qbN T y.toNat _ _ y rfl h.1 (by lia) (by lia)
theorem Pl1.by {f:Int->Int}{P:Int->List Mv}{z:Int}{a:List Int}(h:Pl1 Ae f P z)(p:a.Perm (nd Ae z))(s:a.Pairwise (OrdR f)):P z=qG9 Ae P z a:=by
 obtain⟨o,c,b,e⟩:=h;rw[e,qUT (c.trans p.symm) b s]
end
def keyT (f:Int->Int)(y:Int):List Int:=[-(f y),y]
theorem lexT (a b c d:Int):HT.lexLt [a,b] [c,d]=true↔a<c\/(a=c/\b<d):=by
 simp only[HT.lexLt];simp
 split<;>lia
theorem qfB {f:Int->Int}{c:List Int}{rs:List (List Int×V)}(n:c.Nodup)(p:rs.Perm ((c.map (keyT f)).zip (c.map V.int)))(s:rs.Pairwise (λa b=>HT.lexLt b.1 a.1=false)):∃os:List Int,os.Perm c/\os.Pairwise (OrdR f)/\rs.map (·.2)=os.map V.int:=by
 have h:(c.map (keyT f)).zip (c.map V.int)=c.map λy=>(keyT f y,V.int y):=by
  clear n p
  induction c with
  |nil=>rfl
  |cons y c ih=>rw[C7,C7,K9,ih,C7]
 obtain⟨os,d,e⟩:=L2.G.perm_map_inv p c h;refine⟨os,d,?_,by rw[e,Y9];rfl⟩
 rw[e,J2] at s;have i:os.Nodup:=d.nodup_iff.mpr n;refine(s.and i).imp λ{a b} z=>?_;have j:a≠b:=z.2;have g:¬(-(f b) < -(f a)\/(-(f b) = -(f a)/\b<a)):=λq=>by
  have:=(lexT _ _ _ _).mpr q;have g:HT.lexLt [-(f b),b] [-(f a),a]=false:=z.1;rw[g] at this;cases this
 unfold OrdR
 lia
section
variable{dp p:Addr}{H Hc Hd:Hp}
theorem qVY {o:HO}(k:Keep dp dp Hc Hd):Keep dp dp Hc (Ag Hd dp o):=λb u e a c=>by rw[qA8 a];exact k b u e a c
theorem Keep.toSame (k:Keep dp dp Hc Hd)(s:Same H Hc)(h:H dp=none):Same H Hd:=λb o e=>k b o (s b o e) (qA6 e h) (qA6 e h)
theorem MovL.putT {rs:List Addr}{a:List Mv}{o u:HO}(h:MovL H rs a)(b:H p=some o)(c:∀xs,o≠.tup xs):MovL (Ag H p u) rs a:=qEC h λr m e=>by
 have n:r≠p:=λz=>by
  rw[z,b] at e;exact c _ (D0 e)
 rw[qA8 n];exact e
theorem MovL.keepD {rs:List Addr}{a:List Mv}{Af:List (Key×V)}(h:MovL Hc rs a)(b:Hc dp=some (.dK Af))(k:Keep dp dp Hc Hd):MovL Hd rs a:=qEC h λr m e=>by
 have n:r≠dp:=qCC e b (by intro z;cases z)
 exact k _ _ e n n
theorem PlanAt.keepD {l:Addr}{b:List Mv}{Af:List (Key×V)}(h:PlanAt Hc l b)(c:Hc dp=some (.dK Af))(k:Keep dp dp Hc Hd):PlanAt Hd l b:=by
 obtain⟨e,a,d⟩:=h;have n:l≠dp:=qCC a c (by intro z;cases z)
 exact⟨e,k _ _ a n n,d.keepD c k⟩
end
theorem qSX {l d:List Int}{j:Nat}{y:Int}(h:d[j]?=some y):((l.filter λx=>decide (x∉d.take j)).filter λx=>decide (x≠y))=l.filter λx=>decide (x∉d.take (j+1)):=by
 rw[A50];refine S9 λx _=>?_;rw[<- A80];refine decide_eq_decide.mpr ?_;rw[C6,h,C8,B4,A5]
 constructor
 ·rintro⟨a,b⟩ (c|c)
  ·exact b c
  ·exact a c
 ·exactλh=>⟨λc=>h (.inr c),λc=>h (.inl c)⟩
theorem qWF (P:Int->List Mv)(a:List Int)(j:Nat):(((a.take j).map P).flatten).length<=((a.map P).flatten).length:=by
 have e:(a.map P).flatten=((a.take j).map P).flatten++((a.drop j).map P).flatten:=by
  rw[<- l6,<- B0,c9]
 rw[e,A8]
 lia
theorem qWG {P:Int->List Mv}{a:List Int}{j:Nat}{y:Int}(h:a[j]?=some y):((a.take (j+1)).map P).flatten=((a.take j).map P).flatten++P y:=by
 rw[C6,h,C8,B0,l6];simp
theorem qVT {f:Int->Int}{l:List Int}{i:Nat}{k:Key}{v:V}(h:(qDF l f)[i]?=some (k,v)):∃z,l[i]?=some z/\k=D7 z:=by
 unfold qDF at h;rw[C1] at h;cases e:l[i]? with
 |none=>rw[e] at h;cases h
 |some z=>
  rw[e] at h;cases h;exact⟨z,rfl,rfl⟩
structure Pck (f:Int->Int)(ys pk lf:List Int):Prop where
 perm:(pk++lf).Perm ys
 up:lf.Pairwise (·<·)
 ord:pk.Pairwise (OrdR f)
 ahead:∀a∈pk,∀b∈lf,OrdR f a b
theorem qPO {S:List Int}{x:Int}(h:S.Nodup):S.erase x=S.filter λy=>decide (y≠x):=by
 rw[h.erase_eq_filter];exact S9 λy _=>by by_cases e:y=x<;>simp[e,bne]
theorem qV7 {Ae:List (List Int)}{zs:List Int}{f:Int->Int}{z:Int}(h:NumOn Ae zs f)(b:z∈zs):0<=f z:=by
 obtain⟨a,_,_,e⟩:=h z b;have:=(qF0 (qD5 a a.length) ((a.length:Int)+1)).1;rw[e];unfold qKI
 lia
def TabT (H:Hp) (Pt:Addr):Prop:=H Pt=some (.tbl (.tab "tree_plan.<locals>.<lambda>"))
theorem qVQ {p:Nat->Prop}{a c:Nat}(h:a<=c)(f:p a):∃e,a<=e/\e<=c/\p e/\∀t,e<t->t<=c->¬p t:=by
 induction c with
 |zero=>exact⟨a,A7 _,h,f,λt b d=>by lia⟩
 |succ c ih=>
  by_cases q:p (c+1)
  ·exact⟨c+1,h,A7 _,q,λt b d=>by lia⟩
  ·by_cases e:a=c+1
   ·subst e;exact absurd f q
   ·obtain⟨e,b,d,j,k⟩:=ih (by lia)
    refine⟨e,b,by lia,j,λt i l=>?_⟩
    by_cases g:t=c+1
    ·rw[g];exact q
    ·exact k t i (by lia)
theorem qTB {p:Nat->Prop}{a b:Nat}(h:a<=b)(f:¬p a)(d:p b):∃c,a<=c/\c<b/\¬p c/\p (c+1):=by
 induction b with
 |zero=>
  have e:a=0:=by lia
  subst e;exact absurd d f
 |succ b ih=>
  by_cases e:a=b+1
  ·subst e;exact absurd d f
  ·by_cases q:p b
   ·obtain⟨c,g,j,i⟩:=ih (by lia) q
    exact⟨c,g,by lia,i⟩
   ·exact⟨b,by lia,by lia,q,d⟩
theorem qaI {q:Int->Nat->Prop}{a c:Nat}(h:a<=c):∀(l:List Int),l≠[]->(∀o∈l,q o a)->∃o∈l,∃e,a<=e/\e<=c/\q o e/\∀o'∈l,∀t,e<t->t<=c->¬q o' t
 |[],ne,_=>absurd rfl ne
 |o::l,_,hq=>by
  obtain⟨e,h1,h2,h3,h4⟩:=qVQ h (hq o C5);by_cases ne:l=[]
  ·subst ne;exact⟨o,C5,e,h1,h2,h3,λo' m=>by rw[A5.mp m];exact h4⟩
  ·obtain⟨o2,m2,e2,g1,g2,g3,g4⟩:=qaI h l ne λx hx=>hq x (A9 _ hx);by_cases le:e<=e2
   ·refine⟨o2,A9 _ m2,e2,g1,g2,g3,λo' m t k1 k2=>?_⟩;rcases B7.mp m with rfl|m
    ·exact h4 t (by lia) k2
    ·exact g4 o' m t k1 k2
   ·refine⟨o,C5,e,h1,h2,h3,λo' m t k1 k2=>?_⟩;rcases B7.mp m with rfl|m
    ·exact h4 t k1 k2
    ·exact g4 o' m t (by lia) k2
section
variable{Ae:List (List Int)}{zs:List Int}{work:Int}
theorem TIn.disj (T:TIn Ae zs work){z a b x:Int}(d:z∈zs)(f:a∈nd Ae z)(e:b∈nd Ae z)(h:Nd Ae [a] x)(g:Nd Ae [b] x):a=b:=by
 rcases T.chain (T.has d f).1 (T.has d e).1 h g with c|c
 ·exact T.apart d f e c
 ·exact(T.apart d e f c).symm
theorem qRL (T:TIn Ae zs work){z:Int}(hz:z∈zs){S:List Int}:∀(l:List Int),l.Nodup->(∀o∈l,o∈nd Ae z)->(∀o∈l,∃x∈S,Nd Ae [o] x)->∃m:List Int,m.Nodup/\m.length=l.length/\∀x∈m,x∈S/\∃o∈l,Nd Ae [o] x
 |[],_,_,_=>⟨[],n6,rfl,λ_ h=>nomatch h⟩
 |o::l,n,h1,h2=>by
  have n2:=L4.mp n;obtain⟨m,a1,a2,a3⟩:=qRL T hz l n2.2 (λx hx=>h1 x (A9 _ hx)) λx hx=>h2 x (A9 _ hx);obtain⟨x,b1,b2⟩:=h2 o C5;refine⟨x::m,L4.mpr ⟨λhm=>?_,a1⟩,by rw[C3,C3,a2],λy hy=>?_⟩
  ·obtain⟨_,o2,c1,c2⟩:=a3 x hm;have:=T.disj hz (h1 o C5) (h1 o2 (A9 _ c1)) b2 c2;exact n2.1 (by rw[this];exact c1)
  ·rcases B7.mp hy with rfl|hy
   ·exact⟨b1,o,C5,b2⟩
   ·obtain⟨c0,o2,c1,c2⟩:=a3 y hy;exact⟨c0,o2,A9 _ c1,c2⟩
theorem qHN {f:Int->Int}{z:Int}(h:NumOn Ae zs f)(b:z∈zs):1<=f z:=by
 obtain⟨a,_,_,e⟩:=h z b;have:=(qF0 (qD5 a a.length) ((a.length:Int)+1)).1;rw[e];unfold qKI
 lia
theorem qfS (T:TIn Ae zs work){f:Int->Int}(NO:NumOn Ae zs f):∀(k:Nat) (z:Int),z.toNat=k->z∈zs->∀(st:Nat->List Int) (a b:Nat),a<=b->(∀t,a<=t->t<b->∀x∈st (t+1),x∈st t\/∀y∈nd Ae x,y∈st (t+1))->
  (∀x∈st a,¬Nd Ae [z] x)->z∈st b->∃(τ:Nat) (l:List Int),a<=τ/\τ<=b/\l.Nodup/\(∀x∈l,x∈st τ/\Nd Ae [z] x)/\f z<=(l.length:Int):=by
 intro k
 induction k using Z5 with
 |ind k ih=>
  intro z hk hz st a b a7 a1 v hb;have zb:=T.N.1.in_ z hz;obtain⟨c,c1,c2,c3,c4⟩:=qTB (p:=λt=>z∈st t) a7 (λm=>v z m (.ask (A5.mpr rfl))) hb;have u:∀y∈nd Ae z,y∈st (c+1):=by
   rcases a1 c c1 c2 z c4 with q|q
   ·exact absurd q c3
   ·exact q
  obtain⟨s,pd,sd,ez⟩:=NO z hz;obtain⟨w,po,eo⟩:=L2.G.perm_map_inv pd (nd Ae z) rfl;have lo:s.length=w.length:=by rw[eo,A0]
  have a5:=T.nodup hz;have a8:w.Nodup:=po.nodup_iff.mpr a5;have up:∀{y x:Int},y∈nd Ae z->Nd Ae [y] x->Nd Ae [z] x:=λhy h=>qPP hy h ⟨_,T.get hz⟩;rcases(qF0 (qD5 s s.length) ((s.length:Int)+1)).2.2 with h|h
  ·refine⟨c+1,z::nd Ae z,by lia,by lia,L4.mpr ⟨λm=>by have:=T.has hz m;lia,a5⟩,λx hx=>?_,?_⟩
   ·rcases B7.mp hx with rfl|hx
    ·exact⟨c4,.ask (A5.mpr rfl)⟩
    ·exact⟨u x hx,up hx (.ask (A5.mpr rfl))⟩
   ·rw[ez];unfold qKI;rw[h,C3,lo,po.length_eq]
    lia
  ·have ef:f z=topI ((s.length:Int)+1) (qD5 s s.length):=ez;rw[<- ef] at h;unfold qD5 at h;obtain⟨i,hi,e⟩:=D5.mp h;have hi:i<s.length:=G3.mp hi;rw[A4 hi,W3] at e;have ab:i<w.length:=by lia
   have d:∀o∈w.take (i+1),o∈nd Ae z:=λo ho=>po.mem_iff.mp (M8 ho);have a2:∀o∈w.take (i+1),s[i]<=f o:=λo ho=>by
    obtain⟨j,hj⟩:=D8 ho;have lj:j<i+1:=by have:=(A3.mp hj).1;rw[C4] at this;lia
    rw[J1 lj] at hj;have a6:j<s.length:=by lia
    have ej:s[j]=f o:=by
     have:s[j]?=some (f o):=by rw[eo,C1,hj];rfl
     exact(A3.mp this).2
    by_cases g:j=i
    ·subst g;lia
    ·have:=G7.mp sd j i a6 hi (by lia)
     lia
   have a3:(w.take (i+1)).length=i+1:=by rw[C4];lia
   obtain⟨o,mo,e1,g1,g2,g3,g4⟩:=qaI (q:=λo t=>∀x∈st t,¬Nd Ae [o] x) (a:=a) (c:=c+1) (by lia) (w.take (i+1)) (λz=>by rw[z] at a3;cases a3) λo ho x hx q=>v x hx (up (d o ho) q)
   have ho:=T.has hz (d o mo);obtain⟨τ,l,t1,t2,t3,t4,t5⟩:=ih o.toNat (by lia) o rfl ho.1 st e1 (c+1) g2 (λt h1 h2=>a1 t (by lia) (by lia)) g3 (u o (d o mo))
   have f1:=qHN NO ho.1;have aa:e1<τ:=by
    by_cases q:e1=τ
    ·subst q;cases l with
     |nil=>rw[J9] at t5;lia
     |cons x l=>
      have:=t4 x C5;exact absurd this.2 (g3 x this.1)
    ·lia
   have a4:(w.take (i+1)).Nodup:=a8.sublist (X3 _ _);have a0:∀o'∈(w.take (i+1)).erase o,∃x∈st τ,Nd Ae [o'] x:=λo' m=>by
    have q:=g4 o' (U6 m) τ aa t2;by_cases r:∃x∈st τ,Nd Ae [o'] x
    ·exact r
    ·exact absurd (λx hx n=>r ⟨x,hx,n⟩) q
   obtain⟨m,m1,m2,m3⟩:=qRL T hz ((w.take (i+1)).erase o) (a4.erase o) (λo' h=>d o' (U6 h)) a0;refine⟨τ,l++m,by lia,by lia,?_,λx hx=>?_,?_⟩
   ·rw[S0];refine⟨t3,m1,λx hx y hy a9=>?_⟩;subst a9;obtain⟨_,o',k1,k2⟩:=m3 x hy;have:=T.disj hz (d o mo) (d o' (U6 k1)) (t4 x hx).2 k2;rw[<- this] at k1;exact(List.Nodup.mem_erase_iff a4).mp k1 |>.1 rfl
   ·rcases B4.mp hx with q|q
    ·exact⟨(t4 x q).1,up (d o mo) (t4 x q).2⟩
    ·obtain⟨k0,o',k1,k2⟩:=m3 x q;exact⟨k0,up (d o' (U6 k1)) k2⟩
   ·have le:=Z2 mo;have:=a2 o mo;rw[A8,m2,le,a3,<- e]
    lia
end
section
variable{Ae:List (List Int)}{zs:List Int}{work Aa:Int}
theorem Pt.seq (wf:WFn Ae){t:Nat}{st:List Int}(h:Pt Ae Aa t st):∃s:Nat->List Int,s 0=[]/\s t=st/\(∀i,i<t->∀x∈s (i+1),x∈s i\/∀y∈nd Ae x,y∈s (i+1))/\∀i,i<=t->s i=[]\/((s i).length:Int)<=Aa:=by
 induction h with
 |zero=>exact⟨λ_=>[],rfl,rfl,λi o=>by lia,λi _=>.inl rfl⟩
 |@step t st m hp hm ih=>
  obtain⟨s,w,j,u,n⟩:=ih;have r:=hp.rise;obtain⟨⟨a,b,c⟩,d,e⟩:=due_iff.mp hm;have B:=qFZ r a;have k:=qKA r hm;refine⟨λi=>if i<=t then s i else behL st m,by dsimp only;rw[if_pos (D9 _)];exact w,by dsimp only;rw[if_neg (by lia)],λi o x f=>?_,λi o=>?_⟩
  ·dsimp only at f ⊢;by_cases g:i<t
   ·rw[if_pos (by lia)] at f ⊢
    rw[if_pos (by lia)]
    exact u i g x f
   ·have v:i=t:=by lia
    subst v;rw[if_neg (by lia)] at f
    rw[if_pos (A7 _),if_neg (by lia),j]
    rcases a with a|a
    ·obtain⟨p,_⟩:=B.1 a;rcases B4.mp (p.mem_iff.mp f) with q|q
     ·exact .inl q
     ·rw[A5.mp q];exact .inr λy z=>p.mem_iff.mpr (V1 _ ((d a).2.1 y z))
    ·rw[B.2 a] at f;exact .inl (D6.mp f).1
  ·dsimp only;by_cases g:i<=t
   ·rw[if_pos g];exact n i g
   ·rw[if_neg g];rcases k with⟨a,l⟩|⟨a,l⟩
    ·have:=(d a).2.2;exact .inr (by lia)
    ·rcases n t (A7 _) with q|q
     ·rw[j] at q;rw[q] at l;simp at l
     ·rw[j] at q;exact .inr (by lia)
theorem qYK (T:TIn Ae zs work){f:Int->Int}(NO:NumOn Ae zs f){m b:Nat}(h:Rm Ae Aa m b)(j:b.testBit work.toNat=true):f work<=Aa:=by
 have d:=qBT T.N;have wb:=T.N.1.in_ work d;obtain⟨st,t,e,p,_⟩:=h.path T.wf;have r:=p.rise;rw[e,qAX r,decide_eq_true_eq,show((work.toNat:Nat):Int)=work by lia] at j
 obtain⟨s,z,o,n,v⟩:=p.seq T.wf;obtain⟨τ,l,_,u,w,g,k⟩:=qfS T NO _ work rfl d s 0 t (D9 _) (λi _ y=>n i y) (λx c=>by rw[z] at c;cases c) (by rw[o];exact j)
 have a:l.length<=(s τ).length:=qHJ w λx c=>(g x c).1;have f1:=qHN NO d;rcases v τ u with q|q
 ·rw[q] at a;simp at a;rw[a] at k;simp at k
  lia
 ·lia
theorem qYQ {a b:Int}:a<=mx a b/\b<=mx a b:=by unfold mx;split<;>lia
theorem TRun.ge {S t:List Int}{m n:Int}{a:List Mv}(h:TRun Ae S m a t n):m<=n:=by
 induction h with
 |nil=>exact L7 _
 |do_ _ _ _ ih=>exact Int.le_trans qYQ.1 ih
 |clr _ _ ih=>exact ih
end
theorem qcI {Ae:List (List Int)}{Ad ws u:List Int}{R:Int}{k:Nat}(b:WFn Ae)(N:qAD Ae Ad ws)(a:Rise (Ae.length:Int) Ad)(P:Pt Ae R k u)(e:∀x∈Ad,x∈u):qFK Ae ws Ad R:=by
 obtain⟨v,Q⟩:=prj (ws:=ws) N.1 P;obtain⟨m,_,g⟩:=Q.bits (qCL b N.1);refine⟨m,_,g,?_⟩;rw[qGH N a];have f:=qHG N a;refine P7 λj=>?_;rw[X2,qAX Q.rise j,qAX f j];by_cases c:(j:Int)∈qCX ws Ad
 ·rw[decide_eq_true c,B02];refine decide_eq_true ?_;obtain⟨h,y,d,i⟩:=(qC5 N.1.nodup).mp c;exact(qC5 N.1.nodup).mpr ⟨h,y,d,e y i⟩
 ·rw[decide_eq_false c,W5]
theorem qZS {Ae:List (List Int)}{Ad ws:List Int}{R:Int}(g:WFn Ae)(N:qAD Ae Ad ws)(d:Rise (Ae.length:Int) Ad)(h:qFK Ae ws Ad R):∃(k:Nat) (st:List Int),Pt (qBY Ae ws) R k st/\∀x∈qCX ws Ad,x∈st:=by
 obtain⟨m,b,h,f⟩:=h;obtain⟨st,t,e,p,_⟩:=h.path (qCL g N.1);refine⟨t,st,p,λx a=>?_⟩;have c:=qHG N d;have i:=(c.in_ x a).1;have z:(b &&& qSG ws Ad).testBit x.toNat=true:=by
  rw[f,qGH N d,qAX c,show((x.toNat:Nat):Int)=x by lia]
  exact decide_eq_true a
 rw[X2,O4,e,qAX p.rise,show((x.toNat:Nat):Int)=x by lia,decide_eq_true_eq] at z
 exact z.1
theorem qZK (a:List Mv):(a.filter isDo).length=(qBA a).length:=by
 induction a with
 |nil=>rfl
 |cons m a ih=>
  have b:(qBA (m::a)).length=(if m.1=B9 "do" then 1 else 0)+(qBA a).length:=by
   unfold qBA;rw[L0]
   split<;>simp_all<;>lia
  rw[b,<- ih,G9];by_cases c:m.1=B9 "do"
  ·rw[if_pos c,if_pos (show isDo m=true from decide_eq_true c),C3];lia
  ·rw[if_neg c,if_neg (show¬isDo m=true fromλz=>c (of_decide_eq_true z))];lia
theorem qWS (a:List Mv):doN a=((qBA a).length:Int):=by unfold doN;rw[qZK]
theorem qR9 {Ae:List (List Int)}{R R':Int}{s t:List Int}{a:List Mv}(h:Run Ae R s a t)(b:R<=R'):Run Ae R' s a t:=by
 induction h with
 |nil=>exact .nil
 |do_ h1 h2 h3 h4 h5 _ ih=>exact .do_ h1 h2 (by lia) h4 h5 ih
 |clear h1 _ ih=>exact .clear h1 ih
def qP0:Sp:=λvs H Q _=>∃(a l:Addr) (Ae:List (List Int)) (ms:List Mv) (Aa:Int) (sts0:List (List Int)),vs=[.ref a,.int Aa,.ref l]/\qSB H a l Ae ms Aa/\Play Ae Aa [] ms sts0 .non/\
 ∀ls sts H',Same H H'->Play Ae Aa [] ms sts .non->H ls=none->StandsAt H' ls ([]::sts)->Q (.ref ls) H'
def qU2:Sp:=λvs H Q _=>∃(a l:Addr) (Ae:List (List Int)) (ms:List Mv) (sts0:List (List Int)),vs=[.ref a,.ref l]/\qSB H a l Ae ms (Ae.length:Int)/\Play Ae (Ae.length:Int) [] ms sts0 .non/\
 ∀sts m H',Same H H'->Play Ae (Ae.length:Int) [] ms sts .non->topD none (lens ([]::sts))=some m->Q (.int m) H'
def qU5:Sp:=λvs H Q _=>∃(a l t:Addr) (Ae:List (List Int)) (ms:List Mv) (Aa:Int) (Ad last:List Int),vs=[.ref a,.int Aa,.ref l,.ref t]/\qSB H a l Ae ms Aa/\Run Ae Aa [] ms last/\H t=some (.tup (Ad.map V.int))/\Ad.length<=63/\(∀x∈Ad,x∈last)/\∀H',Same H H'->Q (.bl true) H'
section
variable{Ae net':List (List Int)}{R r r':Int}{Ad asked':List Int}
def Has (Ae:List (List Int))(R:Int)(Ad:List Int):Prop:=∃u st,Pt Ae R u st/\∀x∈Ad,x∈st
def Few (Ae:List (List Int))(Ad:List Int)(r:Int):Prop:=1<=r/\Has Ae r Ad/\∀r',1<=r'->Has Ae r' Ad->r<=r'
theorem Few.mono (h:Few Ae Ad r)(h':Few Ae asked' r')(s:∀x∈Ad,x∈asked'):r<=r':=by
 obtain⟨u,b,P,c⟩:=h'.2.1;exact h.2.2 r' h'.1 ⟨u,b,P,λx a=>c x (s x a)⟩
theorem Few.one (h:Few Ae Ad r)(h':Few Ae Ad r'):r=r':=A11 (h.mono h' λ_ z=>z) (h'.mono h λ_ z=>z)
theorem Has.done {ws:List Int}(c:WFn Ae)(N:qAD Ae Ad ws)(a:Rise (Ae.length:Int) Ad)(h:Has Ae r Ad):qFK Ae ws Ad r:=by
 obtain⟨u,d,P,b⟩:=h;exact qcI c N a P b
theorem Has.part {ws a:List Int}(b:Rise (Ae.length:Int) ws)(h:Has Ae R Ad)(d:∀p∈a,0<=p/\∃x,ws[p.toNat]?=some x/\x∈Ad):Has (qBY Ae ws) R a:=by
 obtain⟨u,j,P,i⟩:=h;obtain⟨v,Q⟩:=prj b P;refine⟨v,_,Q,λp f=>?_⟩;obtain⟨g,x,e,c⟩:=d p f;exact(qC5 b.nodup).mpr ⟨g,x,e,i x c⟩
theorem qYN {z x:Int}(h:Nd Ae [z] x):x=z\/∃y∈nd Ae z,Nd Ae [y] x:=by
 induction h with
 |ask h=>exact .inl (A5.mp h)
 |@need w y zs hw e hy ih=>
  rcases ih with c|⟨v,hv,n⟩
  ·subst c;exact .inr ⟨y,by rw[qB8 e];exact hy,.ask (A5.mpr rfl)⟩
  ·exact .inr ⟨v,hv,n.need e hy⟩
end
theorem TRun.lets {Ae:List (List Int)}{Aa:Int}{S t:List Int}{m n:Int}{l:List Mv}(h:TRun Ae S m l t n):n<=Aa->(∀x∈qBA l,0<=x/\x<(Ae.length:Int))->S.Nodup->(∀x∈S,0<=x/\x<(Ae.length:Int))->∀{k:Nat} {st:List Int},Pt Ae Aa k st->st.Perm S->∃st',Run Ae Aa st l st'/\st'.Perm t/\MvOk Ae l:=by
 induction h with
 |nil=>exactλ_ _ _ _ k st p q=>⟨st,.nil,q,λ_ z=>nomatch z⟩
 |@do_ S m x r t n h1 h2 h3 ih=>
  intro w o j d k st p q;have v:=o x (M9.mpr ⟨_,C5,if_pos rfl⟩);have ge:=h3.ge;have lq:=q.length_eq;have l2:=(qYQ (a:=m) (b:=(S.length:Int)+1)).2;have g:(("do",x):Mv)∈qCZ Ae st Aa:=due_iff.mpr ⟨⟨.inl rfl,v⟩,λ_=>⟨λz=>h1 (q.mem_iff.mp z),λy c=>q.mem_iff.mpr (h2 y c),by lia⟩,λz=>absurd z (by show¬B9 "do" = B9 "clear";decide)⟩
  have B:=(qFZ (m:=(("do",x):Mv)) p.rise (.inl rfl)).1 rfl
  have s:=p.step g;obtain ⟨st',i,pm,mv⟩:=ih w (fun y c=>o y (M9.mpr (by
   obtain⟨m',h1,h2⟩:=M9.mp c;exact⟨m',A9 _ h1,h2⟩))) (by
   rw[S0];exact⟨j,by simp,λa ha b d e=>h1 (by rw[<- A5.mp d,<- e];exact ha)⟩) (λy c=>by
   rcases B4.mp c with z|z
   ·exact d y z
   ·rw[A5.mp z];exact v) s (B.1.trans (q.append_right _))
  exact⟨st',.do_ (λz=>h1 (q.mem_iff.mp z)) (λy c=>q.mem_iff.mpr (h2 y c)) (by lia) B.1 s.rise.up i,pm,λf u=>(B7.mp u).elim (λe=>by rw[e];exact⟨.inl rfl,v⟩) (mv f)⟩
 |@clr S m x r t n h1 h2 ih=>
  intro w o j d k st p q;have g:(("clear",x):Mv)∈qCZ Ae st Aa:=due_iff.mpr ⟨⟨.inr rfl,d x h1⟩,λz=>absurd z (by show¬B9 "clear" = B9 "do";decide),λ_=>q.mem_iff.mpr h1⟩
  have B:=(qFZ (m:=(("clear",x):Mv)) p.rise (.inr rfl)).2 rfl;have s:=p.step g;obtain ⟨st',i,pm,mv⟩:=ih w (fun y c=>o y (M9.mpr (by
   obtain⟨m',h1,h2⟩:=M9.mp c;exact⟨m',A9 _ h1,h2⟩))) (j.erase x) (λy c=>d y (U6 c)) s (by
   rw[B,qPO j];exact q.filter _)
  rw[B] at i;exact⟨st',.clear (q.mem_iff.mpr h1) i,pm,λf u=>(B7.mp u).elim (λe=>by rw[e];exact⟨.inr rfl,d x h1⟩) (mv f)⟩
def qLT (K:PySem.W.Frag)(Pt Po:Addr):Sp:=λvs H Q E=>TabB H Pt/\TabT H Po/\qfA K vs H Q E
section
variable{Ae:List (List Int)}{zs:List Int}{work:Int}
def isT (Ae:List (List Int))(work:Int):Prop:=∃zs,qAD Ae [work] zs/\qOX Ae work zs=true
theorem qW1 (N:qAD Ae [work] zs):isT Ae work↔qOX Ae work zs=true:=by
 constructor
 ·rintro⟨b,a,h⟩;rw[qC8 N a];exact h
 ·exactλh=>⟨zs,N,h⟩
theorem qO9 {x u v:Int}(ne:u≠v)(h1:x∈nd Ae u)(h2:x∈nd Ae v):∀{l:List Int},u∈l->v∈l->2<=(nds Ae l).count x
 |[],h,_=>by cases h
 |w::l,hu,hv=>by
  have e:nds Ae (w::l)=nd Ae w++nds Ae l:=by simp[nds]
  have pos:∀ y ∈ l,x ∈ nd Ae y->1<=(nds Ae l).count x:=fun y hy hx=>m8.mpr (by
   unfold nds;exact d9.mpr ⟨_,D5.mpr ⟨y,hy,rfl⟩,hx⟩)
  have pw:∀{y},y=w->x∈nd Ae y->1<=(nd Ae w).count x:=λey hx=>m8.mpr (ey▸hx);rw[e,p9];rcases B7.mp hu with a|a
  ·rcases B7.mp hv with b|b
   ·exact absurd (a.trans b.symm) ne
   ·have:=pw a h1;have:=pos v b h2
    lia
  ·rcases B7.mp hv with b|b
   ·have:=pw b h2;have:=pos u a h1
    lia
   ·have:=qO9 ne h1 h2 a b
    lia
theorem qd0 (a:WFn Ae)(f:Ae.length<=63)(N:qAD Ae [work] zs)(h:isT Ae work):TIn Ae zs work:=by
 refine⟨a,N,f,λ{u v x} b k c g=>?_⟩;have d:=(qW1 N).mp h;unfold qOX at d;obtain⟨i,j⟩:=D8 b;obtain⟨l,m⟩:=qDK a N j c;have n:=qMC a ((N.2 u).mp b);have:=of_decide_eq_true (O5.mp d x (M8 l)) (by lia)
 unfold cI at this;rcases Classical.em (u=v) with e|e
 ·exact e
 ·have:=qO9 e c g b k
  lia
end
def NIn (H:Hp)(a:Addr)(Ae:List (List Int))(work:Int):Prop:=NetAt H a Ae/\WFn Ae/\Ae.length<=63/\0<=work/\work<(Ae.length:Int)
def TreeG (H:Hp)(a:Addr)(Ae:List (List Int))(work:Int):Prop:=NetAt H a Ae/\WFn Ae/\Ae.length<=63/\0<=work/\work<(Ae.length:Int)/\isT Ae work
theorem TreeG.same {H H':Hp}{a:Addr}{Ae:List (List Int)}{b:Int}(h:TreeG H a Ae b)(s:Same H H'):TreeG H' a Ae b:=⟨h.1.same s,h.2⟩
theorem TreeG.tin {H:Hp}{a:Addr}{Ae:List (List Int)}{zs:List Int}{b:Int}(h:TreeG H a Ae b)(N:qAD Ae [b] zs):TIn Ae zs b:=qd0 h.2.1 h.2.2.1 N h.2.2.2.2.2
def qNB:Sp:=λvs H Q _=>∃(a:Addr) (Ae:List (List Int)) (work:Int),vs=[.ref a,.int work]/\TreeG H a Ae work/\∀H',Same H H'->Q .non H'
def qFM:Sp:=λvs H Q _=>∃(a:Addr) (Ae:List (List Int)) (work:Int),vs=[.ref a,.int work]/\TreeG H a Ae work/\
 ∀l rs zs f H',Same H H'->H l=none->qAD Ae [work] zs->NumOn Ae zs f->H' l=some (.lst (rs.map V.ref))->Paired (λ(r:Addr) (z:Int)=>H' r=some (.tup [.int z,.int (f z)])) rs zs->Q (.ref l) H'
def qI4:Sp:=λvs H Q _=>∃(a:Addr) (Ae:List (List Int)) (work:Int),vs=[.ref a,.int work]/\TreeG H a Ae work/\∀zs f H',Same H H'->qAD Ae [work] zs->NumOn Ae zs f->Q (.int (f work)) H'
def qJ8 (Pt:Addr):Sp:=λvs H Q _=>∃(a:Addr) (Ae:List (List Int)) (work:Int),vs=[.ref a,.int work]/\TabT H Pt/\TreeG H a Ae work/\
 ∀l zs f P H',Same H H'->H l=none->qAD Ae [work] zs->NumOn Ae zs f->PlOn Ae zs f P->PlanAt H' l (P work)->Q (.ref l) H'
section
variable{Ae:List (List Int)}{R r:Int}{Ad ws zs:List Int}{work:Int}
theorem qdN {u:Nat}{st:List Int}(P:Pt Ae R u st):∃ms,Run Ae R [] ms st/\MvOk Ae ms:=by
 induction P with
 |zero=>exact⟨[],.nil,λ_ z=>by cases z⟩
 |@step t st m hp hm ih=>
  obtain⟨ms,g,j⟩:=ih;have i:=(hp.step hm).rise;obtain⟨⟨a,b,c⟩,d,e⟩:=due_iff.mp hm;have B:=qFZ hp.rise a;obtain⟨f,w⟩:=m;refine⟨ms++[(f,w)],g.app ?_,λm hm=>(B4.mp hm).elim (j m) λh=>by rw[A5.mp h];exact⟨a,b,c⟩⟩
  rcases a with a|a
  ·have a:f=B9 "do":=a
   subst a;exact .do_ (d rfl).1 (d rfl).2.1 (d rfl).2.2 (B.1 rfl).1 i.up .nil
  ·have a:f=B9 "clear":=a;subst a;rw[B.2 rfl];exact .clear (e rfl) .nil
theorem Has.lift (N:qAD Ae Ad ws)(v:Rise (Ae.length:Int) Ad){a:List Int}(h:Has (qBY Ae ws) R a)(j:∀x∈Ad,∃p∈a,0<=p/\ws[p.toNat]?=some x):Has Ae R Ad:=by
 obtain⟨u,t,P,q⟩:=h;obtain⟨l,r,f⟩:=qdN P;have n:=qR8 N r (λ_ z=>by cases z) f
 have d:∀m∈renM ws l,0<=m.2/\m.2<(Ae.length:Int):=λm i=>by
  obtain⟨c,o,rfl⟩:=D5.mp i;have b:=(f c o).2;rw[qBV] at b;have e:=A4 (show c.2.toNat<ws.length by lia)
  show 0<=renW ws c.2/\renW ws c.2<_;unfold renW;rw[e];exact N.1.in_ _ (U0 _)
 refine⟨_,_,qa7 n d .zero,λx g=>?_⟩;obtain⟨p,k,s,e⟩:=j x g;refine D5.mpr ⟨p,q p k,?_⟩;have:=qM4 e
 rwa[show((p.toNat:Nat):Int)=p by lia] at this
theorem qLN (T:TIn Ae zs work){f:Int->Int}(NO:NumOn Ae zs f):Few Ae [work] (f work):=by
 have e:=qHN NO (qBT T.N);have o:=T.N.1.in_ work (qBT T.N);obtain⟨P,c⟩:=exP T f;have b:=qKU T c;obtain⟨i,j,l,k⟩:=(qQY T NO c (qV7 NO (qBT T.N))).lets (L7 _) (λx a=>T.N.1.in_ x (b.mem_iff.mp a)) n6 (λx a=>nomatch a) (.zero) (.refl _);refine⟨e,⟨_,_,qa7 j (λm d=>(k m d).2) .zero,λx a=>l.mem_iff.mpr a⟩,λn _ h=>?_⟩;obtain⟨u,i,P,g⟩:=h;obtain⟨m,_,R⟩:=P.bits T.wf;refine qYK T NO R ?_;rw[qAX P.rise,decide_eq_true_eq,show((work.toNat:Nat):Int)=work by lia]
 exact g work (A5.mpr rfl)
theorem qUS (N:qAD Ae [work] ws)(n:WFn Ae)(t:0<=work)(j:work<(Ae.length:Int))(h:Few Ae [work] r):1<=ws.length/\Few (qBY Ae ws) [(ws.length:Int)-1] r:=by
 have g:work∈ws:=(N.2 work).mpr (.ask (A5.mpr rfl));have o:=T6 g;have u:Rise (Ae.length:Int) [work]:=⟨P4 _ _,λx b=>by rw[A5.mp b];exact⟨t,j⟩⟩
 have a:ws[ws.length-1]?=some work:=by
  obtain⟨i,d⟩:=D8 g;have k:=(A3.mp d).1;have w:=A4 (show ws.length-1<ws.length by lia)
  have v:=qMC n ((N.2 _).mp (U0 (show ws.length-1<ws.length by lia)))
  by_cases c:i=ws.length-1
  ·rw[<- c];exact d
  ·have:=G7.mp N.1.up i (ws.length-1) k (by lia) (by lia)
   have e:=(A3.mp d).2
   lia
 have f:(((ws.length:Int)-1).toNat)=ws.length-1:=by lia
 refine⟨o,h.1,h.2.1.part N.1 λp q=>?_,λs m l=>h.2.2 s m (l.lift N u λx b=>?_)⟩
 ·rw[A5.mp q];exact⟨by lia,work,by rw[f];exact a,A5.mpr rfl⟩
 ·rw[A5.mp b];exact⟨_,A5.mpr rfl,by lia,by rw[f];exact a⟩
theorem qNZ (d:WFn Ae)(N:qAD Ae Ad ws)(a:Rise (Ae.length:Int) Ad)(L:qOP Ae ws Ad r):Few Ae Ad r:=by
 refine⟨L.1,?_,λe g h=>?_⟩
 ·obtain⟨k,l,P,j⟩:=qZS d N a L.2.1;refine Has.lift N a ⟨k,l,P,j⟩ λx b=>?_;obtain⟨i,f⟩:=D8 ((N.2 x).mpr (.ask b));exact⟨(i:Int),(qC5 N.1.nodup).mpr ⟨by lia,x,by rw[D2];exact f,b⟩,by lia,by rw[D2];exact f⟩
 ·rcases Int.lt_or_le e r with c|c
  ·exact absurd (h.done d N a) (L.2.2 e g c)
  ·exact c
theorem TIn.of (T:TIn Ae zs work){z:Int}(e:z∈zs){a:List Int}(N:qAD Ae [z] a):TIn Ae a z/\∀x∈a,x∈zs:=by
 have s:∀x∈a,x∈zs:=λx b=>T.sub e ((N.2 x).mp b);exact⟨⟨T.wf,N,T.len,λd c=>T.user (s _ d) (s _ c)⟩,s⟩
theorem qcH {b:List Mv}{st:List Int}(Rn:Run Ae R [] b st)(u:∀x∈Ad,x∈st)(N:qAD Ae Ad ws):∀x∈ws,x∈qBA b:=by
 have l:∀{s t:List Int} {b:List Mv},Run Ae R s b t->∀D:List Int,(∀x∈s,∀w,Nd Ae [x] w->w∈D)->∀x∈t,∀w,Nd Ae [x] w->w∈D\/w∈qBA b:=by
  intro s t b h
  induction h with
  |nil=>exactλD h x d w r=>.inl (h x d w r)
  |@do_ s s' t w b h1 h2 h3 h4 h5 h6 ih=>
   intro D g x d y f;have p:qBA (("do",w)::b)=w::qBA b:=rfl
   rw [p,B7];have:=ih (w::D) (fun z o v k=>by
    rcases B4.mp (h4.mem_iff.mp o) with m|m
    ·exact A9 _ (g z m v k)
    ·rw[A5.mp m] at k;rcases qYN k with c|⟨q,hq,n⟩
     ·rw[c];exact C5
     ·exact A9 _ (g q (h2 q hq) v n)) x d y f
   rw[B7] at this;rcases this with(a|a)|a
   ·exact .inr (.inl a)
   ·exact .inl a
   ·exact .inr (.inr a)
  |@clear s t w b h1 h2 ih=>
   intro D g x d y f;exact ih D (λz o=>g z (D6.mp o).1) x d y f
 intro x d;have j:∀{y},Nd Ae Ad y->∃a∈Ad,Nd Ae [a] y:=by
  intro y h
  induction h with
  |ask h=>exact⟨_,h,.ask (A5.mpr rfl)⟩
  |need _ e f ih=>
   obtain⟨a,i,n⟩:=ih;exact⟨a,i,n.need e f⟩
 obtain⟨a,i,n⟩:=j ((N.2 x).mp d);exact(l Rn [] (λ_ z=>by cases z) a (u a i) x n).resolve_left (λz=>by cases z)
theorem TRun.peak {S t:List Int}{m n:Int}{g:List Mv}(h:TRun Ae S m g t n):(S.length:Int)<=m->n=max m (peak (S.length:Int) g):=by
 induction h with
 |nil=>intro d;unfold Fw.peak;lia
 |@do_ S m x r t n h1 h2 h3 ih=>
  intro d;have e:=ih (by rw[A8,B3];exact qYQ.2)
  have p:=qM9 ((S.length:Int)+1) r;have c:Fw.peak (S.length:Int) (("do",x)::r)=max (S.length:Int) (Fw.peak ((S.length:Int)+1) r):=rfl
  rw[c,e,A8,B3];have:=qYQ (a:=m) (b:=(S.length:Int)+1);have i:mx m ((S.length:Int)+1)=max m ((S.length:Int)+1):=by unfold mx;split<;>lia
  push_cast
  lia
 |@clr S m x r t n h1 h2 ih=>
  intro d;have f:=Z2 h1;have j:=T6 h1;have e:=ih (by rw[f];lia)
  have c:Fw.peak (S.length:Int) (("clear",x)::r)=max (S.length:Int) (Fw.peak ((S.length:Int)+pm ("clear",x)) r):=rfl;rw[qRF] at c;rw[c,e,f,show(((S.length-1:Nat)):Int)=(S.length:Int) + -1 by lia]
  lia
end
def qU1:Sp:=λvs H Q _=>∃(a:Addr) (Ae:List (List Int)) (work:Int),vs=[.ref a,.int work]/\NetAt H a Ae/\WFn Ae/\Ae.length<=60/\0<=work/\work<(Ae.length:Int)/\∀b ws H',Same H H'->qAD Ae [work] ws->NetAt H' b (qBY Ae ws)->Q (.ref b) H'
def qN9:Sp:=λvs H Q _=>∃(a:Addr) (Ae:List (List Int)) (last r:Int),vs=[.ref a,.int last]/\NetAt H a Ae/\WFn Ae/\Ae.length<=12/\0<=last/\last<(Ae.length:Int)/\Few Ae [last] r/\∀H',Same H H'->Q (.int r) H'
def qN7:Sp:=λvs H Q _=>∃(a l:Addr) (Ae:List (List Int)) (work r:Int) (ms:List Mv) (zs:List Int),vs=[.ref a,.int work,.ref l,.int r]/\PlayIn2 H a l Ae ms r/\0<=work/\work<(Ae.length:Int)/\qAD Ae [work] zs/\Run Ae r [] ms [work]/\peak 0 ms=r/\(qBA ms).Perm zs/\ms.length<=60/\∀H',Same H H'->Q (.bl true) H'
def qN6 (Pt Po:Addr):Sp:=λvs H Q _=>∃(a:Addr) (Ae:List (List Int)) (work:Int),vs=[.ref a,.int work]/\TabB H Pt/\TabT H Po/\TreeG H a Ae work/\Ae.length<=60/\(∀zs,qAD Ae [work] zs->zs.length<=9)/\∀H',Same H H'->Q (.bl true) H'
section
variable{P:B15}{w:World}{K:PySem.W.Frag}{mg:Str->Option Value}{base:Heap}{f:Addr}{fd:B27}{qGE qDJ qEP qFF qEN qFX qH5 qIY qeS qCT qHX Pt cc qCA qHW qE7 qD4 qEE qK2 qQA qK6 qH6 qHY qFD qK4 qC9 qWM qFG qQD Po qWL qE8 qQB qFE qDQ qQC qEQ qK3 qHV qWK qMM qMO qK5 qMN:Addr}{qH4 qG7 qIA qML qKM qK0 qLB qO1 qFC qQ6 qDI qQ5 qJZ qHT qQ7 qTD qZL qTH qLC qQ8 qMJ qTF qDH qcD qHU qZO qcC qK1 qZM qMK qO0 qZN qKO qTE qQ4 qcB qWH qWJ qTG qWI:B27}
theorem sc_Lbegin:FnScope ["_law_script","_law_cells"] ["_law_script"] (qAA qIT):=qBK
theorem ok_Lbegin (F:Fun K "_law_begin" "_law_begin" qIT f fd) (z:mg "list" = none):FnOk P w K mg base CX0 1 f fd ["_law_script"] (qU6 K):=by
 refine F.okA sc_Lbegin λa1 A u s H vs Q E hr h=>?_;obtain⟨a,n,rfl,hS,a0,q⟩:=h;have hu:=qHR hr;have t:=hr.units0;refine⟨_,(qA4 (qAE (i:=1) sc_Lbegin.nd rfl (E1 rfl) (qAH qID rfl z qK9 (qA0 (qMA qP1 (pv 0) qPD (qPC qA7)) qA3))) (qA4 (qBP (qAM (qV3 t) (pv 1) (qBX qA3) (qAS _)) (qA5 (qAE (i:=1) sc_Lbegin.nd rfl (E1 rfl) (qBX (qA0 qA7 qA3)))) qAL) (qA5 (qAG (qUP (qM6 qBO (pv 1) (qM6 qBO qA7 qUG)) rfl rfl (by simp) (by decide)))))),?_⟩
 try dsimp only[Cx.nox,Cx.wish,cxOf]
 refine⟨_,rfl,_,rfl,a,_,rfl,hS,λp hp=>?_⟩;rw[qMS];have hl:(cutI n none (some 63)).length<=63:=F2 (qZU _ _ _) a0;refine⟨p,_,rfl,.inl (SqL.of qA1),λc v=>?_⟩;have s1:Same H (Ag (Ag H p (.lst ((cutI n none (some 63)).map V.int))) c (.lst ((cutI n none (some 63)).map V.int))):=(qA2 hp _).trans (qA2 v _);refine⟨_,rfl,(by show 0<=B14;decide),λe m=>?_⟩
 have k:c≠e:=qA6 qA1 m;refine⟨c,e,_,rfl,rfl,SqL.of (by rw[qA8 k];exact qA1),SqL.of qA1,_,rfl,?_⟩
 have j:=s1.trans (qA2 m (.lst []));cases hm:cutI n none (some 63) with
 |nil=>
  rw[hm] at j m;refine iteT ?_;refine⟨(by show 1<=B14;decide),λy l=>?_⟩
  have o:=j.trans (qA2 l (.lst [.int 7]));intro d g;refine⟨_,rfl,?_⟩;have s4:=o.trans (qA2 g (.dK []));refine⟨qA1,[(L9 (B9 "cells"),.ref y),(L9 (B9 "turn"),.int 0)],rfl,(by show 2<=15;decide),?_⟩
  have b:y≠d:=qA6 qA1 g;refine q d y [7] _ ⟨?_,?_,by decide,by decide,by decide⟩ ?_ ?_ ?_
  ·rw[qA1,qaH]
  ·rw[qA8 b,qA8 b];exact qA1
  ·rw[qHH];exact o.trans (qA2 g _)
  ·exact o.free g
  ·exact j.free l
 |cons x r=>
  rw[hm] at j m hl;refine iteF ?_;intro d g;refine⟨_,rfl,?_⟩;refine⟨qA1,[(L9 (B9 "cells"),.ref c),(L9 (B9 "turn"),.int 0)],rfl,(by show 2<=15;decide),?_⟩
  have gc:(Ag (Ag (Ag H p (.lst ((x::r).map V.int))) c (.lst ((x::r).map V.int))) e (.lst [])) c=some (.lst ((x::r).map V.int)):=by rw[qA8 k];exact qA1
  have b:c≠d:=qA6 gc g;refine q d c (x::r) _ ⟨?_,?_,by simp,hl,by decide⟩ ?_ ?_ ?_
  ·rw[qA1,qaH]
  ·rw[qA8 b,qA8 b];exact gc
  ·rw[qHH];exact j.trans (qA2 g _)
  ·exact j.free g
  ·rw[hm] at v;exact(qA2 hp _).free v
theorem sc_Ltake:FnScope ["_law_state","_law_many","_law_turn","_law_place","_law_cell","_law_digit","_law_mixed"] ["_law_state","_law_many"] (qAA qM0):=qBK
theorem ok_Ltake (F:Fun K "_law_take" "_law_take" qM0 f fd) (a2:mg "len" = none) (a0:mg "divmod" = none):FnOk P w K mg base CX0 1 f fd ["_law_state","_law_many"] qKW:=by
 refine F.okA sc_Ltake λa8 A a1 s H vs Q E hr h=>?_;obtain⟨d,c,t,g,m,rfl,S,ht,a6,a5,q⟩:=h;have r:=qHR hr;refine⟨_,(qA4 (qAE (i:=2) sc_Ltake.nd rfl (E1 rfl) (qAO qC7 (qCE r (pv 0) qBO (λ_ _=>rfl)) qA7)) (qA4 (qE4 r (pv 0) qBO (pv 2) rfl) (qA4 (qAE (i:=3) sc_Ltake.nd rfl (E1 rfl) (qAO qJL (pv 2) (qA9 qAC rfl a2 qBD (qA0 (qCE r (pv 0) qBO (λ_ _=>rfl)) qA3)))) (qA4 (qAE (i:=4) sc_Ltake.nd rfl (E1 rfl) (qB5 qCF (qCE r (pv 0) qBO (λ_ _=>rfl)) (pv 3) (λ_ _=>rfl))) (qA4 (qBP (qAM qV2 (pv 4) (qAO qdW qA7 qA7) (qAS _)) (qA4 (qI7 (qA9 qQL rfl a0 qX7 (qA0 (pv 4) (qA0 (pv 1) qA3))) (qG4 rfl (qAV (qUM (qCE r (pv 0) qBO (λ_ _=>rfl)) (pv 3) qIP) (qAV (qAN (i:=5) sc_Ltake.nd rfl (E1 rfl)) qD2)))) (qA5 (qAG (pv 5)))) qAL) (qA4 (qAE (i:=6) sc_Ltake.nd rfl (E1 rfl) (qAO qJL (qAO qJK (qAO qC7 (qAO qC7 (qAO qJL (pv 4) qA7) (qAO qJK (qAO qJK (pv 2) (pv 2)) qA7)) qA7) qA7) qA7)) (qA4 (qAE (i:=6) sc_Ltake.nd rfl (E1 rfl) (qAO qJL (qAO qJK (pv 6) (pv 6)) qA7)) (qA5 (qAG (qAO qJL (qAO qPJ (qAO qJL (qAO qJK (qAO qC7 (pv 6) (qAO qJK (pv 2) qA7)) qA7) qA7) qA7) (pv 1))))))))))),?_⟩
 try dsimp only[Cx.nox,Cx.wish,cxOf]
 have a3:=S.pos;have a9:=S.ne;have a4:t<=1000000000:=ht;refine⟨_,rfl,d,_,rfl,qcJ S,_,_,rfl,rfl,?_⟩;refine⟨_,rfl,_,rfl,d,_,rfl,qcF S,?_⟩;have l:=S.turn (u:=t+1) (by lia)
 have k1:Keep d c H (Ag H d (.dK [(L9 (B9 "cells"),.ref c),(L9 (B9 "turn"),.int (t+1))])):=λb o e n _=>by rw[qA8 n];exact e
 generalize Ag H d (.dK [(L9 (B9 "cells"),.ref c),(L9 (B9 "turn"),.int (t+1))])=H1 at l k1;have k:(((g.map V.int).length:Nat):Int)=(g.length:Int):=by rw[A0]
 refine⟨_,rfl,_,rfl,d,_,rfl,qMR l,c,_,rfl,.inl (SqL.of l.list),_,_,rfl,rfl,(by rw[k];lia),?_⟩
 have p0:0<=(t+1)%(((g.map V.int).length:Nat):Int):=X0 _ (by rw[k];lia)
 have p1:(t+1)%(((g.map V.int).length:Nat):Int)<(g.length:Int):=by
  have:=U3 (t+1) (b:=(((g.map V.int).length:Nat):Int)) (by rw[k];lia)
  rw[k] at this ⊢;exact this
 dsimp only;generalize (t+1)%(((g.map V.int).length:Nat):Int)=pl at p0 p1;obtain⟨j,rfl⟩:∃j:Nat,pl=(j:Int):=⟨pl.toNat,by lia⟩
 have hj:j<g.length:=by lia
 have v:atI (g.map V.int) (j:Int)=some (.int g[j]):=qXE (by rw[C1,A4 hj];rfl)
 refine⟨_,rfl,d,_,rfl,qMR l,_,rfl,c,_,_,_,rfl,rfl,SqL.of l.list,v,?_⟩;generalize hx:g[j]=x at v ⊢;refine⟨_,rfl,_,_,rfl,rfl,⟨by decide,by decide,by decide⟩,_,_,rfl,rfl,_,rfl,?_⟩
 refine ite2 (λ_=>?_) (λ_=>?_)
 ·-- a great cell
  refine⟨_,rfl,_,rfl,x,m,rfl,⟨by lia,by lia⟩,λp hp=>?_⟩
  have S2:=l.new hp (.tup [.int (x/m),.int (x%m)]);have a7:p≠c:=(qA6 l.list hp).symm;refine⟨p,_,rfl,SqT.of qA1,rfl,_,_,rfl,?_⟩;refine⟨_,rfl,d,_,rfl,qMR S2,_,rfl,c,_,_,j,rfl,rfl,S2.list,qQ2 (by rw[A0];exact hj),?_⟩
  refine⟨_,_,rfl,rfl,?_⟩;refine⟨_,rfl,?_⟩;have e1:(g.map V.int).set j (.int (x/m))=(g.set j (x/m)).map V.int:=by rw[A12]
  rw[e1];refine q (x%m) (g.set j (x/m)) _ (X0 _ (by lia)) (U3 _ (by lia)) (S2.put (by rw[k5])) ?_
  have k2:=k1.trans (qDG (d:=d) (c:=c) hp (.tup [.int (x/m),.int (x%m)]));exactλb o e n1 n2=>by rw[qA8 n2];exact k2 b o e n1 n2
 ·have b1:0<=x%2147483629:=X0 _ (by decide)
  have b2:x%2147483629<2147483629:=U3 _ (by decide)
  refine⟨_,rfl,_,_,rfl,rfl,(by show(0:Int)<2147483629;decide),_,rfl,_,rfl,_,_,rfl,rfl,.inl ⟨by lia,by lia⟩,_,_,rfl,rfl,.inr ⟨by decide,by decide⟩,_,_,rfl,rfl,_,_,rfl,rfl,_,_,rfl,rfl,.inr ⟨by decide,by decide⟩,_,_,rfl,rfl,(by show(0:Int)<2147483647;decide),?_⟩
  have c1:=X0 ((x%2147483629+(t+1)*(t+1)*7919+11)*48271) (b:=2147483647) (by decide)
  have c2:=U3 ((x%2147483629+(t+1)*(t+1)*7919+11)*48271) (b:=2147483647) (by decide)
  dsimp only;generalize ((x%2147483629+(t+1)*(t+1)*7919+11)*48271)%2147483647=y at c1 c2;refine⟨_,rfl,_,rfl,_,_,rfl,rfl,.inl ⟨by lia,by lia⟩,_,_,rfl,rfl,(by show(0:Int)<2147483587;decide),?_⟩
  dsimp only;generalize y*y%2147483587=z;refine⟨_,rfl,_,rfl,_,_,rfl,rfl,.inr ⟨by decide,by decide⟩,_,_,rfl,rfl,_,_,rfl,rfl,.inr ⟨by decide,by decide⟩,_,_,rfl,rfl,(by show(0:Int)<2147483629;decide),_,_,rfl,rfl,⟨by decide,by decide⟩,_,rfl,_,_,rfl,rfl,(by lia),?_⟩
  exact q _ g _ (X0 _ (by lia)) (U3 _ (by lia)) l k1
theorem qY3:FnScope ["_law_found","_law_due"] ["_law_found","_law_due"] (qAA qM1):=qBK
theorem ok_Lsame (F:Fun K "_law_same" "_law_same" qM1 f fd) (a:mg "isinstance" = none) (k:mg "list" = none) (d:mg "tuple" = none) (b:mg "str" = none) (c:mg "int" = none) (g:mg "bool" = none):FnOk P w K mg base CX0 1 f fd ["_law_found","_law_due"] qTY:=by
 refine F.okA qY3 λl A j s H o Q E n h=>?_;obtain⟨i,rfl,q⟩:=h;refine⟨_,(qA4 (qBP (qDY (qNJ (pv 1))) (qA5 (qAG (qaE (qNJ (pv 0))))) qAL) (qA4 (qBP (PW.pt (qM5 (qD6 (qA9 qBM rfl a qB3 (qA0 (pv 1) (qA0 (qE5 (v:=.ty "list") rfl k qK9 rfl) qA3)))) (qKY (qD6 (qA9 qBM rfl a qB3 (qA0 (pv 1) (qA0 (qE5 (v:=.ty "tuple") rfl d qAU rfl) qA3))))))) qJE qAL) (qA4 (qBP (qD6 (qA9 qBM rfl a qB3 (qA0 (pv 1) (qA0 (qE5 (v:=.ty "str") rfl b qaW rfl) qA3)))) (qA5 (qAG (qI8 (qA9 qBM rfl a qB3 (qA0 (pv 0) (qA0 (qE5 (v:=.ty "str") rfl b qaW rfl) qA3))) (qNI (qD3 qED (pv 0) (pv 1) (qAS _)))))) qAL) (qA5 (qAG (qI8 (qA9 qBM rfl a qB3 (qA0 (pv 0) (qA0 (qE5 (v:=.ty "int") rfl c qS8 rfl) qA3))) (qI8 (qaB (qA9 qBM rfl a qB3 (qA0 (pv 0) (qA0 (qE5 (v:=.ty "bool") rfl g qX9 rfl) qA3)))) (qNI (qD3 qED (pv 0) (pv 1) (qAS _)))))))))),?_⟩
 try dsimp only[Cx.nox,Cx.wish,cxOf]
 refine⟨_,rfl,_,rfl,?_⟩;refine⟨_,rfl,_,"list",_,false,rfl,TyOf.int i,qe5,_,rfl,?_⟩;refine⟨_,rfl,_,"tuple",_,false,rfl,TyOf.int i,qe3,_,rfl,?_⟩;refine⟨_,rfl,_,"str",_,false,rfl,TyOf.int i,qe4,_,rfl,?_⟩;refine⟨_,rfl,_,"int",_,true,rfl,TyOf.int i,qaK,_,rfl,?_⟩;refine⟨_,rfl,_,"bool",_,false,rfl,TyOf.int i,qaL,_,rfl,_,rfl,?_⟩;refine⟨_,rfl,_,rfl,rfl,?_⟩;have e:decide (V.int i=V.int i)=true:=decide_eq_true rfl;have m:Q (.bl (decide (V.int i=V.int i))) H:=by rw[e];exact q H (Same.refl H)
 exact m
theorem sc_Lsome_needs:FnScope ["_law_state","_law_k","_law_found","_law_turn","_law_far"] ["_law_state","_law_k"] (qAA qDB):=qBK
theorem ok_Lsome_needs (F:Fun K "_law_some_needs" "_law_some_needs" qDB f fd) (qBN:Clb P w K mg base 1 qGE qH4 "_law_take" ["_law_state","_law_many"] qKW)
  (qB4:mg "range" = none) (qSE:mg "min" = none) (ad:mg "tuple" = none) (qBQ:mg "sorted" = none) (aa:mg "set" = none):FnOk P w K mg base CX0 2 f fd ["_law_state","_law_k"] qLS:=by
 refine F.okA sc_Lsome_needs λaq A ah s H vs Q E hr h=>?_;obtain⟨d,c,t,ns,k,rfl,S,ht,an,ak,q⟩:=h;have ao:t<=1000000000-20:=ht;have aj:Room 1 _:=hr;refine⟨_,(qA4 (qAE (i:=2) sc_Lsome_needs.nd rfl (E1 rfl) (qBX qA3)) (qA4 (qBU D3 rfl (qBH rfl qB4 (qA0 (qAR qBN hr rfl (qA0 (pv 0) (qA0 qA7 qA3))) qA3)) (qAN (i:=3) sc_Lsome_needs.nd rfl (E1 rfl)) (qA4 (qAE (i:=4) sc_Lsome_needs.nd rfl (E1 rfl) (qB5 qCF (qBX (qA0 (qA9 (qOD rfl) rfl qSE qX6 (qA0 (pv 1) (qA0 qA7 qA3))) (qA0 (pv 1) qA3))) (qAO qPJ (qAR qBN hr rfl (qA0 (pv 0) (qA0 qA7 qA3))) qA7) (λ_ _=>rfl))) (qA5 (qBP (qAM qbT (pv 1) qA7 (qAS _)) (qA5 (qD1 (qJI E9 G1 G2 qC0 (pv 2) (qA0 (qAO qDN (qAO qDN (pv 1) qA7) (qAR qBN hr rfl (qA0 (pv 0) (qA0 (pv 4) qA3)))) qA3)))) qAL)))) (qA5 (qAG (qAH qAK rfl ad qAU (qA0 (qA9 (qET rfl) rfl qBQ qD0 (qA0 (qAH (qS6 rfl) rfl aa qaX (qA0 (pv 2) qA3)) qA3)) qA3)))))),?_⟩
 try dsimp only[Cx.nox,Cx.wish,cxOf]
 refine⟨(by show 0<=B14;decide),λl g=>?_⟩
 have S1:=S.new g (.lst []);have nd:l≠d:=(qA6 S.dict g).symm;have nc:l≠c:=(qA6 S.list g).symm;refine⟨_,rfl,d,c,t,ns,5,rfl,S1,(by show t<=1000000000;lia),by decide,by decide,λj ag H1 j0 j5 S2 K2=>?_⟩
 refine ⟨j,rfl,by lia,by lia,qFB (lo:=0) (n:=j.toNat) (fun i σ Hc=>∃ (t':Int) (ms fs:List Int) (v1 v2:Option V),σ=[some (.ref d),some (.int k),some (.ref l),v1,v2]/\StAt Hc d c t' ms/\t<=t'/\t'<=t+1+2 * i/\Keep d c H Hc/\
  Hc l=some (.lst (fs.map V.int))/\fs.length<=i/\∀x∈fs,0<=x/\x<k)
  ⟨t+1,ag,[],none,none,rfl,S2,by lia,by lia,(qDG g _).trans K2,K2 _ _ qA1 nd nc,A7 _,λ_ z=>nomatch z⟩ ?_ ?_⟩
 ·refineλi σ Hc hi a8=>opq λal a4=>?_;obtain⟨t',ms,fs,v1,v2,rfl,S3,a1,a2,K3,h3,l3,m3⟩:=a8;refine a4 ?_;have am:(i:Int)<5:=by lia
  -- far
  refine⟨_,rfl,k,4,rfl,_,rfl,(by show 2<=B14;decide),λp m=>?_⟩
  have S4:=S3.new m (.lst [.int (if(4:Int)<k then 4 else k),.int k])
  have ae:p≠d:=(qA6 S3.dict m).symm;have ac:p≠c:=(qA6 S3.list m).symm;refine⟨_,rfl,d,c,t',ms,4,rfl,S4,(by show t'<=1000000000;lia),by decide,by decide,λk2 a7 H2 g0 g4 S5 K5=>?_⟩
  obtain⟨far,a6,ef⟩:=qfL (a:=if(4:Int)<k then 4 else k) (b:=k) g0 g4
  have ai:far<=k:=by rcases ef with e|e<;>(subst e;first|lia|(split<;>lia))
  have y:0<k->1<=far:=λhk=>by rcases ef with e|e<;>(subst e;first|lia|(split<;>lia))
  refine⟨_,_,rfl,rfl,⟨by decide,by decide⟩,p,_,_,_,rfl,rfl,SqL.of (K5 _ _ qA1 ae ac),a6,?_⟩
  have K6:=K3.trans ((qDG (d:=d) (c:=c) m (.lst [.int (if(4:Int)<k then 4 else k),.int k])).trans K5)
  have h6:H2 l=some (.lst (fs.map V.int)):=K5 _ _ (by rw[qA8 (qA6 h3 m)];exact h3) nd nc
  refine⟨_,rfl,_,_,rfl,rfl,_,rfl,?_⟩;refine ite2 (λck=>?_) (λck=>?_)
  ·have hk:0<k:=of_decide_eq_true ck;refine⟨_,rfl,.inl ⟨rfl,_,SqL.of h6⟩,_,rfl,_,_,rfl,rfl,_,rfl,_,rfl,d,c,t'+1,a7,far,rfl,S5,(by show t'+1<=1000000000;lia),y hk,by lia,λk3 a5 H3 c0 c1 v K7=>?_⟩
   have h7:=K7 _ _ h6 nd nc;refine⟨_,_,rfl,rfl,l,_,_,rfl,rfl,h7,qAI (by rw[A0];lia),?_⟩
   have S8:StAt (Ag H3 l (.lst (fs.map V.int++[.int (k-1-k3)]))) d c (t'+1+1) a5:=⟨by rw[qA8 (G4 nd)];exact v.dict,by rw[qA8 (G4 nc)];exact v.list,v.ne,v.len,v.pos⟩
   have hH:H l=none:=g;refine⟨t'+1+1,a5,fs++[k-1-k3],_,_,rfl,S8,by lia,by lia,λb o e n1 n2=>?_,?_,?_,λx hx=>?_⟩
   ·rw[qA8 (qA6 e hH)];exact(K6.trans K7) b o e n1 n2
   ·rw[qA1,B0];rfl
   ·rw[A8,B3];lia
   ·rcases B4.mp hx with hx|hx
    ·exact m3 x hx
    ·rw[A5.mp hx];lia
  ·exact⟨t'+1,a7,fs,_,_,rfl,S5,by lia,by lia,K6,h6,by lia,m3⟩
 ·refineλσ Hc u=>opq λap a3=>?_;obtain⟨t',ms,fs,v1,v2,rfl,S3,a1,a2,K3,h3,l3,m3⟩:=u;refine a3 ?_;refine⟨_,rfl,l,fs,rfl,SqL.of h3,by lia,λa ha=>?_⟩
  have ab:=qA2 ha (SetO w a (dedI fs));refine⟨a,dedI fs,rfl,.inr (.inr qA1),U2 (qS2 fs) (by lia),λb zs hb m hs=>?_⟩
  have a9:=ab.trans (qA2 hb (.lst (zs.map V.int)));refine⟨b,_,rfl,.inl ⟨SqL.of qA1,λr af=>?_⟩⟩;have a0:=a9.trans (qA2 af (.tup (zs.map V.int)));exact q r zs t' ms _ (S3.same a0) (by lia) (by lia) (K3.trans (.of_same a0)) qA1 (qRA m hs m3)
theorem sc_Ltree_net:FnScope ["_law_state","_law_many","_law_open_ones","_law_found","_law_k","_law_so_many"] ["_law_state","_law_many"] (qAA qEI):=qBK
theorem ok_Ltree_net (F:Fun K "_law_tree_net" "_law_tree_net" qEI f fd) (qBN:Clb P w K mg base 1 qGE qH4 "_law_take" ["_law_state","_law_many"] qKW)
  (qB4:mg "range" = none) (qSE:mg "min" = none) (a5:mg "tuple" = none) (a8:mg "len" = none):FnOk P w K mg base CX0 2 f fd ["_law_state","_law_many"] qOZ:=by
 refine F.okA sc_Ltree_net λb0 A ap s H vs Q E hr h=>?_;obtain⟨d,c,t,ns,m,rfl,S,ht,au,aw,q⟩:=h;have ay:t<=1000000000-1000:=ht;have as:Room 1 _:=hr;refine⟨_,(qA4 (qAE (i:=2) sc_Ltree_net.nd rfl (E1 rfl) (qBX qA3)) (qA4 (qAE (i:=3) sc_Ltree_net.nd rfl (E1 rfl) (qBX qA3)) (qA4 (qBU D3 rfl (qBH rfl qB4 (qA0 (qAO qDN (pv 1) qA7) qA3)) (qAN (i:=4) sc_Ltree_net.nd rfl (E1 rfl)) (qA4 (qAE (i:=5) sc_Ltree_net.nd rfl (E1 rfl) (qA9 (qOD rfl) rfl qSE qX6 (qA0 (qA9 qAC rfl a8 qBD (qA0 (pv 2) qA3)) (qA0 (qB5 qCF (qBX (qA0 qA7 (qA0 qA7 (qA0 qA7 (qA0 qA7 (qA0 qA7 (qA0 qA7 qA3))))))) (qAR qBN hr rfl (qA0 (pv 0) (qA0 qA7 qA3))) (λ_ _=>rfl)) qA3)))) (qA4 (qD1 (qJI E9 G1 G2 qC0 (pv 3) (qA0 (qAH qAK rfl a5 qAU (qA0 (qMA qP1 (pv 2) (qPC (qAO qDN (qA9 qAC rfl a8 qBD (qA0 (pv 2) qA3)) (pv 5))) qPD) qA3)) qA3))) (qA5 (qAE (i:=2) sc_Ltree_net.nd rfl (E1 rfl) (qAO qL2 (qMA qP1 (pv 2) qPD (qPC (qAO qDN (qA9 qAC rfl a8 qBD (qA0 (pv 2) qA3)) (pv 5)))) (qBX (qA0 (pv 4) qA3)))))))) (qA5 (qAG (qAH qAK rfl a5 qAU (qA0 (qAO qL2 (pv 3) (qBX (qA0 (qAH qAK rfl a5 qAU (qA0 (pv 2) qA3)) qA3))) qA3))))))),?_⟩
 try dsimp only[Cx.nox,Cx.wish,cxOf]
 refine⟨(by show 0<=B14;decide),λo0 a4=>?_⟩
 have S1:=S.new a4 (.lst []);refine⟨(by show 0<=B14;decide),λg y=>?_⟩
 have S2:=S1.new y (.lst []);have nd:g ≠ d:=(qA6 S1.dict y).symm;have nc:g ≠ c:=(qA6 S1.list y).symm;have a9:o0 ≠ g:=qA6 qA1 y;have hF:H g=none:=(qA2 a4 _).free y;refine ⟨_,rfl,_,_,rfl,rfl,m - 1,rfl,by lia,by lia,qFB (lo:=0) (n:=(m - 1).toNat) (fun i σ Hc=>∃ (t':Int) (ms os:List Int) (o:Addr) (rs:List Addr) (Ae:List (List Int)) (v1 v2:Option V),σ=[some (.ref d),some (.int m),some (.ref o),some (.ref g),v1,v2]/\StAt Hc d c t' ms/\t<=t'/\t'<=t+i/\Keep d c H Hc/\
  Hc o=some (.lst (os.map V.int))/\(o≠g/\o≠c)/\Hc g=some (.lst (rs.map V.ref))/\NetL Hc rs Ae/\Ae.length=i/\WFn Ae/\Rise (i:Int) os/\Opens Ae os)
  ⟨t,ns,[],o0,[],[],none,none,rfl,S2,by lia,by lia,(qDG a4 _).trans (qDG y _),by rw[qA8 a9];exact qA1,⟨a9,(qA6 S.list a4).symm⟩,qA1,.nil,rfl,WFn.nil,Rise.nil,Opens.nil⟩ ?_ ?_⟩
 ·refineλi σ Hc hi ad=>opq λav ac=>?_;obtain⟨t',ms,os,o,rs,Ae,v1,v2,rfl,S3,a1,a2,K3,h3,⟨n3,aa⟩,f3,N3,l3,w3,r3,a7⟩:=ad;refine ac ?_;have ax:os.length<=i:=r3.len;refine⟨_,rfl,o,_,rfl,.inl (SqL.of h3),(by show 6<=B14;decide),λp hp=>?_⟩
  have S4:=S3.new hp (.lst [.int 0,.int 0,.int 1,.int 2,.int 2,.int 3]);have aj:p≠d:=(qA6 S3.dict hp).symm;have ai:p≠c:=(qA6 S3.list hp).symm;refine⟨_,rfl,d,c,t',ms,6,rfl,S4,(by show t'<=1000000000;lia),by decide,by decide,λk2 af H2 g0 g6 S5 K5=>?_⟩
  obtain⟨v,hv,v0,v3⟩:=qfK g0 g6;refine⟨p,_,_,_,rfl,rfl,SqL.of (K5 _ _ qA1 aj ai),hv,?_⟩;have sm:Same Hc (Ag Hc p (.lst [.int 0,.int 0,.int 1,.int 2,.int 2,.int 3])):=qA2 hp _;have K6:=(Keep.of_same (d:=d) (c:=c) sm).trans K5;have ar:o≠d:=qCC h3 S3.dict (by intro z;cases z)
  have h6:H2 o=some (.lst (os.map V.int)):=K6 _ _ h3 ar aa;have f6:H2 g=some (.lst (rs.map V.ref)):=K6 _ _ f3 nd nc;have N6:NetL H2 rs Ae:=N3.keep (λr zs e=>S3.tup e) K6;refine⟨_,_,rfl,?_⟩;dsimp only;have an:0<=(if v<(((os.map V.int).length:Nat):Int) then v else(((os.map V.int).length:Nat):Int)):=by split<;>lia
  have ao:(if v<(((os.map V.int).length:Nat):Int) then v else(((os.map V.int).length:Nat):Int))<=(os.length:Int):=by rw[A0];split<;>lia
  generalize (if v<(((os.map V.int).length:Nat):Int) then v else(((os.map V.int).length:Nat):Int))=so at an ao
  obtain⟨kk,ek⟩:∃kk:Nat,(os.length:Int)-so=(kk:Int):=⟨((os.length:Int)-so).toNat,by lia⟩
  have ae:(((os.map V.int).length:Nat):Int)-so=(kk:Int):=by rw[A0];exact ek
  have aq:kk<=os.length:=by lia
  -- found.append(tuple(open_ones[len(open_ones)-so_many:]))
  refine⟨_,rfl,.inl ⟨rfl,_,SqL.of f6⟩,_,rfl,_,rfl,o,_,rfl,.inl (SqL.of h6),_,rfl,_,_,rfl,rfl,_,rfl,o,_,rfl,SqL.of h6,λp1 al=>?_⟩;refine⟨p1,_,rfl,.inl ⟨SqL.of qA1,λr a0=>?_⟩⟩;rw[ae,qMS,qWZ _ _ aq] at a0 ⊢;have l:=(qA2 al (.lst ((os.drop kk).map V.int))).trans (qA2 a0 (.tup ((os.drop kk).map V.int)));have f7:=l _ _ f6;have h7:=l _ _ h6;have N7:NetL _ (rs++[r]) (Ae++[os.drop kk]):=qC1 (N6.same λr zs e=>l _ _ e) (show(Ag (Ag H2 p1 (.lst ((os.drop kk).map V.int))) r (.tup ((os.drop kk).map V.int))) r=some (.tup ((os.drop kk).map V.int)) from qA1);have S7:=S5.same l;have K7:=K6.trans (.of_same l);generalize (Ag (Ag H2 p1 (.lst ((os.drop kk).map V.int))) r (.tup ((os.drop kk).map V.int)))=H7 at f7 h7 N7 S7 K7 ⊢;refine⟨g,_,_,rfl,rfl,f7,qAI (by rw[A0,NetAt.len N3];lia),?_⟩
  have e8:rs.map V.ref++[V.ref r]=(rs++[r]).map V.ref:=by rw[B0];rfl
  rw[e8];have S8:StAt (Ag H7 g (.lst ((rs++[r]).map V.ref))) d c (t'+1) af:=⟨by rw[qA8 (G4 nd)];exact S7.dict,by rw[qA8 (G4 nc)];exact S7.list,S7.ne,S7.len,S7.pos⟩
  have h8:(Ag H7 g (.lst ((rs++[r]).map V.ref))) o=some (.lst (os.map V.int)):=by rw[qA8 n3];exact h7
  have N8:NetL (Ag H7 g (.lst ((rs++[r]).map V.ref))) (rs++[r]) (Ae++[os.drop kk]):=N7.same λr' zs e=>by rw[qA8 (qCC e f7 (by intro z;cases z))];exact e
  have K8:Keep d c H (Ag H7 g (.lst ((rs++[r]).map V.ref))):=λb u e n1 n2=>by rw[qA8 (qA6 e hF)];exact(K3.trans K7) b u e n1 n2
  have f8:(Ag H7 g (.lst ((rs++[r]).map V.ref))) g=some (.lst ((rs++[r]).map V.ref)):=qA1;generalize Ag H7 g (.lst ((rs++[r]).map V.ref))=H8 at S8 h8 N8 K8 f8 ⊢
  -- open_ones=open_ones[:len(open_ones)-so_many]+[k]
  refine⟨_,rfl,_,rfl,o,_,rfl,.inl (SqL.of h8),_,rfl,_,_,rfl,rfl,_,rfl,o,_,rfl,SqL.of h8,λp2 x=>?_⟩;rw[ae,qMS,qcL];refine⟨_,rfl,(by show 1<=B14;decide),λp3 a3=>?_⟩
  have am:p2≠p3:=qA6 qA1 a3;refine⟨p2,p3,_,_,rfl,rfl,by rw[qA8 am];exact qA1,qA1,R6 (qAI (by rw[A0,C4,B3];lia)),λp4 a6=>?_⟩
  have j:=((qA2 x (.lst ((os.take kk).map V.int))).trans (qA2 a3 (.lst [.int (0+(i:Int))]))).trans (qA2 a6 (.lst ((os.take kk).map V.int++[.int (0+(i:Int))])));have e9:(os.take kk).map V.int++[V.int (0+(i:Int))]=(os.take kk++[(i:Int)]).map V.int:=by rw[B0,A64];rfl
  have ak:p4≠g:=(qA6 ((qA2 a3 _) _ _ ((qA2 x _) _ _ f8)) a6).symm;have ah:p4≠c:=(qA6 ((qA2 a3 _) _ _ ((qA2 x _) _ _ S8.list)) a6).symm;refine⟨t'+1,af,os.take kk++[(i:Int)],p4,rs++[r],Ae++[os.drop kk],_,_,rfl,S8.same j,by lia,by lia,K8.trans (.of_same j),by rw[<- e9];exact qA1,⟨ak,ah⟩,j _ _ f8,N8.same λr' zs e=>j _ _ e,by rw[A8,B3,l3],w3.snoc ?_,?_,?_⟩
  ·rw[l3];exact r3.sub (A57 _ _)
  ·have:=(r3.sub (X3 kk os)).snoc (by lia)
   rw[show((i+1:Nat):Int)=(i:Int)+1 by lia]
   exact this
  ·have:=a7.step (kk:=kk) w3 (by rw[l3];exact r3)
   rw[l3] at this;exact this
 ·refineλσ Hc ab=>opq λaz ag=>?_;obtain⟨t',ms,os,o,rs,Ae,v1,v2,rfl,S3,a1,a2,K3,h3,⟨n3,aa⟩,f3,N3,l3,w3,r3,a7⟩:=ab;refine ag ?_;refine⟨_,rfl,_,rfl,o,_,rfl,.inl ⟨SqL.of h3,λr a0=>?_⟩⟩;refine⟨(by show 1<=B14;decide),λp hp=>?_⟩
  have l:=(qA2 a0 (.tup (os.map V.int))).trans (qA2 hp (.lst [.ref r]));refine⟨g,p,_,_,rfl,rfl,l _ _ f3,qA1,R6 (qAI (by rw[A0,NetAt.len N3,B3];lia)),λp2 x=>?_⟩
  refine⟨p2,_,rfl,.inl ⟨SqL.of qA1,λa ha=>?_⟩⟩;have j:=(l.trans (qA2 x (.lst (rs.map V.ref++[.ref r])))).trans (qA2 ha (.tup (rs.map V.ref++[.ref r])));have gr:=(qA2 ha (.tup (rs.map V.ref++[.ref r]))) _ _ ((qA2 x (.lst (rs.map V.ref++[.ref r]))) _ _ ((qA2 hp (.lst [.ref r])) r _ (qA1 (H:=Hc) (o:=.tup (os.map V.int)))));have e8:rs.map V.ref++[V.ref r]=(rs++[r]).map V.ref:=by rw[B0];rfl
  refine q a (Ae++[os]) t' ms _ (S3.same j) (by lia) (by lia) (K3.trans (.of_same j)) ⟨rs++[r],by rw[<- e8];exact qA1,qC1 (N3.same λr' zs e=>j _ _ e) gr⟩ (w3.snoc (by rw[l3];exact r3)) ?_ ?_
  ·rw[A8,B3,l3]
   lia
  ·exact(a7.step (kk:=0) w3 (by rw[l3];exact r3)).1
theorem sc_Lnet:FnScope ["_law_state","_law_many","_law_way","_law_wide","_law_some","_law_half"] ["_law_state","_law_many"] (qAA qR7):=qBK
theorem ok_Lnet (F:Fun K "_law_net" "_law_net" qR7 f fd) (qBN:Clb P w K mg base 1 qGE qH4 "_law_take" ["_law_state","_law_many"] qKW)
  (bm:Clb P w K mg base 2 qDJ qG7 "_law_some_needs" ["_law_state","_law_k"] qLS)
  (cf:Clb P w K mg base 2 qEP qIA "_law_tree_net" ["_law_state","_law_many"] qOZ)
  (qB4:mg "range" = none) (cl:mg "max" = none) (bn:mg "int" = none) (c8:mg "enumerate" = none) (ab:mg "tuple" = none) (qBQ:mg "sorted" = none) (c4:mg "set" = none):FnOk P w K mg base CX0 3 f fd ["_law_state","_law_many"] qdB:=by
 refine F.okA sc_Lnet λd8 A cj s H vs Q E hr h=>?_;obtain⟨d,c,t,ns,m,rfl,S,ht,c5,cb,q⟩:=h;have d5:t<=1000000000-10000:=ht;have d3:Room 2 _:=hr;have d4:Room 2 _:=hr;refine⟨_,(qA4 (qAE (i:=2) sc_Lnet.nd rfl (E1 rfl) (qAR qBN hr rfl (qA0 (pv 0) (qA0 qA7 qA3)))) (qA4 (qAE (i:=3) sc_Lnet.nd rfl (g8 rfl) (qAO qC7 qA7 (qAR qBN hr rfl (qA0 (pv 0) (qA0 qA7 qA3))))) (qA4 (qBP (qAM qED (pv 2) qA7 (qAS _)) (qA5 (qAG (qAH qAK rfl ab qAU (qA0 (qC4 rfl (lcs (own:=["_law_k"]) (fv:=[3]) (by kernel_rfl)) (qBH rfl qB4 (qA0 (pv 1) qA3)) (λz1=>qBR 0) (λz1=>qAY) (λz1=>(qAH (qKQ rfl) rfl ab qAU (qA0 (qAH qX4 rfl qB4 qZW (qA0 (qA9 (qX5 rfl) rfl cl qS7 (qA0 qA7 (qA0 (qAO qDN (pv 0) (pv 1)) qA3))) (qA0 (pv 0) qA3))) qA3)))) qA3)))) qAL) (qA4 (qBP (qAM qED (pv 2) qA7 (qAS _)) (qA4 (qPA (i:=4) sc_Lnet.nd rfl rfl rfl (lcs (own:=["_law_k"]) (fv:=[3]) (by kernel_rfl)) (qBH rfl qB4 (qA0 (pv 1) qA3)) (λz2=>qBR 0) (λz2=>qAY) (λz2=>(qAO qL2 (qAO qRJ (qBX (qA0 (qAO qDN (pv 0) (pv 1)) qA3)) (qAH qOF rfl bn qS8 (qA0 (qD3 qV2 (pv 0) (pv 1) (qAS _)) qA3))) (qAO qRJ (qBX (qA0 (qAO qDN (pv 0) qA7) qA3)) (qAH qOF rfl bn qS8 (qA0 (qD3 qbT (qAO qJL (pv 0) (pv 1)) qA7 (qAS _)) qA3))))) (by kernel_rfl)) (qA5 (qAG (qAH qAK rfl ab qAU (qA0 (qC4 rfl (lcs (own:=["_law_needs"]) (fv:=[]) (by kernel_rfl)) (qBW (pv 4)) (λz3=>qBR 0) (λz3=>qAY) (λz3=>(qAH (qES (K:=K) rfl) rfl ab qAU (qA0 (qA9 (qOC (K:=K) (w:=w) rfl rfl rfl) rfl qBQ qD0 (qA0 (qAH (qX3 (K:=K) (w:=w) rfl rfl rfl) rfl c4 qaX (qA0 (pv 0) qA3)) qA3)) qA3)))) qA3))))) qAL) (qA4 (qBP (qAM qED (pv 2) qA7 (qAS _)) (qA5 (qAG (qAR cf hr rfl (qA0 (pv 0) (qA0 (pv 1) qA3))))) qAL) (qA4 (qBP (qAM qED (pv 2) qA7 (qAS _)) (qA4 (qAE (i:=5) sc_Lnet.nd rfl (g8 rfl) (qAO qPJ (pv 1) qA7)) (qA4 (qPA (i:=4) sc_Lnet.nd rfl rfl rfl (lcs (own:=["_law_k"]) (fv:=[0,5]) (by kernel_rfl)) (qBH rfl qB4 (qA0 (pv 1) qA3)) (λz4=>qBR 0) (λz4=>qAY) (λz4=>(qAR bm hr rfl (qA0 (pv 1) (qA0 (qGS (qAM qUZ (pv 0) (pv 2) (qAS _)) (pv 0) (qAO qDN (pv 0) (pv 2))) qA3)))) (by kernel_rfl)) (qA5 (qAG (qAH qAK rfl ab qAU (qA0 (qC4 rfl (lcs (own:=["_law_k","_law_needs"]) (fv:=[5]) (by kernel_rfl)) (qPG rfl c8 qE2 (qA0 (pv 4) qA3)) (λz5=>qPH (K:=K) (n:=2) rfl rfl (qAV (qBR 0) (qAV (qBR 1) qD2)) rfl rfl) (λz5=>qAY) (λz5=>(qGS (qAM qUZ (pv 0) (pv 2) (qAS _)) (pv 1) (qAH (qES (K:=K) rfl) rfl ab qAU (qA0 (qC4 (X:=lcCx _ _ _ _ z5) rfl (lcs (own:=["_law_n"]) (fv:=[2]) (by kernel_rfl)) (qM8 (K:=K) rfl (pv 1)) (λz6=>qBR 0) (λz6=>qAY) (λz6=>(qAO qC7 (pv 0) (pv 1)))) qA3))))) qA3)))))) qAL) (qA5 (qAG (qAH qAK rfl ab qAU (qA0 (qC4 rfl (lcs (own:=["_law_k"]) (fv:=[0]) (by kernel_rfl)) (qBH rfl qB4 (qA0 (pv 1) qA3)) (λz7=>qBR 0) (λz7=>qAY) (λz7=>(qAR bm hr rfl (qA0 (pv 1) (qA0 (pv 0) qA3))))) qA3)))))))))),?_⟩
 try dsimp only[Cx.nox,Cx.wish,cxOf]
 refine cut λN1 bz=>?_;refine⟨_,rfl,d,c,t,ns,8,rfl,S,(by show t<=1000000000;lia),by decide,by decide,λd1 cc H1 w0 w8 S1 K1=>?_⟩
 refine bz _ _ (cut λN2 c0=>?_);refine⟨_,rfl,d,c,t+1,cc,4,rfl,S1,(by show t+1<=1000000000;lia),by decide,by decide,λwd af H2 d9 ct S2 K2=>⟨_,_,rfl,rfl,?_⟩⟩
 dsimp only;have ag:=K1.trans K2;generalize hwide:(1:Int)+wd=g;have cw:1<=g:=by lia
 have cv:g<=4:=by lia
 refine c0 _ _ (cut λN3 ca=>?_);refine⟨_,rfl,rfl,_,rfl,?_⟩;refine ite2 (λ_=>?_) (λ_=>?_)
 ·refine⟨_,rfl,m,rfl,by lia,by lia,λp hp=>?_⟩
  refine qDZ (p:=p) (lo:=0) (n:=m.toNat) (λi σ u=>∃(v:Option V) (rs:List Addr) (Ae:List (List Int)),σ=[v,some (.int g)]/\Same H2 u/\u p=some (.lst (rs.map V.ref))/\NetL u rs Ae/\Ae.length=i/\WFn Ae) ?_ ?_ ?_
  ·exact⟨none,[],[],rfl,qA2 hp _,qA1,.nil,rfl,WFn.nil⟩
  ·refineλi σ u hi bu=>opq λcx bk=>?_;obtain⟨v,rs,Ae,rfl,sm,o,N,hl,wf⟩:=bu;refine bk ?_;refine⟨_,rfl,_,rfl,_,_,rfl,rfl,0,_,rfl,_,rfl,_,_,rfl,λp1 bq=>?_⟩;refine⟨p1,_,_,rfl,qA1,by split<;>lia,by split<;>lia,by lia,by lia,λr a9=>?_⟩
   have ch:0<=(if(0+(i:Int))-g>0 then(0+(i:Int))-g else 0):=by split<;>lia
   have b6:=qP7 (hi:=0+(i:Int)) ch;dsimp only;rw[qP6];generalize qC6 (if(0+(i:Int))-g>0 then(0+(i:Int))-g else 0) (0+(i:Int))=l at b6 ⊢
   generalize HO.rng (if(0+(i:Int))-g>0 then(0+(i:Int))-g else 0) (0+(i:Int))=ho at bq a9 ⊢
   have s1:=(qA2 bq ho).trans (qA2 a9 (.tup (l.map V.int)));have g1:=s1 _ _ o;refine⟨_,g1,qAI (by rw[A0,NetAt.len N];lia),?_⟩
   rw[qB2];refine⟨_,rs++[r],Ae++[l],rfl,qAB (sm.trans s1) hp,qA1,qDE (qC1 (N.same λr' ys e=>s1 _ _ e) qA1) g1,by rw[A8,B3,hl],wf.snoc ?_⟩
   rw[hl];exact b6.mono (by lia)
  ·refineλσ u b9=>opq λd7 bg=>?_;obtain⟨v,rs,Ae,rfl,sm,o,N,hl,wf⟩:=b9;refine bg ?_;refine⟨p,_,rfl,.inl ⟨SqL.of o,λa ha=>?_⟩⟩;have s1:=qA2 ha (.tup (rs.map V.ref));exact q a Ae (t+1+1) af _ (S2.same (sm.trans s1)) (by lia) (by lia) (ag.trans (.of_same (sm.trans s1))) ⟨rs,qA1,N.same λr ys e=>s1 _ _ e⟩ wf (by rw[hl];lia)
 refine ca _ _ (cut λN4 c9=>?_);refine⟨_,rfl,rfl,_,rfl,?_⟩;refine ite2 (λ_=>?_) (λ_=>?_)
 ·refine⟨_,rfl,m,rfl,by lia,by lia,λp hp=>?_⟩
  refine qDZ (p:=p) (lo:=0) (n:=m.toNat) (fun i σ u=>∃ (v:Option V) (rs:List Addr) (ls:List (List Int)),σ=[v,some (.int g)]/\Same H2 u/\u p=some (.lst (rs.map V.ref))/\Paired (fun r l=>r ≠ p/\u r=some (.lst (l.map V.int))) rs ls/\ls.length=i/\
   ∀(j:Nat) l,ls[j]?=some l->l.length<=2/\∀x∈l,0<=x/\x<(j:Int)) ?_ ?_ ?_
  ·exact⟨none,[],[],rfl,qA2 hp _,qA1,.nil,rfl,λj l e=>by simp at e⟩
  ·refineλi σ u hi bi=>opq λcy bh=>?_;obtain⟨v,rs,ls,rfl,sm,o,N,hl,wf⟩:=bi;refine bh ?_;refine⟨_,rfl,_,rfl,_,_,rfl,rfl,(by show 1<=B14;decide),λa1 ci=>?_⟩
   refine⟨_,rfl,_,rfl,_,_,rfl,rfl,.inr ⟨_,rfl,?_⟩⟩;refine⟨a1,_,_,rfl,rfl,qA1,by split<;>decide,by split<;>decide,?_,λa2 bx=>?_⟩
   ·have:∀b:Bool,[V.int (0+(i:Int)-g)].length*(if b=true then(1:Int) else 0).toNat<=B14:=by intro b;cases b<;>simp[B16]
    exact this _
   dsimp only;rw[qdJ];refine⟨_,rfl,_,_,rfl,rfl,(by show 1<=B14;decide),λa3 b5=>?_⟩
   refine⟨_,rfl,_,rfl,_,_,rfl,rfl,(by show 0<g;lia),_,_,rfl,rfl,.inr ⟨_,rfl,?_⟩⟩
   refine⟨a3,_,_,rfl,rfl,qA1,by split<;>decide,by split<;>decide,?_,λa4 bp=>?_⟩
   ·have:∀b:Bool,[V.int (0+(i:Int)-1)].length*(if b=true then(1:Int) else 0).toNat<=B14:=by intro b;cases b<;>simp[B16]
    exact this _
   dsimp only;rw[qdJ];have b1:∀x∈(if decide (g<=0+(i:Int))=true then[0+(i:Int)-g] else[]),0<=x/\x<(i:Int):=by
    intro x hx
    split at hx
    ·rename_i hd
     have:=of_decide_eq_true hd;rw[A5.mp hx];lia
    ·cases hx
   have b2:∀x∈(if decide (0<(0+(i:Int))%g)=true then[0+(i:Int)-1] else[]),0<=x/\x<(i:Int):=by
    intro x hx
    split at hx
    ·rename_i hd
     have bb:=of_decide_eq_true hd;have:(i:Int)≠0:=by
      intro e;rw[e] at bb;simp at bb
     rw[A5.mp hx];lia
    ·cases hx
   have c1:(if decide (g<=0+(i:Int))=true then[0+(i:Int)-g] else[]).length<=1:=by split<;>simp
   have c2:(if decide (0<(0+(i:Int))%g)=true then[0+(i:Int)-1] else[]).length<=1:=by split<;>simp
   generalize (if decide (g<=0+(i:Int))=true then[0+(i:Int)-g] else[])=z1 at b1 c1 b5 bp ⊢
   generalize (if decide (0<(0+(i:Int))%g)=true then[0+(i:Int)-1] else[])=z2 at b2 c2 ⊢
   have s2:=(qA2 b5 (.lst [.int (0+(i:Int)-1)])).trans (qA2 bp (.lst (z2.map V.int)));refine⟨a2,a4,_,_,rfl,rfl,s2 _ _ qA1,qA1,R6 (qAI (by rw[A0,A0];lia)),λa5 bv=>?_⟩
   have s1:=(qA2 ci (.lst [.int (0+(i:Int)-g)])).trans (qA2 bx (.lst (z1.map V.int)));have s3:=(s1.trans s2).trans (qA2 bv (.lst (z1.map V.int++z2.map V.int)));have e5:z1.map V.int++z2.map V.int=(z1++z2).map V.int:=by rw[B0]
   rw[e5] at s3 ⊢;have g1:=s3 _ _ o;have n5:a5≠p:=(qA6 ((s1.trans s2) _ _ o) bv).symm;refine⟨_,g1,qAI (by rw[A0,B6 N];lia),?_⟩
   rw[qB2];refine⟨_,rs++[a5],ls++[z1++z2],rfl,qAB (sm.trans s3) hp,qA1,T3 (qEC N λr l e=>⟨e.1,by rw[qA8 e.1];exact s3 _ _ e.2⟩) ⟨n5,by rw[qA8 n5];exact qA1⟩,by rw[A8,B3,hl],λj l e=>?_⟩
   rcases qR4 e with e|⟨rfl,rfl⟩
   ·exact wf j l e
   ·rw[hl];refine⟨by rw[A8];lia,λx hx=>?_⟩
    rcases B4.mp hx with hx|hx
    ·exact b1 x hx
    ·exact b2 x hx
  ·refineλσ u bf=>opq λd6 bs=>?_;obtain⟨v,rs,ls,rfl,sm,o,N,hl,wf⟩:=bf;refine bs ?_;refine⟨_,rfl,p,rfl,⟨_,SqL.of o⟩,λp' ac=>?_⟩;refine qDO (p:=p') (a:=p) (xs:=rs.map V.ref) (λi σ Hd=>∃(v:Option V) (rs':List Addr) (Ae:List (List Int)),σ=[v]/\Same u Hd/\Hd p'=some (.lst (rs'.map V.ref))/\NetL Hd rs' Ae/\Ae.length=i/\WFn Ae) ?_ ?_ ?_ ?_
   ·exact⟨none,[],[],rfl,qA2 ac _,qA1,.nil,rfl,WFn.nil⟩
   ·rintro i σ Hd hi ⟨v,rs',Ae,rfl,sm2,_⟩;exact SqL.of (sm2 _ _ o)
   ·refineλi x σ Hd hx bo=>opq λd2 ba=>?_;obtain⟨v,rs',Ae,rfl,sm2,aa,N2,a0,a8⟩:=bo;obtain⟨r,a9,rfl⟩:=qBZ hx;obtain⟨l,hz,_,aq⟩:=qAQ N a9;obtain⟨l2,m2⟩:=wf i l hz;refine ba ?_;refine⟨_,rfl,r,l,rfl,SqL.of (sm2 _ _ aq),by lia,λa ha=>?_⟩
    refine⟨a,dedI l,rfl,.inr (.inr qA1),U2 (qS2 l) (by lia),λb ys hb cm hs=>?_⟩
    refine⟨b,_,rfl,.inl ⟨SqL.of qA1,λr2 al=>?_⟩⟩;have s1:=((qA2 ha (SetO w a (dedI l))).trans (qA2 hb (.lst (ys.map V.int)))).trans (qA2 al (.tup (ys.map V.int)));have g1:=s1 _ _ aa;have cd:rs.length=m.toNat:=by rw[B6 N,hl]
    have hi:i<rs.length:=(A3.mp a9).1;refine⟨_,g1,qAI (by rw[A0,NetAt.len N2];lia),?_⟩
    rw[qB2];refine⟨_,rs'++[r2],Ae++[ys],rfl,qAB (sm2.trans s1) ac,qA1,qDE (qC1 (N2.same λr' bl e=>s1 _ _ e) qA1) g1,by rw[A8,B3,a0],a8.snoc ?_⟩
    rw[a0];exact qRA cm hs m2
   ·refineλσ Hd b8=>opq λd0 br=>?_;obtain⟨v,rs',Ae,rfl,sm2,aa,N2,a0,a8⟩:=b8;refine br ?_;refine⟨p',_,rfl,.inl ⟨SqL.of aa,λa ha=>?_⟩⟩;have s1:=qA2 ha (.tup (rs'.map V.ref));refine q a Ae (t+1+1) af _ (S2.same ((sm.trans sm2).trans s1)) (by lia) (by lia) (ag.trans (.of_same ((sm.trans sm2).trans s1))) ⟨rs',qA1,N2.same λr ys e=>s1 _ _ e⟩ a8 ?_
    rw[a0,A0,B6 N,hl]
    lia
 refine c9 _ _ (cut λN5 c7=>?_);refine⟨_,rfl,rfl,_,rfl,?_⟩;refine ite2 (λ_=>?_) (λ_=>?_)
 ·refine⟨_,rfl,_,rfl,d,c,t+1+1,af,m,rfl,S2,?_,c5,cb,λa Ae t' ms H' a1 a2 a3 a4 a5 a6 a7 _=>?_⟩
  ·show t+1+1<=1000000000-1000;lia
  ·exact q a Ae t' ms H' a1 (by lia) (by lia) (ag.trans a4) a5 a6 a7
 refine c7 _ _ (cut λN6 c3=>?_);refine⟨_,rfl,rfl,_,rfl,?_⟩;refine ite2 (λ_=>?_) (λ_=>?_)
 ·refine⟨_,rfl,_,_,rfl,rfl,⟨by decide,by decide⟩,?_⟩
  dsimp only;have be:0<=m/2:=by lia
  have bw:m/2<=m:=by lia
  generalize m/2=k at be bw;refine⟨_,rfl,m,rfl,by lia,by lia,λp hp=>?_⟩
  refine qDZ (p:=p) (lo:=0) (n:=m.toNat) (fun i σ u=>∃ (v:Option V) (t':Int) (ms:List Int) (rs:List Addr) (Ae:List (List Int)),σ=[v,some (.ref d),some (.int k)]/\StAt u d c t' ms/\t+2<=t'/\t'<=t+2+9 * i/\Keep d c H2 u/\u p=some (.lst (rs.map V.ref))/\NetL u rs Ae/\Ae.length=i/\
   ∀(j:Nat) l,Ae[j]?=some l->Rise (if(j:Int)<k then(j:Int) else(j:Int)-k) l) ?_ ?_ ?_
  ·exact⟨none,t+1+1,af,[],[],rfl,S2.new hp _,by lia,by lia,qDG hp _,qA1,.nil,rfl,λj l e=>by simp at e⟩
  ·refine fun i σ u hi b7=>opq fun cz bt=>?_;obtain ⟨v,t',ms,rs,Ae,rfl,S3,b1,b2,k3,o,N,hl,wf⟩:=b7;refine bt ?_;have ae:p ≠ d:=(qA6 S2.dict hp).symm;have ad:p ≠ c:=(qA6 S2.list hp).symm;have nx:∀ (kk:Int),kk=(if (i:Int)<k then (i:Int) else (i:Int) - k)->qLS [.ref d,.int kk] u (fun y H4=>∃ ys,H4 p=some (.lst ys)/\ys.length<B14/\∃ (v:Option V) (t':Int) (ms:List Int) (rs:List Addr) (Ae:List (List Int)),[some (V.int (0+(i:Int))),some (.ref d),some (.int k)]=[v,some (.ref d),some (.int k)]/\StAt (Ag H4 p (.lst (ys++[y]))) d c t' ms/\t+2<=t'/\t'<=t+2+9 * (i+1:Nat)/\Keep d c H2 (Ag H4 p (.lst (ys++[y])))/\(Ag H4 p (.lst (ys++[y]))) p=some (.lst (rs.map V.ref))/\NetL (Ag H4 p (.lst (ys++[y]))) rs Ae/\Ae.length=i+1/\
     ∀(j:Nat) l,Ae[j]?=some l->Rise (if(j:Int)<k then(j:Int) else(j:Int)-k) l) E0:=by
    intro kk ek;refine⟨d,c,t',ms,kk,rfl,S3,(by show t'<=1000000000-20;lia),by rw[ek];split<;>lia,by rw[ek];split<;>lia,λr l aw b3 H3 e1 e2 e3 e4 e5 e6=>?_⟩
    have g1:=e4 _ _ o ae ad;refine⟨_,g1,qAI (by rw[A0,NetAt.len N];lia),?_⟩
    rw[qB2];refine⟨_,aw,b3,rs++[r],Ae++[l],rfl,⟨by rw[qA8 (G4 ae)];exact e1.dict,by rw[qA8 (G4 ad)];exact e1.list,e1.ne,e1.len,e1.pos⟩,by lia,by lia,qIW (k3.trans e4) hp,qA1,qDE (qC1 (N.keep (λr ys e=>S3.tup e) e4) e5) g1,by rw[A8,B3,hl],λj ys e=>?_⟩
    rcases qR4 e with e|⟨rfl,rfl⟩
    ·exact wf j ys e
    ·rw[hl,<- ek];exact e6
   refine⟨_,rfl,_,rfl,_,rfl,_,_,rfl,rfl,_,rfl,?_⟩;refine ite2 (λck=>?_) (λck=>?_)
   ·have ah:0+(i:Int)<k:=of_decide_eq_true ck;exact⟨_,rfl,nx _ (by rw[if_pos (by lia)];lia)⟩
   ·have ah:¬0+(i:Int)<k:=of_decide_eq_false (F5.mpr ck);exact⟨_,rfl,_,rfl,_,_,rfl,rfl,nx _ (by rw[if_neg (by lia)];lia)⟩
  ·refineλσ u bj=>opq λcu bd=>?_;obtain⟨v,t',ms,rs,Ae,rfl,S3,b1,b2,k3,o,N,hl,wf⟩:=bj;refine bd ?_;have cd:rs.length=m.toNat:=by rw[B6 N,hl]
   refine⟨_,rfl,p,rfl,⟨_,SqL.of o⟩,λp' ac=>?_⟩;refine qVM (p:=p') (a:=p) (xs:=rs.map V.ref) (λi σ Hd=>∃(v1 v2:Option V) (rs':List Addr) (net':List (List Int)),σ=[v1,v2,some (.int k)]/\Same u Hd/\Hd p'=some (.lst (rs'.map V.ref))/\NetL Hd rs' net'/\net'.length=i/\WFn net') ?_ ?_ ?_ ?_
   ·exact⟨none,none,[],[],rfl,qA2 ac _,qA1,.nil,rfl,WFn.nil⟩
   ·rintro i σ Hd hi ⟨v1,v2,rs',net',rfl,sm2,_⟩;exact SqL.of (sm2 _ _ o)
   ·refineλi x σ Hd T hx am hT=>opq λcp b4=>?_;obtain⟨v1,v2,rs',net',rfl,sm2,aa,N2,a0,a8⟩:=am;obtain⟨r,a9,rfl⟩:=qBZ hx;obtain⟨l,hz,aq⟩:=qAQ N a9;refine b4 ?_;have hi:i<rs.length:=(A3.mp a9).1;have rz:=wf i l hz;have sT:=qA2 hT (.tup [.int (i:Int),.ref r]);have ak:=sT _ _ (sm2 _ _ aq);have aj:=sT _ _ aa;have NT:=N2.same λr' bl e=>sT _ _ e;have ao:=sm2.trans sT;have gT:SqT K (Ag Hd T (.tup [.int (i:Int),.ref r])) T [.int (i:Int),.ref r]:=SqT.of qA1;generalize Ag Hd T (.tup [.int (i:Int),.ref r])=c6 at ak aj NT ao gT ⊢;refine⟨T,_,rfl,gT,rfl,_,_,rfl,_,_,rfl,rfl,?_⟩;refine⟨_,rfl,_,rfl,_,_,rfl,rfl,_,rfl,?_⟩;refine ite2 (λck=>?_) (λck=>?_)
    ·have ah:(i:Int)<k:=of_decide_eq_true ck;rw[if_pos ah] at rz;refine⟨_,rfl,_,aj,qAI (by rw[A0,NetAt.len N2];lia),?_⟩
     rw[qB2];refine⟨_,_,rs'++[r],net'++[l],rfl,qAB ao ac,qA1,qDE (qC1 NT ak) aj,by rw[A8,B3,a0],a8.snoc ?_⟩
     rw[a0];exact rz
    ·have ah:¬(i:Int)<k:=of_decide_eq_false (F5.mpr ck);rw[if_neg ah] at rz;have lz:l.length<=i:=by
      have e:((i:Int)-k)=(((i:Int)-k).toNat:Nat):=by lia
      rw[e] at rz;have:=rz.len
      lia
     refine⟨_,rfl,r,rfl,⟨_,SqT.of ak⟩,λp2 bc=>?_⟩;refine qD7 (p:=p2) (a:=r) (xs:=l.map V.int) (λj σ He=>∃(v:Option V),σ=[v,some (.int k)]/\Same c6 He/\He p2=some (.lst (((l.take j).map (·+k)).map V.int))) ?_ ?_ ?_ ?_
     ·exact⟨none,rfl,qA2 bc _,qA1⟩
     ·rintro j σ He hj ⟨v,rfl,sm3,_⟩;exact SqT.of (sm3 _ _ ak)
     ·refineλj x σ He cg ax=>opq λcr au=>?_;obtain⟨v,rfl,sm3,ai⟩:=ax;obtain⟨z,ce,rfl⟩:=qB1 cg;refine au ?_;refine⟨_,rfl,_,rfl,_,_,rfl,rfl,_,ai,qAI (by rw[A0,A0,C4];lia),_,rfl,qAB sm3 bc,?_⟩
      rw[qA1,C6,ce,C8,B0,B0]
      rfl
     ·refineλσ He av=>opq λcq as=>?_;obtain⟨v,rfl,sm3,ai⟩:=av;refine as ?_;rw[A0,E7 (A7 _)] at ai;refine⟨p2,_,rfl,.inl ⟨SqL.of ai,λr2 al=>?_⟩⟩;have s1:=qA2 al (.tup ((l.map (·+k)).map V.int));have s2:=sm3.trans s1;have g1:=s2 _ _ aj;refine⟨_,g1,qAI (by rw[A0,NetAt.len N2];lia),?_⟩
      rw[qB2];refine⟨_,_,rs'++[r2],net'++[l.map (·+k)],rfl,qAB (ao.trans s2) ac,qA1,qDE (qC1 (NT.same λr' bl e=>s2 _ _ e) qA1) g1,by rw[A8,B3,a0],a8.snoc ?_⟩
      rw[a0];have:=rz.shift be;rw[show(i:Int)-k+k=(i:Int) by lia] at this
      exact this
   ·refineλσ Hd b0=>opq λco ap=>?_;obtain⟨v1,v2,rs',net',rfl,sm2,aa,N2,a0,a8⟩:=b0;refine ap ?_;refine⟨p',_,rfl,.inl ⟨SqL.of aa,λa ha=>?_⟩⟩;have s1:=qA2 ha (.tup (rs'.map V.ref));refine q a net' t' ms _ (S3.same (sm2.trans s1)) (by lia) (by lia) (ag.trans (k3.trans (.of_same (sm2.trans s1)))) ⟨rs',qA1,N2.same λr ys e=>s1 _ _ e⟩ a8 ?_
    rw[a0,A0,B6 N,hl]
    lia
 refine c3 _ _ ?_;refine⟨_,rfl,m,rfl,by lia,by lia,λp hp=>?_⟩
 refine qDZ (p:=p) (lo:=0) (n:=m.toNat) (λi σ u=>∃(v:Option V) (t':Int) (ms:List Int) (rs:List Addr) (Ae:List (List Int)),σ=[v,some (.ref d)]/\StAt u d c t' ms/\t+2<=t'/\t'<=t+2+9*i/\Keep d c H2 u/\u p=some (.lst (rs.map V.ref))/\NetL u rs Ae/\Ae.length=i/\WFn Ae) ?_ ?_ ?_
 ·exact⟨none,t+1+1,af,[],[],rfl,S2.new hp _,by lia,by lia,qDG hp _,qA1,.nil,rfl,WFn.nil⟩
 ·refineλi σ u hi ay=>opq λcs az=>?_;obtain⟨v,t',ms,rs,Ae,rfl,S3,b1,b2,k3,o,N,hl,wf⟩:=ay;refine az ?_;have ae:p≠d:=(qA6 S2.dict hp).symm;have ad:p≠c:=(qA6 S2.list hp).symm;refine⟨_,rfl,_,rfl,d,c,t',ms,0+(i:Int),rfl,S3,(by show t'<=1000000000-20;lia),by lia,by lia,λr l aw b3 H3 e1 e2 e3 e4 e5 e6=>?_⟩
  have g1:=e4 _ _ o ae ad;refine⟨_,g1,qAI (by rw[A0,NetAt.len N];lia),?_⟩
  rw[qB2];refine⟨_,aw,b3,rs++[r],Ae++[l],rfl,⟨by rw[qA8 (G4 ae)];exact e1.dict,by rw[qA8 (G4 ad)];exact e1.list,e1.ne,e1.len,e1.pos⟩,by lia,by lia,qIW (k3.trans e4) hp,qA1,qDE (qC1 (N.keep (λr ys e=>S3.tup e) e4) e5) g1,by rw[A8,B3,hl],wf.snoc ?_⟩
  rw[hl];exact e6.mono (by lia)
 ·refineλσ u ar=>opq λcn an=>?_;obtain⟨v,t',ms,rs,Ae,rfl,S3,b1,b2,k3,o,N,hl,wf⟩:=ar;refine an ?_;refine⟨p,_,rfl,.inl ⟨SqL.of o,λa ha=>?_⟩⟩;have s1:=qA2 ha (.tup (rs.map V.ref));exact q a Ae t' ms _ (S3.same s1) (by lia) (by lia) (ag.trans (k3.trans (.of_same s1))) ⟨rs,qA1,N.same λr ys e=>s1 _ _ e⟩ wf (by rw[hl];lia)
structure Fnd2 (Ae:List (List Int))(Ad ks:List Int)(j:Int):Prop where
 in_:∀x∈ks,(0<=x/\x<(Ae.length:Int))/\Nd Ae Ad x
 ask:∀x∈Ad,j<=x->x∈ks
 clo:∀(w:Nat) zs,j<=(w:Int)->(w:Int)∈ks->Ae[w]?=some zs->∀y∈zs,y∈ks
theorem repF:∀n:Nat,(D4 n [V.bl false]).flatten=(D4 n false).map V.bl
 |0=>rfl
 |n+1=>by rw[L5,L5,Q0,repF n];rfl
structure Bls (n:Nat)(ks:List Int)(bs:List Bool):Prop where
 len:bs.length=n
 at_:∀x:Nat,x<n->bs[x]?=some (decide ((x:Int)∈ks))
theorem Bls.set {n:Nat}{ks:List Int}{a:List Bool}(h:Bls n ks a){x:Int}(f:0<=x)(d:x<n):Bls n (addI ks x) (a.set x.toNat true):=by
 refine⟨by rw[k5];exact h.len,λy b=>?_⟩
 by_cases e:(y:Int)=x
 ·have c:x.toNat=y:=by lia
  rw[c,W6 (by rw[h.len];exact b),decide_eq_true (mem_addI.mpr (.inr e))]
 ·rw[X7 (by lia),h.at_ y b]
  congr 1;exact decide_eq_decide.mpr ⟨λz=>mem_addI.mpr (.inl z),λz=>(mem_addI.mp z).resolve_right e⟩
theorem qaP {a:List Bool}{i:Nat}{b:Bool}(h:a[i]?=some b):(a.map V.bl)[i]?=some (.bl b):=by rw[C1,h];rfl
theorem sc_Lneeded:FnScope ["_law_net_here","_law_asked","_law_found","_law_work","_law_need"] ["_law_net_here","_law_asked"] (qAA qGN):=qBK
theorem ok_Lneeded (F:Fun K "_law_needed" "_law_needed" qGN f fd) (a2:mg "len" = none) (qB4:mg "range" = none):FnOk P w K mg base CX0 1 f fd ["_law_net_here","_law_asked"] qIO:=by
 refine F.okA sc_Lneeded λaw A an s H vs Q E hr h=>?_;obtain⟨a,t,b,Ad,rfl,hN,wf,al,⟨hT,rA⟩,q⟩:=h;refine⟨_,(qA4 (qAE (i:=2) sc_Lneeded.nd rfl (g8 rfl) (qAO qRJ (qBX (qA0 qEX qA3)) (qA9 qAC rfl a2 qBD (qA0 (pv 0) qA3)))) (qA4 (qBU D3 rfl (qUL rfl qB4 (qA0 (qAO qDN (qA9 qAC rfl a2 qBD (qA0 (pv 0) qA3)) qA7) (qA0 (qKH qG1 qA7) (qA0 (qKH qG1 qA7) qA3)))) (qAN (i:=3) sc_Lneeded.nd rfl (E1 rfl)) (qA4 (qbK (qBP (qAM qF4 (pv 3) (pv 1) (by with_unfolding_all rfl)) (qA5 (qI7 qEX (qUM (pv 2) (pv 3) qIP))) qAL)) (qA5 (qBP (qD6 (qB5 qCF (pv 2) (pv 3) (λ_ _=>rfl))) (qA5 (qBU D3 rfl (qCJ (qB5 qBI (pv 0) (pv 3) (λ_ _=>rfl))) (qAN (i:=4) sc_Lneeded.nd rfl (E1 rfl)) (qA5 (qI7 qEX (qUM (pv 2) (pv 4) qIP))))) qAL)))) (qA5 (qAG (qC4 rfl (lcs (own:=["_law_work"]) (fv:=[2]) (by kernel_rfl)) (qBH rfl qB4 (qA0 (qA9 qAC rfl a2 qBD (qA0 (pv 0) qA3)) qA3)) (λz1=>qBR 0) (λz1=>(qEJ (qD6 (qB5 (qMH (K:=K) rfl) (pv 1) (pv 0) (λ_ _=>rfl))))) (λz1=>(pv 0))))))),?_⟩
 try dsimp only[Cx.nox,Cx.wish,cxOf]
 obtain⟨rs,hA,NL⟩:=id hN;have g:(((rs.map V.ref).length:Nat):Int)=(b.length:Int):=by rw[A0,B6 NL]
 refine⟨(by show 1<=B14;decide),λp0 am=>?_⟩
 have s0:=qA2 am (.lst [.bl false]);refine⟨_,rfl,a,_,rfl,.inr (SqT.of (s0 _ _ hA)),p0,_,_,rfl,rfl,qA1,by rw[g];lia,by rw[g];lia,?_,λm ak=>?_⟩
 ·rw[g,B16];simp;lia
 have a6:H m=none:=s0.free ak;have s1:=s0.trans (qA2 ak (.lst (D4 ((((rs.map V.ref).length:Nat):Int)).toNat [V.bl false]).flatten));have a8:(Ag (Ag H p0 (.lst [.bl false])) m (.lst (D4 ((((rs.map V.ref).length:Nat):Int)).toNat [V.bl false]).flatten)) m=some (.lst ((D4 b.length false).map V.bl)):=by
  rw[qA1,repF,g,D2]
 generalize Ag (Ag H p0 (.lst [.bl false])) m (.lst (D4 ((((rs.map V.ref).length:Nat):Int)).toNat [V.bl false]).flatten)=H1 at s1 a8;refine⟨_,rfl,a,_,rfl,.inr (SqT.of (s1 _ _ hA)),_,_,rfl,rfl,_,rfl,_,rfl,_,_,rfl,⟨by rw[g];lia,by rw[g];lia,by decide,by decide⟩,qRY (lo:=(((rs.map V.ref).length:Nat):Int)-1) (n:=((((rs.map V.ref).length:Nat):Int)-1 - -1).toNat) (λi σ Hc=>∃(bs:List Bool) (ks:List Int) (v3 v4:Option V),σ=[some (.ref a),some (.ref t),some (.ref m),v3,v4]/\Same H Hc/\Hc m=some (.lst (bs.map V.bl))/\Bls b.length ks bs/\Fnd2 b Ad ks ((b.length:Int)-i))
  ⟨_,[],none,none,rfl,s1,a8,⟨by simp,λx hx=>by simp[hx]⟩,⟨λx hx=>(nomatch hx),λx hx hl=>?_,λw zs h1 h2=>(nomatch h2)⟩⟩ ?_ ?_⟩
 ·have:=(rA.in_ x hx).2
  lia
 ·refineλi σ Hc hi aj=>opq λao ad=>?_;obtain⟨bs,ks,v3,v4,rfl,o,hf,B,u⟩:=aj;refine ad ?_;rw[g] at hi ⊢;obtain⟨d,ew⟩:∃d:Nat,(b.length:Int)-1-i=(d:Int):=⟨b.length-1-i,by lia⟩
  have hw:d<b.length:=by lia
  rw[ew];obtain⟨r,h3,h4⟩:=NL.get (A4 hw);have hz:=A4 hw;have rz:=wf d _ hz;generalize b[d]=zs at h4 hz rz;have ix:∀{bs:List Bool} {ks:List Int} {x:Int},Bls b.length ks bs->0<=x->x<(b.length:Int)->ixN (bs.map V.bl).length x=some x.toNat:=λ{bs ks x} B h0 h1=>by
   have:=qQ2 (xs:=bs.map V.bl) (j:=x.toNat) (by rw[A0,B.len];lia)
   rw[show((x.toNat:Nat):Int)=x by lia] at this
   exact this
  -- Ad
  refine⟨λσ Hc=>∃(bs:List Bool) (ks:List Int),σ=[some (.ref a),some (.ref t),some (.ref m),some (.int (d:Int)),v4]/\Same H Hc/\Hc m=some (.lst (bs.map V.bl))/\Bls b.length ks bs/\(∀x∈ks,(0<=x/\x<(b.length:Int))/\Nd b Ad x)/\(∀x∈Ad,(d:Int)<=x->x∈ks)/\(∀(w:Nat) zs,(d:Int)+1<=(w:Int)->(w:Int)∈ks->b[w]?=some zs->∀y∈zs,y∈ks),?_,?_⟩
  ·refine⟨_,rfl,_,rfl,t,_,rfl,.inr (SqT.of (o _ _ hT)),rfl,qDP Ad,_,rfl,?_⟩;rw[qGD];by_cases c:(d:Int)∈Ad
   ·rw[decide_eq_true c];refine⟨_,rfl,_,rfl,m,_,_,d,rfl,rfl,hf,?_,?_⟩
    ·have:=ix B (x:=(d:Int)) (by lia) (by lia)
     rw[D2] at this;exact this
    ·have st:=B.set (x:=(d:Int)) (by lia) (by lia)
     rw[D2] at st;refine⟨_,addI ks (d:Int),rfl,qAB o a6,by rw[qA1,A12],st,λx hx=>?_,λx hx hl=>?_,λw1 ys h1 h2 h9 y hy=>?_⟩
     ·rcases mem_addI.mp hx with hx|hx
      ·exact u.in_ x hx
      ·rw[hx];exact⟨⟨by lia,by lia⟩,.ask c⟩
     ·by_cases e:x=(d:Int)
      ·exact mem_addI.mpr (.inr e)
      ·exact mem_addI.mpr (.inl (u.ask x hx (by lia)))
     ·rcases mem_addI.mp h2 with h2|h2
      ·exact mem_addI.mpr (.inl (u.clo w1 ys (by lia) h2 h9 y hy))
      ·lia
   ·rw[decide_eq_false c];refine⟨bs,ks,rfl,o,hf,B,u.in_,λx hx hl=>?_,λw1 ys h1 h2 h9=>u.clo w1 ys (by lia) h2 h9⟩
    by_cases e:x=(d:Int)
    ·rw[e] at hx;exact absurd hx c
    ·exact u.ask x hx (by lia)
  refineλσ Hc a4=>opq λav a9=>?_;obtain⟨bs,ks,rfl,o,hf,B,f1,f2,f3⟩:=a4;refine a9 ?_;refine⟨_,rfl,_,rfl,m,_,_,_,rfl,rfl,SqL.of hf,qCY (by lia) (by rw[D2];exact qaP (B.at_ d hw)),_,rfl,?_⟩
  by_cases c:(d:Int)∈ks
  ·rw[decide_eq_true c];refine⟨_,rfl,_,rfl,a,_,_,_,rfl,rfl,SqT.of (o _ _ hA),qCY (by lia) (by rw[D2,C1,h3];rfl),r,rfl,⟨_,SqT.of (o _ _ h4)⟩,qHS (a:=r) (xs:=zs.map V.int) (λk σ Hd=>∃(bs:List Bool) (ks:List Int) (v4:Option V),σ=[some (.ref a),some (.ref t),some (.ref m),some (.int (d:Int)),v4]/\Same H Hd/\Hd m=some (.lst (bs.map V.bl))/\Bls b.length ks bs/\(∀x∈ks,(0<=x/\x<(b.length:Int))/\Nd b Ad x)/\(∀x∈Ad,(d:Int)<=x->x∈ks)/\(∀(w:Nat) zs,(d:Int)+1<=(w:Int)->(w:Int)∈ks->b[w]?=some zs->∀y∈zs,y∈ks)/\(d:Int)∈ks/\∀y∈zs.take k,y∈ks)
    ⟨bs,ks,v4,rfl,o,hf,B,f1,f2,f3,c,λy hy=>by simp at hy⟩ (λk σ Hd _ hP=>by obtain⟨_,_,_,_,sd,_⟩:=hP;exact SqT.of (sd _ _ h4)) ?_ ?_⟩
   ·refineλk x σ Hd hx ac=>opq λap aa=>?_;obtain⟨bs,ks,v4,rfl,sd,a1,B,f1,f2,f3,c,ty⟩:=ac;obtain⟨y,ey,rfl⟩:=qB1 hx;refine aa ?_;have my:=B1 ey;have yb:=rz.in_ y my;refine⟨_,rfl,_,rfl,m,_,_,y.toNat,rfl,rfl,a1,ix B yb.1 (by lia),?_⟩
    refine⟨_,addI ks y,_,rfl,qAB sd a6,by rw[qA1,A12],B.set yb.1 (by lia),λx hx=>?_,λx hx hl=>mem_addI.mpr (.inl (f2 x hx hl)),λw1 ys h1 h2 h9 z hz'=>?_,mem_addI.mpr (.inl c),λz hz'=>?_⟩
    ·rcases mem_addI.mp hx with hx|hx
     ·exact f1 x hx
     ·rw[hx];exact⟨⟨yb.1,by lia⟩,.need (f1 _ c).2 (by rw[D2];exact hz) my⟩
    ·rcases mem_addI.mp h2 with h2|h2
     ·exact mem_addI.mpr (.inl (f3 w1 ys h1 h2 h9 z hz'))
     ·lia
    ·rw[C6,ey,C8,B4,A5] at hz';rcases hz' with hz'|hz'
     ·exact mem_addI.mpr (.inl (ty z hz'))
     ·exact mem_addI.mpr (.inr hz')
   ·refineλσ Hd a7=>opq λas ai=>?_;obtain⟨bs,ks,v4,rfl,sd,a1,B,f1,f2,f3,c,ty⟩:=a7;refine ai ?_;rw[A0,qAT rfl] at ty;refine⟨bs,ks,_,_,rfl,sd,a1,B,f1,λx hx hl=>f2 x hx (by lia),λw1 ys h1 h2 h9=>?_⟩
    by_cases e:w1=d
    ·subst e;rw[hz] at h9;cases h9;exact ty
    ·exact f3 w1 ys (by lia) h2 h9
  ·rw[decide_eq_false c];refine⟨bs,ks,_,_,rfl,o,hf,B,f1,λx hx hl=>f2 x hx (by lia),λw1 ys h1 h2 h9=>?_⟩
   by_cases e:w1=d
   ·subst e;exact absurd h2 c
   ·exact f3 w1 ys (by lia) h2 h9
 ·refineλσ Hc af=>opq λau ab=>?_;obtain⟨bs,ks,v3,v4,rfl,o,hf,B,u⟩:=af;refine ab ?_;rw[g,show((b.length:Int)-(((b.length:Int)-1 - -1).toNat:Nat))=0 by lia] at u
  have all:=Fnd.all wf (⟨u.in_,λx hx=>u.ask x hx (rA.in_ x hx).1,u.clo⟩:Fnd b Ad ks 0);have ag:((((rs.map V.ref).length:Nat):Int)).toNat=b.length:=by rw[g];lia
  refine⟨_,rfl,a,_,rfl,.inr (SqT.of (o _ _ hA)),_,rfl,by rw[g];lia,by rw[g];lia,λp hp=>?_⟩
  refine qDZ (p:=p) (lo:=0) (n:=((((rs.map V.ref).length:Nat):Int)).toNat) (λi σ Hd=>∃(v:Option V),σ=[v,some (.ref m)]/\Same Hc Hd/\Hd p=some (.lst ((((qC6 0 b.length).take i).filter λx=>decide (x∈ks)).map V.int))) ?_ ?_ ?_
  ·exact⟨none,rfl,qA2 hp _,qA1⟩
  ·refineλi σ Hd hi ae=>opq λar a5=>?_;obtain⟨v,rfl,sd,a0⟩:=ae;refine a5 ?_;rw[ag] at hi;have lk:=qCH (p:=λx=>decide (x∈ks)) (l:=qC6 0 b.length) (i:=i);refine⟨_,rfl,_,rfl,m,_,_,_,rfl,rfl,SqL.of (sd _ _ hf),qCY (by lia) (by rw[show(0+(i:Int)).toNat=i by lia];exact qaP (B.at_ i hi)),_,rfl,?_⟩
   rw[qCN (qP8 (by lia)),A64]
   by_cases c:(i:Int)∈ks
   ·rw[decide_eq_true c];refine⟨_,rfl,_,a0,qAI (by rw[A0];lia),_,rfl,qAB sd hp,?_⟩
    rw[qA1,if_pos rfl,B0]
    rfl
   ·rw[decide_eq_false c];refine⟨_,rfl,sd,?_⟩;simpa using a0
  ·refineλσ Hd a3=>opq λaq ah=>?_;obtain⟨v,rfl,sd,a0⟩:=a3;refine ah ?_;rw[qAT (by rw[qKX,ag];lia)] at a0
   refine q p _ Hd (o.trans sd) (o.free hp) a0 ⟨⟨(qEB _ _).filter _,λx hx=>mem_rangeI.mp (D6.mp hx).1⟩,λx=>?_⟩;rw[D6,mem_rangeI,decide_eq_true_eq,<- all x];exact⟨λz=>z.2,λz=>⟨(u.in_ x z).1,z⟩⟩
theorem sc_all_needed:FnScope ["net","asked","wanted","work","need"] ["net","asked"] (qAA qDX):=qBK
theorem ok_all_needed (F:Fun K "all_needed" "all_needed" qDX f fd) (qB4:mg "range" = none) (ai:mg "len" = none) (qBQ:mg "sorted" = none):FnOk P w K mg base CX0 1 f fd ["net","asked"] qXY:=by
 refine F.okA sc_all_needed λar A aj s H vs Q E hr h=>?_;obtain⟨a,t,d,Ad,rfl,hN,wf,ah,hT,a5,q⟩:=h;have hu:=qHR hr;refine⟨_,(qA4 (qAE (i:=2) sc_all_needed.nd rfl (E1 rfl) qGT) (qA4 (qBU D3 rfl (qCJ (pv 1)) (qAN (i:=3) sc_all_needed.nd rfl (E1 rfl)) (qA5 (qE4 hu (pv 2) (pv 3) qEX rfl))) (qA4 (qBU D3 rfl (qUL rfl qB4 (qA0 (qAO qDN (qA9 qAC rfl ai qBD (qA0 (pv 0) qA3)) qA7) (qA0 (qKH qG1 qA7) (qA0 (qKH qG1 qA7) qA3)))) (qAN (i:=3) sc_all_needed.nd rfl (E1 rfl)) (qA5 (qBP (qDY (qUQ hu (pv 3) (pv 2))) (qA5 (qBU D3 rfl (qCJ (qB5 qBI (pv 0) (pv 3) (λ_ _=>rfl))) (qAN (i:=4) sc_all_needed.nd rfl (E1 rfl)) (qA5 (qE4 hu (pv 2) (pv 4) qEX rfl)))) qAL))) (qA5 (qAG (qA9 (qIC rfl) rfl qBQ qD0 (qA0 (pv 2) qA3))))))),?_⟩
 try dsimp only[Cx.nox,Cx.wish,cxOf]
 obtain⟨rs,hA,NL⟩:=id hN;have a0:(((rs.map V.ref).length:Nat):Int)=(d.length:Int):=by rw[A0,B6 NL]
 refineλu a1=>?_;have sn:=qA2 a1 (.dK []);refine⟨_,rfl,t,rfl,⟨_,SqT.of (sn _ _ hT)⟩,qHS (a:=t) (xs:=Ad.map V.int) (λj σ Hf=>∃(Af:List (Key×V)) (ks:List Int) (v3 v4:Option V),σ=[some (.ref a),some (.ref t),some (.ref u),v3,v4]/\Same H Hf/\Hf u=some (.dK Af)/\KeysI Af ks/\∀x,x∈ks↔x∈Ad.take j)
  ⟨[],[],none,none,rfl,sn,qA1,KeysI.nil,λx=>by simp⟩ (λj σ Hf _ hP=>by obtain⟨_,_,_,_,_,c,_⟩:=hP;exact SqT.of (c _ _ hT)) ?_ ?_⟩
 ·refineλj x σ Hf hx ag=>opq λal ac=>?_;obtain⟨Af,ks,v3,v4,rfl,c,hd,g,mk⟩:=ag;obtain⟨y,ey,rfl⟩:=qB1 hx;refine ac ?_;have lk:ks.length<=d.length:=qRP g.nd λx hx=>a5 x (M8 ((mk x).mp hx));refine⟨_,rfl,_,rfl,u,_,rfl,DPut.k (k:=D7 y) hd (qAW (by rw[g.len];lia)),?_⟩
  refine⟨_,_,_,_,rfl,qAB c a1,qA1,g.put y _,λx=>?_⟩;rw[mem_addI,mk,C6,ey,C8,B4,A5]
 refineλσ Hf a4=>opq λaq a8=>?_;obtain⟨Af,ks,v3,v4,rfl,c,hd,g,mk⟩:=a4;refine a8 ?_;rw[A0,qAT rfl] at mk;refine⟨_,rfl,a,_,rfl,.inr (SqT.of (c _ _ hA)),_,_,rfl,rfl,_,rfl,_,rfl,_,_,rfl,⟨by rw[a0];lia,by rw[a0];lia,by decide,by decide⟩,qRY (lo:=(((rs.map V.ref).length:Nat):Int)-1) (n:=((((rs.map V.ref).length:Nat):Int)-1 - -1).toNat) (λi σ Hc=>∃(Af:List (Key×V)) (ks:List Int) (v3 v4:Option V),σ=[some (.ref a),some (.ref t),some (.ref u),v3,v4]/\Same H Hc/\Hc u=some (.dK Af)/\KeysI Af ks/\Fnd d Ad ks ((d.length:Int)-i))
  ⟨Af,ks,v3,v4,rfl,c,hd,g,⟨λx hx=>⟨a5 x ((mk x).mp hx),.ask ((mk x).mp hx)⟩,λx hx=>(mk x).mpr hx,λw zs h1 h2 h3=>?_⟩⟩ ?_ ?_⟩
 ·have:=(A3.mp h3).1
  lia
 ·refineλi σ Hc hi ab=>opq λam a9=>?_;obtain⟨Af,ks,v3,v4,rfl,c,hd,g,v⟩:=ab;refine a9 ?_;rw[a0] at hi ⊢;have ak:i<d.length:=by lia
  obtain⟨m,ew⟩:∃m:Nat,(d.length:Int)-1-i=(m:Int):=⟨d.length-1-i,by lia⟩
  have hw:m<d.length:=by lia
  rw[ew];obtain⟨r,h3,h4⟩:=NL.get (A4 hw);have hz:=A4 hw;have rz:=wf m _ hz;generalize d[m]=zs at h4 hz rz;refine⟨_,rfl,_,rfl,u,_,rfl,DGet.k (k:=D7 (m:Int)) hd,_,rfl,?_⟩;rw[g.has];by_cases mw:(m:Int)∈ks
  ·rw[decide_eq_true mw];refine⟨_,rfl,_,rfl,a,_,_,_,rfl,rfl,SqT.of (c _ _ hA),qCY (by lia) (by rw[D2,C1,h3];rfl),r,rfl,⟨_,SqT.of (c _ _ h4)⟩,qHS (a:=r) (xs:=zs.map V.int) (λk σ Hd=>∃(Af:List (Key×V)) (ks:List Int) (v4:Option V),σ=[some (.ref a),some (.ref t),some (.ref u),some (.int (m:Int)),v4]/\Same H Hd/\Hd u=some (.dK Af)/\KeysI Af ks/\Fnd d Ad ks ((m:Int)+1)/\(m:Int)∈ks/\∀y∈zs.take k,y∈ks)
    ⟨Af,ks,v4,rfl,c,hd,g,by rw[show(m:Int)+1=(d.length:Int)-i by lia];exact v,mw,λy hy=>by simp at hy⟩ (λk σ Hd _ hP=>by obtain⟨_,_,_,_,p,_⟩:=hP;exact SqT.of (p _ _ h4)) ?_ ?_⟩
   ·refineλk x σ Hd hx a7=>opq λao af=>?_;obtain⟨Af,ks,v4,rfl,p,a2,o,b,a3,ty⟩:=a7;obtain⟨y,ey,rfl⟩:=qB1 hx;refine af ?_;have my:=B1 ey;have yb:=rz.in_ y my;have lk:ks.length<=d.length:=qRP o.nd λx hx=>(b.in_ x hx).1;refine⟨_,rfl,_,rfl,u,_,rfl,DPut.k (k:=D7 y) a2 (qAW (by rw[o.len];lia)),?_⟩
    refine⟨_,_,_,rfl,qAB p a1,qA1,o.put y _,⟨λx hx=>?_,λx hx=>mem_addI.mpr (.inl (b.ask x hx)),λw1 ys h1 h2 h3 z hz'=>?_⟩,mem_addI.mpr (.inl a3),λz hz'=>?_⟩
    ·rcases mem_addI.mp hx with hx|hx
     ·exact b.in_ x hx
     ·rw[hx];exact⟨⟨yb.1,by lia⟩,.need (b.in_ _ a3).2 (by rw[D2];exact hz) my⟩
    ·rcases mem_addI.mp h2 with h2|h2
     ·exact mem_addI.mpr (.inl (b.clo w1 ys h1 h2 h3 z hz'))
     ·lia
    ·rw[C6,ey,C8,B4,A5] at hz';rcases hz' with hz'|hz'
     ·exact mem_addI.mpr (.inl (ty z hz'))
     ·exact mem_addI.mpr (.inr hz')
   ·refineλσ Hd ae=>opq λap aa=>?_;obtain⟨Af,ks,v4,rfl,p,a2,o,b,a3,ty⟩:=ae;refine aa ?_;rw[A0,qAT rfl] at ty;refine⟨Af,ks,_,_,rfl,p,a2,o,b.in_,b.ask,λw1 ys h1 h2 h9=>?_⟩;by_cases e:w1=m
    ·subst e;rw[hz] at h9;cases h9;exact ty
    ·exact b.clo w1 ys (by lia) h2 h9
  ·rw[decide_eq_false mw];refine⟨Af,ks,_,_,rfl,c,hd,g,v.in_,v.ask,λw1 ys h1 h2 h3=>?_⟩;by_cases e:w1=m
   ·subst e;exact absurd h2 mw
   ·exact v.clo w1 ys (by lia) h2 h3
 ·refineλσ Hc ad=>opq λan a6=>?_;obtain⟨Af,ks,v3,v4,rfl,c,hd,g,v⟩:=ad;refine a6 ?_;rw[a0,show((d.length:Int)-(((d.length:Int)-1 - -1).toNat:Nat))=0 by lia] at v
  refine⟨_,rfl,u,ks,rfl,.inr (.inr ⟨Af,hd,g.keys⟩),U2 (qRP g.nd λx hx=>(v.in_ x hx).1) (by lia),λl zs hl hp hs=>?_⟩
  have s1:=qA2 hl (.lst (zs.map V.int));refine q l zs _ (c.trans s1) (c.free hl) qA1 ⟨⟨qF6 hs (hp.nodup_iff.mpr g.nd),λx hx=>(v.in_ x (hp.mem_iff.mp hx)).1⟩,λx=>?_⟩;rw[hp.mem_iff];exact v.all wf x
theorem qLX:FnScope ["needs","numbers"] ["needs","numbers"] (qAA qDV):=qBK
theorem ok_renumbered (F:Fun K "renumbered" "renumbered" qDV f fd) (v:mg "tuple" = none):FnOk P w K mg base CX0 1 f fd ["needs","numbers"] qdA:=by
 refine F.okA qLX λa2 A z s H vs Q E hr h=>?_;obtain⟨r,d,zs,Af,c,rfl,hR,u,hd,hv,q⟩:=h;have hu:=qHR hr;refine⟨_,(qA5 (qAG (qAH qAK rfl v qAU (qA0 (qC4 rfl (lcs (own:=["need"]) (fv:=[1]) (by kernel_rfl)) (qCJ (pv 0)) (λz1=>qBR 0) (λz1=>(qEJ (qDY (qUQ hu (pv 0) (pv 1))))) (λz1=>(qCE hu (pv 1) (pv 0) (λ_ _=>rfl)))) qA3)))),?_⟩
 try dsimp only[Cx.nox,Cx.wish,cxOf]
 refine⟨_,rfl,r,rfl,⟨_,SqT.of hR⟩,λp hp=>?_⟩;refine qD7 (p:=p) (a:=r) (xs:=zs.map V.int) (λi σ g=>∃(v0:Option V),σ=[v0,some (.ref d)]/\Same H g/\g p=some (.lst (((zs.take i).filterMap c).map V.int))) ?_ ?_ ?_ ?_
 ·exact⟨none,rfl,qA2 hp _,qA1⟩
 ·rintro i σ g hi ⟨v0,rfl,sm,_⟩;exact SqT.of (sm _ _ hR)
 ·refineλi x σ g hx j=>opq λa1 m=>?_;obtain⟨v0,rfl,sm,b⟩:=j;obtain⟨y,ey,rfl⟩:=qB1 hx;refine m ?_;have lt:=(A3.mp ey).1;have l:=DGet.k (k:=D7 y) (sm _ _ hd);have lk:((zs.take i).filterMap c).length<=i:=F2 (O8 _ _) (by rw[C4];lia)
  refine⟨_,rfl,_,rfl,d,_,rfl,l,_,rfl,?_⟩;rw[C6,ey,C8,U5,L0,List.filterMap_nil];rw[hv] at l ⊢;cases e:c y with
  |none=>
   rw[e] at l;refine⟨_,rfl,sm,?_⟩;simpa using b
  |some n=>
   rw[e] at l;refine⟨_,rfl,_,rfl,d,_,rfl,l,_,b,qAI (by rw[A0];lia),_,rfl,qAB sm hp,?_⟩
   rw[qA1,B0]
   rfl
 ·refineλσ g t=>opq λa3 o=>?_;obtain⟨v0,rfl,sm,b⟩:=t;refine o ?_;rw[A0,qAT rfl] at b;refine⟨p,_,rfl,.inl ⟨SqL.of b,λr' a0=>?_⟩⟩;exact q r' _ (sm.trans (qA2 a0 _)) qA1
theorem sc_part_net:FnScope ["net","works","numbers","number","work"] ["net","works"] (qAA qFO):=qBK
theorem ok_part_net (F:Fun K "part_net" "part_net" qFO f fd) (ag:Clb P w K mg base 1 qFF qML "renumbered" ["needs","numbers"] qdA)
  (ah:mg "enumerate" = none) (aa:mg "tuple" = none):FnOk P w K mg base CX0 2 f fd ["net","works"] qU0:=by
 refine F.okA sc_part_net λao A ab s H vs Q E hr h=>?_;obtain⟨a,t,Ae,g,rfl,hN,wf,af,hT,d,q⟩:=h;have hu:=qHR hr;have ak:Room 1 _:=hr;have lw:=d.len;refine⟨_,(qA4 (qAE (i:=2) sc_part_net.nd rfl (g8 rfl) qGT) (qA4 (qBU D3 rfl (qYA rfl ah qE2 (qA0 (pv 1) qA3)) (qG4 rfl (qAV (qAN (i:=3) sc_part_net.nd rfl (E1 rfl)) (qAV (qAN (i:=4) sc_part_net.nd rfl (E1 rfl)) qD2))) (qA5 (qE4 hu (pv 2) (pv 4) (pv 3) rfl))) (qA5 (qAG (qAH qAK rfl aa qAU (qA0 (qC4 rfl (lcs (own:=["work"]) (fv:=[0,2]) (by kernel_rfl)) (qCJ (pv 1)) (λz2=>qBR 0) (λz2=>qAY) (λz2=>(qAR ag hr rfl (qA0 (qB5 (qEK (K:=K) rfl) (pv 1) (pv 0) (λ_ _=>rfl)) (qA0 (pv 2) qA3))))) qA3)))))),?_⟩
 try dsimp only[Cx.nox,Cx.wish,cxOf]
 obtain⟨rs,hA,NL⟩:=id hN;refineλdn u=>?_;have sn:=qA2 u (.dK []);refine⟨_,rfl,t,rfl,⟨_,.inl (Rd.same hT sn)⟩,qWD (a:=t) (xs:=g.map V.int) (λi σ o=>∃(Af:List (Key×V)) (v3 v4:Option V),σ=[some (.ref a),some (.ref t),some (.ref dn),v3,v4]/\Same H o/\o dn=some (.dK Af)/\Af.length<=i/\∀x,valV Af (D7 x)=(qDR (g.take i) x).map V.int)
  ⟨[],none,none,rfl,sn,qA1,A7 _,λx=>by simp[qDR,valV]⟩ (λi σ o _ ⟨_,_,_,_,sm,_⟩=>.inl (Rd.same hT sm)) ?_ ?_⟩
 ·refineλi x σ o T hx a4 ac=>opq λai a8=>?_;obtain⟨Af,v3,v4,rfl,sm,hd,lk,hv⟩:=a4;obtain⟨y,m,rfl⟩:=qB1 hx;refine a8 ?_;have lt:=(A3.mp m).1;have sT:=qA2 ac (.tup [.int (i:Int),.int y]);refine⟨T,_,rfl,SqT.of qA1,rfl,_,_,rfl,_,_,rfl,rfl,?_⟩;refine⟨_,rfl,_,rfl,_,rfl,dn,_,rfl,DPut.k (k:=D7 y) (sT _ _ hd) (qAW (by lia)),?_⟩
  refine⟨_,_,_,rfl,qAB (sm.trans sT) u,qA1,F2 (qCM _ _ _) (by lia),λx=>?_⟩
  rw[qQV,qSW d.nodup m x];by_cases e:x=y
  ·rw[e,if_pos rfl,if_pos rfl]
   rfl
  ·rw[if_neg e,if_neg λz=>e (U7 z)];exact hv x
 refineλσ o a5=>opq λaj a6=>?_;obtain⟨Af,v3,v4,rfl,sm,hd,lk,hv⟩:=a5;refine a6 ?_;rw[A0,qAT rfl] at hv;refine⟨_,rfl,t,rfl,⟨_,.inl (Rd.same hT sm)⟩,λp hp=>?_⟩;refine qD7 (p:=p) (a:=t) (xs:=g.map V.int) (λi σ n=>∃(v0:Option V) (ss:List Addr),σ=[v0,some (.ref a),some (.ref dn)]/\Same o n/\n p=some (.lst (ss.map V.ref))/\NetL n ss ((qBY Ae g).take i)) ?_ ?_ ?_ ?_
 ·exact⟨none,[],rfl,qA2 hp _,qA1,by rw[A88];exact .nil⟩
 ·refineλi σ n hi a3=>opq λan a7=>?_;obtain⟨v0,ss,rfl,c,_⟩:=a3;refine a7 ?_;exact .inl (Rd.same (Rd.same hT sm) c)
 ·refineλi x σ n hx a2=>opq λam a1=>?_;obtain⟨v0,ss,rfl,c,l,v⟩:=a2;obtain⟨y,m,rfl⟩:=qB1 hx;refine a1 ?_;have lt:=(A3.mp m).1;have yb:=d.in_ y (B1 m);have s3:=sm.trans c;have hy:y.toNat<Ae.length:=by lia
  obtain⟨r,h3,h4⟩:=NL.get (A4 hy);have lz:=(wf y.toNat _ (A4 hy)).len;refine⟨_,rfl,_,rfl,a,_,_,_,rfl,rfl,SqT.of (s3 _ _ hA),qCY yb.1 (by rw[C1,h3];rfl),_,rfl,r,dn,_,Af,qDR g,rfl,s3 _ _ h4,by lia,c _ _ hd,hv,λr' H' j ad=>?_⟩
  have g1:=j _ _ l;have ae:ss.length=((qBY Ae g).take i).length:=B6 v;refine⟨_,g1,qAI (by rw[A0,ae,C4,qBV];lia),?_⟩
  rw[qB2];refine⟨_,ss++[r'],rfl,qAB (c.trans j) hp,qA1,?_⟩;rw[C6,qGV m,A4 hy];exact qDE (qC1 (v.same λr' ys e=>j _ _ e) ad) g1
 ·refineλσ n a0=>opq λal a9=>?_;obtain⟨v0,ss,rfl,c,l,v⟩:=a0;refine a9 ?_;rw[A0,qAT (qBV Ae g)] at v;refine⟨p,_,rfl,.inl ⟨SqL.of l,λb hb=>?_⟩⟩;have s1:=qA2 hb (.tup (ss.map V.ref));exact q b _ ((sm.trans c).trans s1) ⟨ss,qA1,v.same λr ys e=>s1 _ _ e⟩
theorem sc_fault_of_do:FnScope ["net","rooms","stand","work","there","result","need"] ["net","rooms","stand","work"] (qAA qD9):=qBK
theorem ok_fault_of_do (F:Fun K "fault_of_do" "fault_of_do" qD9 f fd) (ab:mg "len" = none):FnOk P w K mg base CX0 1 f fd ["net","rooms","stand","work"] qNA:=by
 refine F.okA sc_fault_of_do λai A a9 s H vs Q E hr h=>?_;obtain⟨a,so,Ae,c,ns,m,l,rfl,hN,n,ak,aa,ac,q⟩:=h;have hu:=qHR hr;refine⟨_,(qA4 (qAE (i:=4) sc_fault_of_do.nd rfl (E1 rfl) qGT) (qA4 (qBU D3 rfl (qCJ (pv 2)) (qAN (i:=5) sc_fault_of_do.nd rfl (E1 rfl)) (qA5 (qE4 hu (pv 4) (pv 5) qEX rfl))) (qA4 (qBP (qDY (qUQ hu (pv 3) (pv 4))) (qA5 (qAG qBO)) qAL) (qA4 (qBU D3 rfl (qCJ (qB5 qBI (pv 0) (pv 3) (λ_ _=>rfl))) (qAN (i:=6) sc_fault_of_do.nd rfl (E1 rfl)) (qA5 (qBP (qDY (qGU hu (pv 6) (pv 4))) (qA5 (qAG qBO)) qAL))) (qA4 (qBP (qAM qV2 (qA9 qAC rfl ab qBD (qA0 (pv 2) qA3)) (pv 1) (qAS _)) (qA5 (qAG qBO)) qAL) (qA5 (qAG qGR))))))),?_⟩
 try dsimp only[Cx.nox,Cx.wish,cxOf]
 refineλp hp=>?_;have s0:=qA2 hp (.dK []);refine⟨_,rfl,so,rfl,⟨_,SqT.of (s0 _ _ n)⟩,qHS (a:=so) (xs:=c.map V.int) (λi σ t=>∃(Af:List (Key×V)) (v:Option V),σ=[some (.ref a),some (.int m),some (.ref so),some (.int l),some (.ref p),v,none]/\Same H t/\t p=some (.dK Af)/\Af.length<=i/\∀x:Int,(valV Af (D7 x)).isSome=true↔x∈c.take i)
  ⟨[],none,rfl,s0,qA1,A7 _,λx=>by simp[valV]⟩ (λi σ t _ hP=>by obtain⟨_,_,_,d,_⟩:=hP;exact SqT.of (d _ _ n)) ?_ ?_⟩
 ·refineλi x σ t j a7=>opq λah a8=>?_;obtain⟨Af,v,rfl,d,hd,lk,u⟩:=a7;refine a8 ?_;rw[C1] at j;cases ez:c[i]? with
  |none=>rw[ez] at j;cases j
  |some z=>
   rw[ez] at j;cases j;have ag:i<c.length:=(A3.mp ez).1;refine⟨_,rfl,_,rfl,p,_,rfl,DPut.k (k:=D7 z) hd (qAI (by lia)),?_⟩
   refine⟨putK Af (D7 z) (.bl true),_,rfl,λb o e=>?_,qA1,F2 (qCM _ _ _) (by lia),λy=>?_⟩
   ·rw[qA8 (qA6 e hp)];exact d b o e
   ·rw[qQV,C6,ez,C8,B4,A5];by_cases a0:y=z
    ·subst a0;simp
    ·have:¬(D7 y:Key)=D7 z:=λq=>a0 (U7 q);rw[if_neg this,u y];simp[a0]
 ·refineλσ t a2=>opq λaf a3=>?_;obtain⟨Af,v,rfl,d,hd,lk,u⟩:=a2;refine a3 ?_;rw[A0,E7 (A7 _)] at u;obtain⟨rs,r,h1,l1,h2,h3⟩:=hN.get ac;refine⟨_,rfl,_,rfl,p,_,rfl,DGet.k (k:=D7 l) hd,_,rfl,?_⟩;refine ite2 (λck=>?_) (λck=>?_)
  ·have hw:=(u l).mp ck;have e:qCV ns c m l=.str "there":=by unfold qCV;rw[if_pos hw]
   have:=q t d;rw[e] at this;exact this
  ·have hw:¬l∈c:=λz=>ck ((u l).mpr z);refine⟨_,rfl,_,rfl,a,_,_,_,rfl,rfl,SqT.of (d _ _ h1),qCY aa h2,r,rfl,⟨_,SqT.of (d _ _ h3)⟩,qHS (a:=r) (xs:=ns.map V.int) (λi σ Hd=>∃(v6:Option V),σ=[some (.ref a),some (.int m),some (.ref so),some (.int l),some (.ref p),v,v6]/\Hd=t/\∀x∈ns.take i,x∈c)
    ⟨none,rfl,rfl,λx j=>by simp at j⟩ (λi σ Hd _ ⟨_,_,e,_⟩=>by rw[e];exact SqT.of (d _ _ h3)) ?_ ?_⟩
   ·refineλi x σ Hd j a6=>opq λaj a4=>?_;obtain⟨v6,rfl,rfl,mm⟩:=a6;obtain⟨z,ez,rfl⟩:=qB1 j;refine a4 ?_;refine⟨_,rfl,_,rfl,p,_,rfl,DGet.k (k:=D7 z) hd,_,rfl,?_⟩;refine ite2 (λcz=>?_) (λcz=>?_)
    ·have hz:¬z∈c:=λzz=>by rw[(u z).mpr zz] at cz;cases cz
     have e:qCV ns c m l=.str "needs":=by
      unfold qCV;rw[if_neg hw,if_neg λad=>hz (ad z (B1 ez))]
     have:=q Hd d;rw[e] at this;exact this
    ·have hz:z∈c:=by
      apply(u z).mp;cases hv:(valV Af (D7 z:Key)).isSome with
      |true=>rfl
      |false=>rw[hv] at cz;exact absurd rfl cz
     refine⟨_,rfl,rfl,λy hy=>?_⟩;rw[C6,ez,C8,B4,A5] at hy;rcases hy with hy|rfl
     ·exact mm y hy
     ·exact hz
   ·refineλσ Hd a1=>opq λae a5=>?_;obtain⟨v6,rfl,rfl,mm⟩:=a1;refine a5 ?_;rw[A0,E7 (A7 _)] at mm;refine⟨_,rfl,so,_,rfl,.inr (SqT.of (d _ _ n)),_,rfl,_,_,rfl,rfl,_,rfl,?_⟩;have q':=q Hd d;have e0:qCV ns c m l=if m<=(c.length:Int) then .str "full" else .non:=by
     unfold qCV;rw[if_neg hw,if_pos mm]
    rw[e0] at q';refine ite2 (λcf=>?_) (λcf=>?_)
    ·have g:m<=(((c.map V.int).length:Nat):Int):=of_decide_eq_true cf;rw[A0] at g;rw[if_pos g] at q';exact q'
    ·have g:¬m<=(((c.map V.int).length:Nat):Int):=of_decide_eq_false (F5.mpr cf);rw[A0] at g;rw[if_neg g] at q';exact q'
theorem qP4:FnScope ["net","rooms","stand","move"] ["net","rooms","stand","move"] (qAA qFQ):=qBK
theorem ok_fault_of (F:Fun K "fault_of" "fault_of" qFQ f fd) (n:Clb P w K mg base 1 qEN qKM "fault_of_do" ["net","rooms","stand","work"] qNA):
  FnOk P w K mg base CX0 2 f fd ["net","rooms","stand","move"] qJ9:=by
 refine F.okA qP4 λa1 A i s H vs Q E t h=>?_;obtain⟨a,u,k,y,v,ns,Aa,wk,x,rfl,hN,d,p,c,o,r,m,a0,q⟩:=h;have z:Room 1 _:=t;refine⟨_,(qA4 (qBP (qAM qED (qB5 qBI (pv 3) qA7 (λ_ _=>rfl)) qBO (qAS _)) (qA5 (qAG (qAR n t rfl (qA0 (pv 0) (qA0 (pv 1) (qA0 (pv 2) (qA0 (qB5 qBI (pv 3) qA7 (λ_ _=>rfl)) qA3))))))) qAL) (qA4 (qBP (qAM qF4 (qB5 qBI (pv 3) qA7 (λ_ _=>rfl)) (pv 2) (by with_unfolding_all rfl)) (qA5 (qAG qGR)) qAL) (qA5 (qAG qBO)))),?_⟩
 try dsimp only[Cx.nox,Cx.wish,cxOf]
 refine⟨_,rfl,k,_,_,_,rfl,rfl,SqT.of c,rfl,rfl,_,rfl,?_⟩;refine ite2 (λg=>?_) (λg=>?_)
 ·have j:x = "do":=V.str.inj (of_decide_eq_true g)
  refine⟨_,rfl,_,rfl,_,rfl,_,rfl,k,_,_,_,rfl,rfl,SqT.of c,rfl,a,u,y,v,ns,Aa,wk,rfl,hN,d,p,r,m,λH' sm=>?_⟩;have b:=q H' sm;unfold qCD at b;rw[if_pos j] at b;exact b
 ·have j:¬x = "do":=λe=>(of_decide_eq_false (F5.mpr g)) (congrArg V.str e)
  have b:=q H (Same.refl H);unfold qCD qCW at b;rw[if_neg j] at b;refine⟨_,rfl,k,_,_,_,rfl,rfl,SqT.of c,rfl,_,rfl,u,_,rfl,.inr (SqT.of d),rfl,qDP v,_,rfl,?_⟩;rw[qGD];refine ite2 (λl=>?_) (λl=>?_)
  ·rw[if_pos (of_decide_eq_true l)] at b;exact b
  ·rw[if_neg (of_decide_eq_false (F5.mpr l))] at b;exact b
theorem qSR:FnScope ["_law_stand","_law_move"] ["_law_stand","_law_move"] (qAA qGP):=qBK
theorem ok_Lbehind (F:Fun K "_law_behind" "_law_behind" qGP f fd) (qBQ:mg "sorted" = none) (a0:mg "tuple" = none):FnOk P w K mg base CX0 1 f fd ["_law_stand","_law_move"] qF1:=by
 refine F.okA qSR λa8 A a6 s H vs Q E m h=>?_;obtain⟨so,mv,d,Ac,c,rfl,n,lst,o,t,q⟩:=h;refine⟨_,(qA4 (qBP (qAM qED (qB5 qBI (pv 1) qA7 (λ_ _=>rfl)) qBO (qAS _)) (qA5 (qAG (qAH qAK rfl a0 qAU (qA0 (qA9 (qET rfl) rfl qBQ qD0 (qA0 (qAO qPL (pv 0) (qB7 (qA0 (qB5 qBI (pv 1) qA7 (λ_ _=>rfl)) qA3))) qA3)) qA3)))) qAL) (qA5 (qAG (qAH qAK rfl a0 qAU (qA0 (qC4 rfl (lcs (own:=["_law_work"]) (fv:=[1]) (by kernel_rfl)) (qCJ (pv 0)) (λz1=>qBR 0) (λz1=>(qEJ (qAM qNL (pv 0) (qB5 (qEK (K:=K) rfl) (pv 1) qA7 (λ_ _=>rfl)) (qAS _)))) (λz1=>(pv 0))) qA3))))),?_⟩
 try dsimp only[Cx.nox,Cx.wish,cxOf]
 refine⟨_,rfl,mv,_,_,_,rfl,rfl,SqT.of o,rfl,rfl,_,rfl,?_⟩;refine ite2 (λck=>?_) (λck=>?_)
 ·have hd:Ac = "do":=V.str.inj (of_decide_eq_true ck)
  refine⟨_,rfl,_,rfl,mv,_,_,_,rfl,rfl,SqT.of o,rfl,(by show 1<=B14;decide),λT hT=>?_⟩
  have sT:=qA2 hT (.tup [.int c]);have a3:∀(p:Addr) (H1:Hp),Same H H1->H1 p=some (.tup ((d++[c]).map V.int))->∀(b:Addr) (zs:List Int),H1 b=none->zs.Perm (d++[c])->zs.Pairwise (·<=·)->∀r,(Ag H1 b (.lst (zs.map V.int))) r=none->Q (.ref r) (Ag (Ag H1 b (.lst (zs.map V.int))) r (.tup (zs.map V.int))):=by
   intro p H1 s1 hp b zs u k hs r m;refine q r zs _ (s1.trans ((qA2 u _).trans (qA2 m _))) qA1 ⟨λ_=>⟨k,hs⟩,λz=>?_⟩;rw[hd] at z;exact absurd z.symm qAF
  refine⟨so,T,d.map V.int,[.int c],rfl,rfl,SqT.of (sT _ _ n),SqT.of qA1,by simp,R6 (qAW (by rw[A0,B3];lia)),λz=>?_,λz p hp=>?_⟩
  ·have e:d=[]:=l5.mp z;have g:(Ag H T (.tup [.int c])) T=some (.tup ((d++[c]).map V.int)):=by rw[qA1,e];rfl
   exact⟨T,d++[c],rfl,.inr (.inl (SqT.of g)),(by rw[A8,B3];lia),λb zs u k hs=>⟨b,_,rfl,.inl ⟨SqL.of qA1,λr m=>a3 T _ sT g b zs u k hs r m⟩⟩⟩
  ·have g:(Ag (Ag H T (.tup [.int c])) p (.tup (d.map V.int++[.int c]))) p=some (.tup ((d++[c]).map V.int)):=by rw[qA1,B0];rfl
   exact⟨p,d++[c],rfl,.inr (.inl (SqT.of g)),(by rw[A8,B3];lia),λb zs u k hs=>⟨b,_,rfl,.inl ⟨SqL.of qA1,λr m=>a3 p _ (sT.trans (qA2 hp _)) g b zs u k hs r m⟩⟩⟩
 ·have hd:Ac = "clear":=t.resolve_left λe=>(of_decide_eq_false (F5.mpr ck)) (congrArg V.str e);refine⟨_,rfl,so,rfl,⟨_,SqT.of n⟩,λp hp=>?_⟩;refine qD7 (p:=p) (a:=so) (xs:=d.map V.int) (λi σ Hc=>∃(v:Option V),σ=[v,some (.ref mv)]/\Same H Hc/\Hc p=some (.lst (((d.take i).filter λx=>decide (x≠c)).map V.int))) ?_ ?_ ?_ ?_
  ·exact⟨none,rfl,qA2 hp _,qA1⟩
  ·rintro i σ Hc hi ⟨v,rfl,sm,_⟩;exact SqT.of (sm _ _ n)
  ·refineλi x σ Hc hx a1=>opq λa7 a2=>?_;obtain⟨v,rfl,sm,j⟩:=a1;obtain⟨y,ey,rfl⟩:=qB1 hx;refine a2 ?_;have hi:=(A3.mp ey).1;have lk:=qCH (p:=λx=>decide (x≠c)) (l:=d) (i:=i);refine⟨_,rfl,_,rfl,mv,_,_,_,rfl,rfl,SqT.of (sm _ _ o),rfl,rfl,_,rfl,?_⟩;rw[qCN ey];by_cases e:y=c
   ·rw[decide_eq_true (show V.int y=V.int c by rw[e]),decide_eq_false (show¬y≠c fromλz=>z e)]
    refine⟨_,rfl,sm,?_⟩;simpa using j
   ·rw[decide_eq_false (show¬V.int y=V.int c fromλz=>e (V.int.inj z)),decide_eq_true (show y≠c from e)];refine⟨_,rfl,_,j,qAI (by rw[A0];lia),_,rfl,qAB sm hp,?_⟩
    rw[qA1,if_pos rfl,B0]
    rfl
  ·refineλσ Hc a5=>opq λa9 a4=>?_;obtain⟨v,rfl,sm,j⟩:=a5;refine a4 ?_;rw[A0,qAT rfl] at j;refine⟨p,_,rfl,.inl ⟨SqL.of j,λr m=>?_⟩⟩;refine q r _ _ (sm.trans (qA2 m _)) qA1 ⟨λz=>?_,λ_=>rfl⟩;rw[hd] at z;exact absurd z qAF
theorem qJB:FnScope ["stand","move"] ["stand","move"] (qAA qCP):=qBK
theorem ok_stand_behind (F:Fun K "stand_behind" "stand_behind" qCP f fd) (qBQ:mg "sorted" = none) (a0:mg "tuple" = none):FnOk P w K mg base CX0 1 f fd ["stand","move"] qF1:=by
 refine F.okA qJB λa9 A a6 s H vs Q E m h=>?_;obtain⟨so,mv,d,Ac,c,rfl,n,lst,o,t,q⟩:=h;refine⟨_,(qA4 (qBP (qAM qED (qB5 qBI (pv 1) qA7 (λ_ _=>rfl)) qBO (qAS _)) (qA5 (qAG (qAH qAK rfl a0 qAU (qA0 (qA9 (qET rfl) rfl qBQ qD0 (qA0 (qAO qPL (pv 0) (qB7 (qA0 (qB5 qBI (pv 1) qA7 (λ_ _=>rfl)) qA3))) qA3)) qA3)))) qAL) (qA5 (qAG (qAH qAK rfl a0 qAU (qA0 (qC4 rfl (lcs (own:=["result"]) (fv:=[1]) (by kernel_rfl)) (qCJ (pv 0)) (λz2=>qBR 0) (λz2=>(qEJ (qAM qNL (pv 0) (qB5 (qEK (K:=K) rfl) (pv 1) qA7 (λ_ _=>rfl)) (qAS _)))) (λz2=>(pv 0))) qA3))))),?_⟩
 try dsimp only[Cx.nox,Cx.wish,cxOf]
 refine⟨_,rfl,mv,_,_,_,rfl,rfl,SqT.of o,rfl,rfl,_,rfl,?_⟩;refine ite2 (λck=>?_) (λck=>?_)
 ·have hd:Ac = "do":=V.str.inj (of_decide_eq_true ck)
  refine⟨_,rfl,_,rfl,mv,_,_,_,rfl,rfl,SqT.of o,rfl,(by show 1<=B14;decide),λT hT=>?_⟩
  have sT:=qA2 hT (.tup [.int c]);have a3:∀(p:Addr) (H1:Hp),Same H H1->H1 p=some (.tup ((d++[c]).map V.int))->∀(b:Addr) (zs:List Int),H1 b=none->zs.Perm (d++[c])->zs.Pairwise (·<=·)->∀r,(Ag H1 b (.lst (zs.map V.int))) r=none->Q (.ref r) (Ag (Ag H1 b (.lst (zs.map V.int))) r (.tup (zs.map V.int))):=by
   intro p H1 s1 hp b zs u k hs r m;refine q r zs _ (s1.trans ((qA2 u _).trans (qA2 m _))) qA1 ⟨λ_=>⟨k,hs⟩,λz=>?_⟩;rw[hd] at z;exact absurd z.symm qAF
  refine⟨so,T,d.map V.int,[.int c],rfl,rfl,SqT.of (sT _ _ n),SqT.of qA1,by simp,R6 (qAW (by rw[A0,B3];lia)),λz=>?_,λz p hp=>?_⟩
  ·have e:d=[]:=l5.mp z;have g:(Ag H T (.tup [.int c])) T=some (.tup ((d++[c]).map V.int)):=by rw[qA1,e];rfl
   exact⟨T,d++[c],rfl,.inr (.inl (SqT.of g)),(by rw[A8,B3];lia),λb zs u k hs=>⟨b,_,rfl,.inl ⟨SqL.of qA1,λr m=>a3 T _ sT g b zs u k hs r m⟩⟩⟩
  ·have g:(Ag (Ag H T (.tup [.int c])) p (.tup (d.map V.int++[.int c]))) p=some (.tup ((d++[c]).map V.int)):=by rw[qA1,B0];rfl
   exact⟨p,d++[c],rfl,.inr (.inl (SqT.of g)),(by rw[A8,B3];lia),λb zs u k hs=>⟨b,_,rfl,.inl ⟨SqL.of qA1,λr m=>a3 p _ (sT.trans (qA2 hp _)) g b zs u k hs r m⟩⟩⟩
 ·have hd:Ac = "clear":=t.resolve_left λe=>(of_decide_eq_false (F5.mpr ck)) (congrArg V.str e);refine⟨_,rfl,so,rfl,⟨_,SqT.of n⟩,λp hp=>?_⟩;refine qD7 (p:=p) (a:=so) (xs:=d.map V.int) (λi σ Hc=>∃(v:Option V),σ=[v,some (.ref mv)]/\Same H Hc/\Hc p=some (.lst (((d.take i).filter λx=>decide (x≠c)).map V.int))) ?_ ?_ ?_ ?_
  ·exact⟨none,rfl,qA2 hp _,qA1⟩
  ·rintro i σ Hc hi ⟨v,rfl,sm,_⟩;exact SqT.of (sm _ _ n)
  ·refineλi x σ Hc hx a2=>opq λa7 a4=>?_;obtain⟨v,rfl,sm,j⟩:=a2;obtain⟨y,ey,rfl⟩:=qB1 hx;refine a4 ?_;have hi:=(A3.mp ey).1;have lk:=qCH (p:=λx=>decide (x≠c)) (l:=d) (i:=i);refine⟨_,rfl,_,rfl,mv,_,_,_,rfl,rfl,SqT.of (sm _ _ o),rfl,rfl,_,rfl,?_⟩;rw[qCN ey];by_cases e:y=c
   ·rw[decide_eq_true (show V.int y=V.int c by rw[e]),decide_eq_false (show¬y≠c fromλz=>z e)]
    refine⟨_,rfl,sm,?_⟩;simpa using j
   ·rw[decide_eq_false (show¬V.int y=V.int c fromλz=>e (V.int.inj z)),decide_eq_true (show y≠c from e)];refine⟨_,rfl,_,j,qAI (by rw[A0];lia),_,rfl,qAB sm hp,?_⟩
    rw[qA1,if_pos rfl,B0]
    rfl
  ·refineλσ Hc a1=>opq λa8 a5=>?_;obtain⟨v,rfl,sm,j⟩:=a1;refine a5 ?_;rw[A0,qAT rfl] at j;refine⟨p,_,rfl,.inl ⟨SqL.of j,λr m=>?_⟩⟩;refine q r _ _ (sm.trans (qA2 m _)) qA1 ⟨λz=>?_,λ_=>rfl⟩;rw[hd] at z;exact absurd z qAF
theorem sc_moves_of:FnScope ["net","rooms","stand","dos","clears"] ["net","rooms","stand"] (qAA qFP):=qBK
theorem ok_moves_of (F:Fun K "moves_of" "moves_of" qFP f fd) (al:Clb P w K mg base 2 qFX qK0 "fault_of" ["net","rooms","stand","move"] qJ9)
  (qB4:mg "range" = none) (ab:mg "len" = none):FnOk P w K mg base CX0 3 f fd ["net","rooms","stand"] qN8:=by
 refine F.okA sc_moves_of λau A ak s H vs Q E hr h=>?_;obtain⟨a,so,b,st,z,rfl,hN,wf,ai,af,lst,q⟩:=h;have ar:Room 2 _:=hr;refine⟨_,(qA4 (qPA (i:=3) sc_moves_of.nd rfl rfl rfl (lcs (own:=["work"]) (fv:=[]) (by kernel_rfl)) (qBH rfl qB4 (qA0 (qA9 qAC rfl ab qBD (qA0 (pv 0) qA3)) qA3)) (λz1=>qBR 0) (λz1=>qAY) (λz1=>(qB7 (qA0 qBO (qA0 (pv 0) qA3)))) (by kernel_rfl)) (qA4 (qPA (i:=4) sc_moves_of.nd rfl rfl rfl (lcs (own:=["work"]) (fv:=[]) (by kernel_rfl)) (qBH rfl qB4 (qA0 (qA9 qAC rfl ab qBD (qA0 (pv 0) qA3)) qA3)) (λz2=>qBR 0) (λz2=>qAY) (λz2=>(qB7 (qA0 qBO (qA0 (pv 0) qA3)))) (by kernel_rfl)) (qA5 (qAG (qC4 rfl (lcs (own:=["move"]) (fv:=[0,1,2]) (by kernel_rfl)) (qBW (qAO qL2 (pv 3) (pv 4))) (λz3=>qBR 0) (λz3=>(qEJ (qDY (qNJ (qAR al hr rfl (qA0 (pv 1) (qA0 (pv 2) (qA0 (pv 3) (qA0 (pv 0) qA3))))))))) (λz3=>(pv 0))))))),?_⟩
 try dsimp only[Cx.nox,Cx.wish,cxOf]
 obtain⟨rs,hA,NL⟩:=id hN;have d:(((rs.map V.ref).length:Nat):Int)=(b.length:Int):=by rw[A0,B6 NL]
 refine⟨_,rfl,a,_,rfl,.inr (SqT.of hA),_,rfl,by rw[d];lia,by rw[d];lia,λp hp=>?_⟩
 refine qDZ (p:=p) (lo:=0) (n:=((((rs.map V.ref).length:Nat):Int)).toNat) (λi σ Hc=>∃(v:Option V) (rd:List Addr),σ=[v]/\Same H Hc/\Hc p=some (.lst (rd.map V.ref))/\MovL Hc rd (qJP "do" i)) ?_ ?_ ?_
 ·exact⟨none,[],rfl,qA2 hp _,qA1,.nil⟩
 ·refineλi σ Hc hi ae=>opq λam a9=>?_;obtain⟨v,rd,rfl,sm,t,ML⟩:=ae;refine a9 ?_;rw[d] at hi;refine⟨_,rfl,(by show 2<=B14;decide),λmv e=>?_⟩
  have r:=qA2 e (.tup [.str "do",.int (0+(i:Int))])
  have ll:=B6 ML;rw[qF5] at ll;refine⟨_,r _ _ t,qAI (by rw[A0];lia),_,rd++[mv],rfl,qAB (sm.trans r) hp,?_,?_⟩
  ·rw[qA1,qB2]
  ·rw[qL3];exact((ML.same r).snoc qA1).put (r _ _ t)
 ·refineλσ Hc a2=>opq λas a6=>?_;obtain⟨v,rd,rfl,sm,t,ML⟩:=a2;refine a6 ?_;rw[show((((rs.map V.ref).length:Nat):Int)).toNat=b.length by rw[d];lia] at ML
  refine⟨_,rfl,a,_,rfl,.inr (SqT.of (sm _ _ hA)),_,rfl,by rw[d];lia,by rw[d];lia,λp2 a4=>?_⟩
  refine qDZ (p:=p2) (lo:=0) (n:=((((rs.map V.ref).length:Nat):Int)).toNat) (λi σ u=>∃(v:Option V) (re:List Addr),σ=[v]/\Same Hc u/\u p2=some (.lst (re.map V.ref))/\MovL u re (qJP "clear" i)) ?_ ?_ ?_
  ·exact⟨none,[],rfl,qA2 a4 _,qA1,.nil⟩
  ·refineλi σ u hi a8=>opq λan a7=>?_;obtain⟨v,re,rfl,g,o,ME⟩:=a8;refine a7 ?_;rw[d] at hi;refine⟨_,rfl,(by show 2<=B14;decide),λmv e=>?_⟩
   have r:=qA2 e (.tup [.str "clear",.int (0+(i:Int))]);have ll:=B6 ME;rw[qF5] at ll;refine⟨_,r _ _ o,qAI (by rw[A0];lia),_,re++[mv],rfl,qAB (g.trans r) a4,?_,?_⟩
   ·rw[qA1,qB2]
   ·rw[qL3];exact((ME.same r).snoc qA1).put (r _ _ o)
  ·refineλσ u a5=>opq λaq ad=>?_;obtain⟨v,re,rfl,g,o,ME⟩:=a5;refine ad ?_;rw[show((((rs.map V.ref).length:Nat):Int)).toNat=b.length by rw[d];lia] at ME
   have l1:=B6 ML;have l2:=B6 ME;rw[qF5] at l1 l2;refine⟨_,rfl,_,rfl,p,p2,_,_,rfl,rfl,g _ _ t,o,?_,λl hl=>?_⟩
   ·rw[A0,A0,B16];lia
   have sl:=qA2 hl (.lst (rd.map V.ref++re.map V.ref));have MA:MovL (Ag u l (.lst (rd.map V.ref++re.map V.ref))) (rd++re) (qMP b.length):=((ML.same g).app ME).same sl;have gl:(Ag u l (.lst (rd.map V.ref++re.map V.ref))) l=some (.lst ((rd++re).map V.ref)):=by rw[qA1,B0]
   have j:=(sm.trans g).trans sl;generalize Ag u l (.lst (rd.map V.ref++re.map V.ref))=He at MA gl j ⊢;have lE:(rd++re).length=b.length+b.length:=by rw[A8,l1,l2]
   refine⟨l,rfl,⟨_,SqL.of gl⟩,λp3 y=>?_⟩;refine qDO (p:=p3) (a:=l) (xs:=(rd++re).map V.ref) (λi σ Hf=>∃(v:Option V) (rk:List Addr),σ=[v,some (.ref a),some (.int z),some (.ref so)]/\Same He Hf/\Hf p3=some (.lst (rk.map V.ref))/\MovL Hf rk (((qMP b.length).take i).filter λm=>decide (wd b st z m=.non))) ?_ ?_ ?_ ?_
   ·exact⟨none,[],rfl,qA2 y _,qA1,.nil⟩
   ·rintro i σ Hf hi ⟨v,rk,rfl,sm3,_⟩;exact SqL.of (sm3 _ _ gl)
   ·refineλi x σ Hf hx aa=>opq λap a3=>?_;obtain⟨v,rk,rfl,sm3,k,MK⟩:=aa;obtain⟨mv,e,rfl⟩:=qBZ hx;refine a3 ?_;have hi:i<b.length+b.length:=by rw[<- lE];exact(A3.mp e).1
    obtain⟨m,hm,em⟩:=qAQ MA e;obtain⟨hw,m0,m1⟩:=qRZ (B1 hm);have ag:m.2.toNat<b.length:=by lia
    have a0:=A4 ag;have rz:=wf _ _ a0;have lk:=B6 MK;have aj:=J5 (λm=>decide (wd b st z m=.non)) ((qMP b.length).take i);rw[C4,qO2] at aj;have ah:wd b st z m=qCD b[m.2.toNat] st z m.1 m.2:=by unfold wd;rw[a0];rfl
    refine⟨_,rfl,_,rfl,_,rfl,_,rfl,a,so,mv,b,st,b[m.2.toNat],z,m.2,m.1,rfl,hN.same (j.trans sm3),(j.trans sm3) _ _ af,lst,sm3 _ _ em,hw,m0,a0,?_,λHg c=>⟨_,rfl,?_⟩⟩
    ·have:=rz.len;lia
    rw[<- ah,qCN hm];by_cases hd:wd b st z m=.non
    ·rw[hd];refine⟨_,rfl,_,c _ _ k,(by rw[A0,B16];lia),_,rk++[mv],rfl,qAB (sm3.trans c) y,?_,?_⟩
     ·rw[qA1,qB2]
     ·exact((MK.same c).snoc (c _ _ (sm3 _ _ em))).put (c _ _ k)
    ·rw[decide_eq_false hd];refine⟨_,rk,rfl,sm3.trans c,c _ _ k,?_⟩;simpa using MK.same c
   ·refineλσ Hf a1=>opq λao ac=>?_;obtain⟨v,rk,rfl,sm3,k,MK⟩:=a1;refine ac ?_;rw[E7 (by rw[A0,lE,qO2];exact A7 _)] at MK
    exact q p3 rk Hf (j.trans sm3) (j.free y) k MK
theorem qSQ:FnScope ["results","works"] ["results","works"] (qAA qGL):=qBK
theorem ok_has_all (F:Fun K "has_all" "has_all" qGL f fd) (a2:mg "all" = none):FnOk P w K mg base CX0 1 f fd ["results","works"] qU3:=by
 refine F.okA qSQ λa6 A a1 s H vs Q E hr h=>?_;obtain⟨b,a,t,j,y,rfl,a0,hT,l1,q⟩:=h;refine⟨_,(qA5 (qAG (qA9 (qH9 rfl) rfl a2 qOH (qA0 (qC4 rfl (lcs (own:=["work"]) (fv:=[0]) (by kernel_rfl)) (qdS (pv 1)) (λz1=>qBR 0) (λz1=>qAY) (λz1=>(qD3 (qV1 (K:=K) rfl) (pv 0) (pv 1) (by with_unfolding_all rfl)))) qA3)))),?_⟩
 try dsimp only[Cx.nox,Cx.wish,cxOf]
 refine⟨_,rfl,b,t,rfl,⟨_,sqo hT⟩,λp hp=>?_⟩;refine qdZ (b:=b) (p:=p) (a:=t) (xs:=y.map V.int) (λi σ d=>∃(v:Option V),σ=[v,some (.ref a)]/\Same H d/\d p=some (.lst (((y.take i).map λx=>decide (x∈j)).map V.bl))) ?_ ?_ ?_ ?_
 ·exact⟨none,rfl,qA2 hp _,qA1⟩
 ·refineλi σ d hi r=>opq λa5 u=>?_;obtain⟨v,rfl,g,_⟩:=r;refine u ?_;exact sqo (hT.same g)
 ·refineλi x σ d hx k=>opq λa4 m=>?_;obtain⟨v,rfl,g,c⟩:=k;obtain⟨z,ez,rfl⟩:=qB1 hx;refine m ?_;have hi:=(A3.mp ez).1;refine⟨_,rfl,_,rfl,a,_,rfl,.inr (SqT.of (g _ _ a0)),rfl,qDP j,_,c,qAI (by rw[A0,A0,C4];lia),_,rfl,qAB g hp,?_⟩
  rw[qA1];refine congrArg (λl=>some (HO.lst l)) ?_;rw[C6,ez,C8,B0,B0];show _++[V.bl (inV (.int z) (j.map V.int))]=_;rw[qGD]
  rfl
 ·refineλσ d o=>opq λa3 n=>?_;obtain⟨v,rfl,g,c⟩:=o;refine n ?_;rw[A0,E7 (A7 _)] at c;refine⟨p,_,rfl,SqL.of c,?_⟩;have e:((y.map λx=>decide (x∈j)).all id)=decide (∀x∈y,x∈j):=by
   rw[Q7,decide_eq_true_eq];exact all_in
  rw[e];exact q d g
theorem sc_played:FnScope ["net","rooms","plan","stand","stands","number","move","word"] ["net","rooms","plan"] (qAA qIQ):=qBK
theorem ok_played (F:Fun K "played" "played" qIQ f fd) (ah:Clb P w K mg base 2 qFX qK0 "fault_of" ["net","rooms","stand","move"] qJ9) (ae:Clb P w K mg base 1 qCT qFC "stand_behind" ["stand","move"] qF1) (ai:mg "enumerate" = none):FnOk P w K mg base CX0 3 f fd ["net","rooms","plan"] qP0:=by
 refine F.okA sc_played λar A ab s H vs Q E hr h=>?_;obtain⟨a,l,Ae,ms,o,am,rfl,⟨hN,wf,al,⟨rs,hl,M⟩,ao,a1,r0,an⟩,P0,q⟩:=h;refine⟨_,(qA4 (qAE (i:=3) sc_played.nd rfl (E1 rfl) (qB7 qA3)) (qA4 (qAE (i:=4) sc_played.nd rfl (E1 rfl) (qBX (qA0 (pv 3) qA3))) (qA4 (qBU D3 rfl (qPG rfl ai qE2 (qA0 (pv 2) qA3)) (qG4 rfl (qAV (qAN (i:=5) sc_played.nd rfl (E1 rfl)) (qAV (qAN (i:=6) sc_played.nd rfl (E1 rfl)) qD2))) (qA4 (qAE (i:=7) sc_played.nd rfl (E1 rfl) (qAR ah hr rfl (qA0 (pv 0) (qA0 (pv 1) (qA0 (pv 3) (qA0 (pv 6) qA3)))))) (qA4 (qBP (qDY (qMB (pv 7))) qJE qAL) (qA4 (qAE (i:=3) sc_played.nd rfl (E1 rfl) (qAR ae hr rfl (qA0 (pv 3) (qA0 (pv 6) qA3)))) (qA5 (qD1 (qJI E9 G1 G2 qC0 (pv 4) (qA0 (pv 3) qA3)))))))) (qA5 (qAG (pv 4)))))),?_⟩
 try dsimp only[Cx.nox,Cx.wish,cxOf]
 have ak:=B6 M;refine⟨(by show 0<=B14;decide),λe he=>?_⟩
 refine⟨_,rfl,(by show 1<=B14;decide),λls g=>?_⟩
 have s1:=qA2 he (.tup []);have s2:=s1.trans (qA2 g (.lst [.ref e]));have a0:H ls=none:=s1.free g;refine⟨_,rfl,l,rfl,⟨_,SqL.of (s2 _ _ hl)⟩,qZI (a:=l) (xs:=rs.map V.ref) (λk σ d=>∃(ss:List Addr) (sts:List (List Int)) (r:Addr) (st:List Int) (v5 v6 v7:Option V),σ=[some (.ref a),some (.int o),some (.ref l),some (.ref r),some (.ref ls),v5,v6,v7]/\Same H d/\d ls=some (.lst (ss.map V.ref))/\NetL d ss ([]::sts)/\d r=some (.tup (st.map V.int))/\(st.length:Int)<=o/\sts.length=k/\∀sts' v,Play Ae o st (ms.drop k) sts' v->Play Ae o [] ms (sts++sts') v)
  ⟨[e],[],e,[],none,none,none,rfl,s2,qA1,.cons ((qA2 g (.lst [.ref e])) _ _ qA1) .nil,(qA2 g (.lst [.ref e])) _ _ qA1,r0,rfl,λsts' v p=>p⟩ (λk σ d _ hP=>by obtain⟨_,_,_,_,_,_,_,_,sm,_⟩:=hP;exact SqL.of (sm _ _ hl)) ?_ ?_⟩
 ·refineλk x σ d T hx a5 hT=>opq λaq a6=>?_;obtain⟨ss,sts,r,st,v5,v6,v7,rfl,sm,y,N,u,a3,lk,go⟩:=a5;obtain⟨mv,aj,rfl⟩:=qBZ hx;obtain⟨⟨Ac,b⟩,hm,hH⟩:=qAQ M aj;refine a6 ?_;have hk:=(A3.mp hm).1;obtain⟨hw,a7,a9⟩:=a1 _ (B1 hm);dsimp only at hw a7 a9 hH;have ed:ms.drop k=(Ac,b)::ms.drop (k+1):=by
   obtain⟨ad,e⟩:=A3.mp hm;rw[Q4 ad,e]
  have aa:b.toNat<Ae.length:=by lia
  have n:=A4 aa;have a8:=(wf b.toNat _ n).len;generalize Ae[b.toNat]=ns at n a8;have t:wd Ae st o (Ac,b)=qCD ns st o Ac b:=by unfold wd;rw[n];rfl
  have sT:=qA2 hT (.tup [.int (k:Int),.ref mv]);refine⟨T,_,rfl,SqT.of qA1,rfl,_,_,rfl,_,_,rfl,rfl,?_⟩;generalize Ag d T (.tup [.int (k:Int),.ref mv])=Hd at sT ⊢;refine⟨_,rfl,_,rfl,_,rfl,_,rfl,a,r,mv,Ae,st,ns,o,b,Ac,rfl,hN.same (sm.trans sT),sT _ _ u,by lia,(sm.trans sT) _ _ hH,hw,a7,n,by lia,λH2 ac=>?_⟩
  have s2:=sT.trans ac;rcases qJ3 ns st o Ac b with e|⟨w0,e⟩
  ·rw[e];refine⟨_,rfl,_,rfl,?_⟩;rw[decide_eq_true (rfl:V.non=V.non)];refine⟨_,rfl,_,rfl,r,mv,st,Ac,b,rfl,s2 _ _ u,by lia,(sm.trans s2) _ _ hH,hw,λr' c H3 af gr bh=>?_⟩
   have s3:=s2.trans af;have j:=s3 _ _ y;have ag:=B6 N;rw[C3] at ag;refine⟨_,rfl,.inl ⟨rfl,_,SqL.of j⟩,_,rfl,ls,_,_,rfl,rfl,j,qAW (by rw[A0];lia),?_⟩
   rw[qB2];have N3:NetL H3 (ss++[r']) ([]::(sts++[c])):=T3 (NetL.sm N s3) gr;refine⟨ss++[r'],sts++[c],r',c,_,_,_,rfl,qAB (sm.trans s3) a0,qA1,NetL.put N3 j,?_,Beh.fits (m:=(Ac,b)) hw (t.trans e) bh a3,by rw[A8,B3,lk],λsts' v p=>?_⟩
   ·rw[qA8 (qCC gr j (by intro z;cases z))]
    exact gr
   ·rw[F3];exact go (c::sts') v (by rw[ed];exact .go (t.trans e) bh p)
  ·rw[e];have pl:=go [] (.str w0) (by rw[ed];exact .stop (t.trans e))
   cases(pl.one a1 P0).2
 ·refineλσ d a2=>opq λap a4=>?_;obtain⟨ss,sts,r,st,v5,v6,v7,rfl,sm,y,N,u,a3,lk,go⟩:=a2;refine a4 ?_;have pl:=go [] .non (by rw[A0,ak,A69];exact .nil)
  rw[K0] at pl;exact⟨_,rfl,q ls sts d sm pl a0 ⟨ss,y,N⟩⟩
theorem qP3:FnScope ["plan"] ["plan"] (qAA qFN):=qBK
theorem ok_steps_of (F:Fun K "steps_of" "steps_of" qFN f fd) (u:mg "len" = none):FnOk P w K mg base CX0 1 f fd ["plan"] qTX:=by
 refine F.okA qP3 λa3 A r s H vs Q E hr h=>?_;obtain⟨l,ms,rfl,⟨rs,hl,M⟩,a1,q⟩:=h;refine⟨_,(qA5 (qAG (qA9 qAC rfl u qBD (qA0 (qC4 rfl (lcs (own:=["move"]) (fv:=[]) (by kernel_rfl)) (qBW (pv 0)) (λz1=>qBR 0) (λz1=>(qEJ (qAM qED (qB5 (qEK (K:=K) rfl) (pv 0) qA7 (λ_ _=>rfl)) qBO (qAS _)))) (λz1=>(pv 0))) qA3)))),?_⟩
 try dsimp only[Cx.nox,Cx.wish,cxOf]
 have a0:=B6 M;refine⟨_,rfl,l,rfl,⟨_,SqL.of hl⟩,λp hp=>?_⟩;refine qDO (p:=p) (a:=l) (xs:=rs.map V.ref) (λi σ c=>∃(v:Option V) (fs:List Addr),σ=[v]/\Same H c/\c p=some (.lst (fs.map V.ref))/\fs.length=((ms.take i).filter isDo).length) ?_ ?_ ?_ ?_
 ·exact⟨none,[],rfl,qA2 hp _,qA1,rfl⟩
 ·rintro i σ c hi ⟨v,fs,rfl,sm,_⟩;exact SqL.of (sm _ _ hl)
 ·refineλi x σ c hx g=>opq λa2 j=>?_;obtain⟨v,fs,rfl,sm,b,d⟩:=g;obtain⟨mv,y,rfl⟩:=qBZ hx;obtain⟨⟨n,wk⟩,hm,hH⟩:=qAQ M y;refine j ?_;dsimp only at hH;have hi:=(A3.mp hm).1;have lk:=qZJ (p:=isDo) (l:=ms) (i:=i);refine⟨_,rfl,mv,_,_,_,rfl,rfl,SqT.of (sm _ _ hH),rfl,rfl,_,rfl,?_⟩;rw[qCN hm];refine ite2 (λo=>?_) (λo=>?_)
  ·have t:n = "do":=V.str.inj (of_decide_eq_true o)
   refine⟨_,rfl,_,b,qAW (by rw[A0];lia),_,fs++[mv],rfl,qAB sm hp,?_,?_⟩
   ·rw[qA1,B0];rfl
   ·rw[if_pos (show isDo (n,wk)=true from decide_eq_true t),A8,A8,d];rfl
  ·have t:¬n = "do":=λe=>o (decide_eq_true (congrArg V.str e))
   refine⟨_,fs,rfl,sm,b,?_⟩;rw[if_neg (show¬isDo (n,wk)=true fromλz=>t (of_decide_eq_true z)),K0,d]
 refineλσ c m=>opq λa4 k=>?_;obtain⟨v,fs,rfl,sm,b,d⟩:=m;refine k ?_;rw[A0,a0,qAT rfl] at d;refine⟨p,_,rfl,.inl (SqL.of b),?_⟩;have e:(((fs.map V.ref).length:Nat):Int)=doN ms:=by rw[A0,d];rfl
 rw[e];exact q c sm
theorem qSP:FnScope ["net","plan"] ["net","plan"] (qAA qGJ):=qBK
theorem ok_most_of (F:Fun K "most_of" "most_of" qGJ f fd) (a0:Clb P w K mg base 3 qIY qO1 "played" ["net","rooms","plan"] qP0) (m:mg "len" = none) (a5:mg "max" = none):FnOk P w K mg base CX0 4 f fd ["net","plan"] qU2:=by
 refine F.okA qSP λab A a2 s H vs Q E hr h=>?_;obtain⟨a,l,y,ms,e,rfl,PI,P0,q⟩:=h;refine⟨_,(qA5 (qAG (qA9 (qK8 rfl) rfl a5 qS7 (qA0 (qC4 rfl (lcs (own:=["stand"]) (fv:=[]) (by kernel_rfl)) (qBW (qAR a0 hr rfl (qA0 (pv 0) (qA0 (qA9 qAC rfl m qBD (qA0 (pv 0) qA3)) (qA0 (pv 1) qA3))))) (λz1=>qBR 0) (λz1=>qAY) (λz1=>(qA9 (qOE (K:=K) rfl) rfl m qBD (qA0 (pv 0) qA3)))) qA3)))),?_⟩
 try dsimp only[Cx.nox,Cx.wish,cxOf]
 obtain⟨rs,hA,NL⟩:=id PI.1;have a4:(((rs.map V.ref).length:Nat):Int)=(y.length:Int):=by rw[A0,B6 NL]
 refine⟨_,rfl,_,rfl,a,_,rfl,.inr (SqT.of hA),_,rfl,a,l,y,ms,(y.length:Int),e,by rw[a4];rfl,PI,P0,λls d H1 a1 pl a7 SA=>?_⟩
 obtain⟨ks,j,NK⟩:=id SA;have t:=B6 NK;have aa:=pl.len;have a8:=PI.2.2.2.2.1;rw[C3] at t;refine⟨ls,rfl,⟨_,SqL.of j⟩,λp hp=>?_⟩;refine qDO (p:=p) (a:=ls) (xs:=ks.map V.ref) (λi σ c=>∃(v:Option V),σ=[v]/\Same H1 c/\c p=some (.lst ((lens (([]::d).take i)).map V.int))) ?_ ?_ ?_ ?_
 ·exact⟨none,rfl,qA2 hp _,qA1⟩
 ·rintro i σ c hi ⟨v,rfl,sm,_⟩;exact SqL.of (sm _ _ j)
 ·refineλi x σ c hx k=>opq λa9 n=>?_;obtain⟨v,rfl,sm,b⟩:=k;obtain⟨r,a3,rfl⟩:=qBZ hx;obtain⟨z,ez,g⟩:=qAQ NK a3;refine n ?_;have hi:=(A3.mp ez).1;rw[C3] at hi;refine⟨_,rfl,r,_,rfl,.inr (SqT.of (sm _ _ g)),_,b,qAW (by unfold lens;rw[A0,A0,C4];lia),_,rfl,qAB sm hp,?_⟩
  rw[qA1];refine congrArg (λl=>some (HO.lst l)) ?_;rw[qJ6 ez];unfold lens;rw[B0,B0,A0]
  rfl
 ·refineλσ c u=>opq λa6 o=>?_;obtain⟨v,rfl,sm,b⟩:=u;refine o ?_;rw[A0,t,qAT (by rw[C3])] at b
  refine⟨p,_,_,rfl,SqL.of b,rfl,q d _ c (a1.trans sm) pl rfl⟩
theorem sc_does:FnScope ["net","rooms","plan","asked","stands"] ["net","rooms","plan","asked"] (qAA qR5):=qBK
theorem ok_does (F:Fun K "does" "does" qR5 f fd) (g:Clb P w K mg base 3 qIY qO1 "played" ["net","rooms","plan"] qP0) (qEG:Clb P w K mg base 1 qH5 qLB "has_all" ["results","works"] qU3):FnOk P w K mg base CX0 4 f fd ["net","rooms","plan","asked"] qU5:=by
 refine F.okA sc_does λa0 A j s H vs Q E k h=>?_;obtain⟨a,l,t,v,ms,Aa,Ad,m,rfl,u,e,hT,l1,d,q⟩:=h;refine⟨_,(qA4 (qbJ (i:=4) sc_does.nd rfl (E1 rfl) g k rfl (qA0 (pv 0) (qA0 (pv 1) (qA0 (pv 2) qA3)))) (qA5 (qAG (qAR qEG k rfl (qA0 (qB5 qCF (pv 4) (qKH qG1 qA7) (λ_ _=>rfl)) (qA0 (pv 3) qA3)))))),?_⟩
 try dsimp only[Cx.nox,Cx.wish,cxOf]
 obtain⟨b,o,el,_⟩:=e.play .nil;refine⟨_,rfl,_,rfl,_,rfl,a,l,v,ms,Aa,b,rfl,u,o,λls x H1 n pl z SA=>?_⟩;obtain⟨ks,c,NK⟩:=id SA;obtain⟨ss,r,y,p⟩:=qVR NK;rw[y] at c;rw[(pl.one u.2.2.2.2.2.1 o).1,el] at p;refine⟨_,rfl,_,rfl,ls,_,_,_,rfl,rfl,SqL.of c,by rw[B0];exact qIZ _ _,?_⟩
 refine⟨_,rfl,true,r,t,_,Ad,rfl,p,.inl (n _ _ hT),l1,λH2 s2=>?_⟩;rw[decide_eq_true d];exact q H2 (n.trans s2)
theorem sc_stands_reached:FnScope ["net","rooms","reached","due","later","stand","move","further","steps"] ["net","rooms"] (qAA qAJ):=qBK
theorem ok_stands_reached (F:Fun K "stands_reached" "stands_reached" qAJ f fd) (bv:Clb P w K mg base 3 qHX qQ6 "moves_of" ["net","rooms","stand"] qN8) (c3:Clb P w K mg base 1 qCT qFC "stand_behind" ["stand","move"] qF1):FnOk P w K mg base CX0 4 f fd ["net","rooms"] qQZ:=by
 refine F.okA sc_stands_reached λcf A c2 s H vs Q E hr h=>?_;obtain⟨a,Ae,Aa,rfl,hN,wf,br,q⟩:=h;have hu:=qHR hr;have c4:Room 3 _:=hr;have bu:qBC qAJ=[.Assign [.Name "reached" ⟨115,4,115,11⟩] (.Dict [some (kOf ((qBC qAJ).getD 0 (.Pass ⟨0,0,0,0⟩)))] [vOf ((qBC qAJ).getD 0 (.Pass ⟨0,0,0,0⟩))] ⟨115,14,115,35⟩) ⟨115,4,115,35⟩,(qBC qAJ).getD 1 (.Pass ⟨0,0,0,0⟩),(qBC qAJ).getD 2 (.Pass ⟨0,0,0,0⟩),(qBC qAJ).getD 3 (.Pass ⟨0,0,0,0⟩)]:=by kernel_rfl
 have hk:∀X:Cx,PE X (kOf ((qBC qAJ).getD 0 (.Pass ⟨0,0,0,0⟩))) (tTup tNil):=λX=>qbO ⟨_,_,rfl⟩;have hv:∀X:Cx,PE X (vOf ((qBC qAJ).getD 0 (.Pass ⟨0,0,0,0⟩))) (tTup (qN4 (tC (.int 0)) (qN4 (tC .non) (qN4 (tC .non) tNil)))):=λX=>qUN ⟨_,_,_,_,_,_,_,_,rfl⟩;rw[bu];generalize kOf ((qBC qAJ).getD 0 (.Pass ⟨0,0,0,0⟩))=k0 at hk ⊢;generalize vOf ((qBC qAJ).getD 0 (.Pass ⟨0,0,0,0⟩))=v9 at hv ⊢;refine⟨_,(qA4 (qAE (i:=2) sc_stands_reached.nd rfl (E1 rfl) (qUO hu (hk _) (hv _))) (qA4 (qAE (i:=3) sc_stands_reached.nd rfl (E1 rfl) (qBX (qA0 (qB7 qA3) qA3))) (qA4 (qFS D3 (qY9 (pv 3) (λ_=>rfl)) (qA4 (qAE (i:=4) sc_stands_reached.nd rfl (E1 rfl) (qBX qA3)) (qA4 (qBU D3 rfl (qBW (pv 3)) (qAN (i:=5) sc_stands_reached.nd rfl (E1 rfl)) (qA5 (qBU D3 rfl (qBW (qAR bv hr rfl (qA0 (pv 0) (qA0 (pv 1) (qA0 (pv 5) qA3))))) (qAN (i:=6) sc_stands_reached.nd rfl (E1 rfl)) (qA4 (qAE (i:=7) sc_stands_reached.nd rfl (E1 rfl) (qAR c3 hr rfl (qA0 (pv 5) (qA0 (pv 6) qA3)))) (qA5 (qBP (qDY (qGU hu (pv 7) (pv 2))) (qA4 (qAE (i:=8) sc_stands_reached.nd rfl (E1 rfl) (qAO qC7 (qB5 qBI (qCE hu (pv 2) (pv 5) (λ_ _=>rfl)) qA7 (λ_ _=>rfl)) (qGS (qAM qED (qB5 qBI (pv 6) qA7 (λ_ _=>rfl)) qBO (qAS _)) qA7 qA7))) (qA4 (qE4 hu (pv 2) (pv 7) (qB7 (qA0 (pv 8) (qA0 (pv 5) (qA0 (pv 6) qA3)))) rfl) (qA5 (qD1 (qJI E9 G1 G2 qC0 (pv 4) (qA0 (pv 7) qA3)))))) qAL)))))) (qA5 (qAE (i:=3) sc_stands_reached.nd rfl (E1 rfl) (pv 4)))))) (qA5 (qAG (qbP (pv 2))))))),?_⟩
 try dsimp only[Cx.nox,Cx.wish,cxOf]
 have pw:2^Ae.length<=2^12:=R4 (by decide) br
 intro j ai;refine⟨(by show 0<=B14;decide),λe0 bn=>?_⟩
 refine⟨(by show 3<=B14;decide),λv0 b2=>?_⟩
 have s1:=qA2 ai (.dT []);have s2:=qA2 bn (.tup []);have s3:=qA2 b2 (.tup [.int 0,.non,.non]);have g1:(Ag (Ag (Ag H j (.dT [])) e0 (.tup [])) v0 (.tup [.int 0,.non,.non])) j=some (.dT []):=s3 _ _ (s2 _ _ qA1);have g2:(Ag (Ag (Ag H j (.dT [])) e0 (.tup [])) v0 (.tup [.int 0,.non,.non])) e0=some (.tup (([]:List Key).map kV)):=s3 _ _ qA1;have g3:(Ag (Ag (Ag H j (.dT [])) e0 (.tup [])) v0 (.tup [.int 0,.non,.non])) v0=some (.tup [.int ((0:Nat):Int),.non,.non]):=qA1;have sA:=s1.trans (s2.trans s3);generalize Ag (Ag (Ag H j (.dT [])) e0 (.tup [])) v0 (.tup [.int 0,.non,.non])=H1 at g1 g2 g3 sA;refine⟨g1,e0,[],rfl,g2,?_⟩;have b:EntZ H1 [([],.ref v0)] [[]] (λ_=>0) (PrvH Ae Aa [[]] λ_=>0):=⟨λ_=>none,.cons ⟨rfl,v0,rfl,g3⟩ .nil,PrvH.start⟩;have b:=b.put (u:=.dT [([],.ref v0)]) g1 (λxs z=>by cases z)
 have sB:Same H (Ag H1 j (.dT [([],.ref v0)])):=qAB sA ai;have g4:(Ag H1 j (.dT [([],.ref v0)])) j=some (.dT [([],.ref v0)]):=qA1;have ac:H j=none:=ai;refine⟨(by show 0<=B14;decide),λe1 bt=>⟨(by show 1<=B14;decide),λdu bw=>?_⟩⟩
 have s5:=qA2 bt (.tup []);have s6:=qA2 bw (.lst [.ref e1]);have sC:=sB.trans (s5.trans s6);have ad:=(b.same s5).same s6;have g5:=s6 _ _ (s5 _ _ g4);have g6:(Ag (Ag (Ag H1 j (.dT [([],.ref v0)])) e1 (.tup [])) du (.lst [.ref e1])) du=some (.lst ([e1].map V.ref)):=qA1;have g7:StL (Ag (Ag (Ag H1 j (.dT [([],.ref v0)])) e1 (.tup [])) du (.lst [.ref e1])) [e1] [[]]:=.cons (s6 _ _ qA1) .nil;generalize Ag (Ag (Ag H1 j (.dT [([],.ref v0)])) e1 (.tup [])) du (.lst [.ref e1])=H2 at sC ad g5 g6 g7;clear s1 s2 s3 g1 g2 g3 sA b sB g4 s5 s6 bn b2 ai;refine⟨λm σ Hc=>∃(du:Addr) (dr:List Addr) (due ks:List (List Int)) (f:List Int->Nat) (Af:List (List Key×V)) (t:Nat) (v4 v5 v6 v7 v8:Option V),σ=[some (.ref a),some (.int Aa),some (.ref j),some (.ref du),v4,v5,v6,v7,v8]/\m=(2^Ae.length-ks.length)*2+(if due=[] then 0 else 1)/\Same H Hc/\Hc j=some (.dT Af)/\EntZ Hc Af ks f (PrvH Ae Aa ks f)/\Hc du=some (.lst (dr.map V.ref))/\StL Hc dr due/\BF Ae Aa t ks due [] f 0 0,
  ⟨_,du,[e1],[[]],[[]],λ_=>0,_,0,none,none,none,none,none,rfl,rfl,sC,g5,ad,g6,g7,BF.start⟩,?_⟩
 clear sC g5 ad g6 g7;refineλm σ Hc bo=>opq λc8 bf=>?_;obtain⟨du,dr,due,ks,f,Af,t,v4,v5,v6,v7,v8,rfl,rfl,sm,d,b,n,SD,B⟩:=bo;refine bf ?_;refine⟨_,rfl,_,.inl ⟨_,SqL.of n,rfl⟩,?_⟩;have av:dr.length=due.length:=B6 SD;by_cases hz:due=[]
 ·subst hz;have:dr=[]:=M7.mp av;subst this;refine iteF ?_;obtain⟨g,eX,b1⟩:=b.ex;exact⟨_,rfl,j,Af,rfl,d,λo=>q j o Af ks f g _ (qAB sm ac) ac qA1 (eX.put d λxs z=>by cases z) B.rch b1⟩
 ·have ne:(!(dr.map V.ref).isEmpty)=true:=by
   cases dr with
   |nil=>exact absurd (M7.mp av.symm) hz
   |cons _ _=>rfl
  dsimp only;rw[if_pos ne];have bs:=B.len;have ln:=b.len;refine qVB λN0 bj=>?_;refine⟨(by show 0<=B14;decide),λll ag=>?_⟩
  have s7:=qA2 ag (.lst []);have bx:H ll=none:=sm.free ag;have ar:ll≠j/\ll≠du:=⟨(qA6 d ag).symm,(qA6 n ag).symm⟩;have b7:j≠du:=qCC d n (by intro z;cases z)
  obtain⟨k0,aw⟩:∃k0,k0=ks.length:=⟨_,rfl⟩;rw[<- aw] at bj;refine⟨_,rfl,du,rfl,⟨_,SqL.of (s7 _ _ n)⟩,qJX (a:=du) (xs:=dr.map V.ref) (λi σ Hd=>∃(lr:List Addr) (ly ks:List (List Int)) (f:List Int->Nat) (Af:List (List Key×V)) (v5 v6 v7 v8:Option V),σ=[some (.ref a),some (.int Aa),some (.ref j),some (.ref du),some (.ref ll),v5,v6,v7,v8]/\Same H Hd/\Hd j=some (.dT Af)/\EntZ Hd Af ks f (PrvH Ae Aa ks f)/\Hd du=some (.lst (dr.map V.ref))/\StL Hd dr due/\Hd ll=some (.lst (lr.map V.ref))/\StL Hd lr ly/\BF Ae Aa t ks due ly f i 0/\ks.length=k0+ly.length)
   ⟨[],[],ks,f,Af,v5,v6,v7,v8,rfl,sm.trans s7,s7 _ _ d,b.same s7,s7 _ _ n,SD.same s7,qA1,.nil,B,aw.symm⟩ (by rintro i σ Hd _ ⟨_,_,_,_,_,_,_,_,_,_,_,_,_,z,_⟩;exact SqL.of z) ?_ ?_⟩
  ·clear s7 d b n SD B sm ln bs aw;refineλi x σ Hd hx b4 N1 bp=>opq λcd ba=>?_;obtain⟨lr,ly,ks,f,Af,v5,v6,v7,v8,rfl,sm,d,b,n,SD,a0,SL,B,a2⟩:=b4;obtain⟨sr,b3,rfl⟩:=qBZ hx;obtain⟨p,a7,a9⟩:=qAQ SD b3;refine ba ?_;have ri:Rise (Ae.length:Int) p:=((B.duem p).mp (B1 a7)).1.rise;have c6:p.length<=12:=by have:=ri.len;lia
   have a3:p∈ks:=B.full t p (A7 _) ((B.duem p).mp (B1 a7)).1;refine⟨_,rfl,_,rfl,_,rfl,a,sr,Ae,p,Aa,rfl,hN.same sm,wf,by lia,a9,by lia,λl rs H3 s3 fl gl ML=>?_⟩
   have c0:rs.length=(qCZ Ae p Aa).length:=B6 ML;refine⟨l,rfl,⟨_,SqL.of gl⟩,qJX (a:=l) (xs:=rs.map V.ref) (λk σ Hd=>∃(lr:List Addr) (ly ks:List (List Int)) (f:List Int->Nat) (Af:List (List Key×V)) (v6 v7 v8:Option V),σ=[some (.ref a),some (.int Aa),some (.ref j),some (.ref du),some (.ref ll),some (.ref sr),v6,v7,v8]/\Same H Hd/\Hd j=some (.dT Af)/\EntZ Hd Af ks f (PrvH Ae Aa ks f)/\Hd du=some (.lst (dr.map V.ref))/\StL Hd dr due/\Hd ll=some (.lst (lr.map V.ref))/\StL Hd lr ly/\BF Ae Aa t ks due ly f i k/\ks.length=k0+ly.length/\Hd l=some (.lst (rs.map V.ref))/\MovL Hd rs (qCZ Ae p Aa)/\p∈ks)
    ⟨lr,ly,ks,f,Af,v6,v7,v8,rfl,sm.trans s3,s3 _ _ d,b.same s3,s3 _ _ n,SD.same s3,s3 _ _ a0,SL.same s3,B,a2,gl,ML,a3⟩ (by rintro k σ Hd _ ⟨_,_,_,_,_,_,_,_,_,_,_,_,_,_,_,_,_,_,z,_⟩;exact SqL.of z) ?_ ?_⟩
   ·have nl:j≠l/\ll≠l:=⟨qA6 d fl,qA6 a0 fl⟩;clear d b n SD a0 SL B a2 sm gl ML s3 a3 a9;refineλk x σ Hd hx be N2 aq=>opq λc9 bb=>?_;obtain⟨lr,ly,ks,f,Af,v6,v7,v8,rfl,sm,d,b,n,SD,a0,SL,B,a2,gl,ML,a3⟩:=be;obtain⟨mv,bz,rfl⟩:=qBZ hx;obtain⟨⟨Ac,wk⟩,ae,aj⟩:=qAQ ML bz;refine bb ?_;dsimp only at aj;obtain⟨ca,an,a9⟩:=qAQ SD b3;rw[a7] at an;cases an;have hw:=(due_iff.mp (B1 ae)).1.1;refine⟨_,rfl,_,rfl,sr,mv,p,Ac,wk,rfl,a9,by lia,aj,hw,λr c5 H4 s4 gr c1=>?_⟩
    have e2:=qeL (m:=(Ac,wk)) ri hw c1;rw[e2] at gr;have b6:=sm.trans s4;have a6:=s4 _ _ d;have a1:=b.same s4;have am:=s4 _ _ n;have b8:=SD.same s4;have ao:=s4 _ _ a0;have b0:=SL.same s4;have bc:=s4 _ _ gl;have bk:=ML.same s4;have al:=s4 _ _ a9;have ak:=s4 _ _ aj;have lb:=B.len;clear d b n SD a0 SL gl ML a9 aj;refine⟨_,rfl,_,rfl,j,_,rfl,.inr ⟨Af,keyS (behL p (Ac,wk)),r,.inl a6,rfl,by rw[qF7];exact gr,rfl⟩,_,rfl,?_⟩
    by_cases a8:behL p (Ac,wk)∈ks
    ·obtain⟨v,ev,_⟩:=a1.val a8;rw[ev];refine iteF ?_;exact aq _ _ ⟨lr,ly,ks,f,Af,_,_,_,rfl,b6,a6,a1,am,b8,ao,b0,B.hit a7 ae a8,a2,bc,bk,a3⟩
    ·rw[a1.none a8];refine iteT ?_;obtain⟨v,ev,vr,xx,yy,e6,gv⟩:=a1.val a3;subst e6;have dg:DGet H4 j (.ref sr) (some (.ref vr)):=by
      rw[<- ev];exact .inr ⟨Af,keyS p,sr,.inl a6,rfl,by rw[qF7];exact al,rfl⟩
     have B2:=B.add a7 ae a8;have bq:=B2.len;rw[A8,B3] at bq;have ce:lr.length=ly.length:=B6 b0;have c7:=a1.len;refine⟨_,rfl,_,rfl,j,.ref vr,rfl,dg,vr,_,_,_,rfl,rfl,SqT.of gv,rfl,_,rfl,mv,_,_,_,rfl,rfl,SqT.of ak,rfl,rfl,_,rfl,?_⟩;obtain⟨z,ah,bi⟩:∃z:Nat,(if decide (V.str Ac=V.str "do")=true then z=1 else z=0)/\z=if((Ac,wk):Mv).1=B9 "do" then 1 else 0:=by
      by_cases c:Ac=B9 "do"
      ·exact⟨1,by rw[if_pos (decide_eq_true (congrArg V.str c))],by rw[if_pos c]⟩
      ·exact⟨0,by rw[if_neg (λq=>c (V.str.inj (of_decide_eq_true q)))],by rw[if_neg c]⟩
     rw[<- bi] at B2;have b5:∀(y:Int) (H5:Hp) (tp:Addr),y=((f p+z:Nat):Int)->H4 tp=none->H5=Ag H4 tp (.tup [.int y,.ref sr,.ref mv])->∃H6 H7,DPut H5 j (.ref r) (.ref tp) H6/\H6 ll=some (.lst (lr.map V.ref))/\H7=Ag H6 ll (.lst (lr.map V.ref++[.ref r]))/\
       ∃(lr:List Addr) (ly ks:List (List Int)) (f:List Int->Nat) (Af:List (List Key×V)),Same H H7/\H7 j=some (.dT Af)/\EntZ H7 Af ks f (PrvH Ae Aa ks f)/\H7 du=some (.lst (dr.map V.ref))/\StL H7 dr due/\H7 ll=some (.lst (lr.map V.ref))/\StL H7 lr ly/\BF Ae Aa t ks due ly f i (k+1)/\ks.length=k0+ly.length/\H7 l=some (.lst (rs.map V.ref))/\MovL H7 rs (qCZ Ae p Aa)/\p∈ks:=by
      intro y H5 tp ey ab e5;subst ey e5;have s5:=qA2 ab (.tup [.int ((f p+z:Nat):Int),.ref sr,.ref mv]);have g5:(Ag H4 tp (.tup [.int ((f p+z:Nat):Int),.ref sr,.ref mv])) tp=some (.tup [.int ((f p+z:Nat):Int),.ref sr,.ref mv]):=qA1;generalize Ag H4 tp (.tup [.int ((f p+z:Nat):Int),.ref sr,.ref mv])=H5 at s5 g5;have a4:=s5 _ _ a6;have bl:=s5 _ _ gr;have bg:=s5 _ _ ao;have nt:∀kk xs,HO.dT kk≠.tup xs:=λkk xs q=>by cases q
      have af:∀kk xs,HO.lst kk≠.tup xs:=λkk xs q=>by cases q
      have a5:(Ag H5 j (.dT (putK Af (keyS (behL p (Ac,wk))) (.ref tp)))) ll=some (.lst (lr.map V.ref)):=(qA8 ar.1).trans bg;refine⟨_,_,.inr ⟨Af,keyS (behL p (Ac,wk)),r,a4,rfl,by rw[qF7];exact bl,qAW (by lia),rfl⟩,a5,rfl,lr++[r],ly++[behL p (Ac,wk)],ks++[behL p (Ac,wk)],_,_,qAB (qAB (b6.trans s5) ac) bx,?_,(((a1.same s5).snoc (m:=(Ac,wk)) a8 g5 (s5 _ _ al) (s5 _ _ ak) (λg e=>PrvH.snoc a3 (B1 ae) a8 bi e)).put a4 (nt _)).put a5 (af _),?_,((b8.same s5).put a4 (nt _)).put a5 (af _),?_,(((b0.same s5).snoc bl).put a4 (nt _)).put a5 (af _),B2,?_,?_,((bk.same s5).putG a4 (nt _)).putG a5 (af _),B4.mpr (.inl a3)⟩
      ·rw[qA8 ar.1.symm,qA1]
      ·rw[qA8 ar.2.symm,qA8 b7.symm];exact s5 _ _ am
      ·rw[qA1,qB2]
      ·simp only[A8,B3];lia
      ·rw[qA8 nl.2.symm,qA8 nl.1.symm];exact s5 _ _ bc
     refine ite2 (λck=>?_) (λck=>?_)
     ·rw[if_pos ck] at ah;refine⟨_,_,rfl,rfl,_,rfl,_,rfl,_,rfl,(by show 3<=B14;decide),λtp ab=>?_⟩
      obtain⟨H6,H7,dp,g6,e7,au,az,ap,f2,aa,x1,x2,x3,x4,x5,x6,x7,x8,x9,as,ax,ay⟩:=b5 _ _ tp (by rw[ah]) ab rfl
      subst e7;refine⟨_,rfl,_,rfl,j,H6,rfl,dp,_,rfl,.inl ⟨rfl,_,SqL.of g6⟩,_,rfl,ll,_,_,rfl,rfl,g6,qAW (by rw[A0];lia),?_⟩
      exact aq _ _ ⟨au,az,ap,f2,aa,_,_,_,rfl,x1,x2,x3,x4,x5,x6,x7,x8,x9,as,ax,ay⟩
     ·rw[if_neg ck] at ah;refine⟨_,_,rfl,rfl,_,rfl,_,rfl,_,rfl,(by show 3<=B14;decide),λtp ab=>?_⟩
      obtain⟨H6,H7,dp,g6,e7,au,az,ap,f2,aa,x1,x2,x3,x4,x5,x6,x7,x8,x9,as,ax,ay⟩:=b5 _ _ tp (by rw[ah]) ab rfl
      subst e7;refine⟨_,rfl,_,rfl,j,H6,rfl,dp,_,rfl,.inl ⟨rfl,_,SqL.of g6⟩,_,rfl,ll,_,_,rfl,rfl,g6,qAW (by rw[A0];lia),?_⟩
      exact aq _ _ ⟨au,az,ap,f2,aa,_,_,_,rfl,x1,x2,x3,x4,x5,x6,x7,x8,x9,as,ax,ay⟩
   ·refineλσ Hd b9=>opq λcb bm=>?_;obtain⟨lr,ly,ks,f,Af,v6,v7,v8,rfl,sm,d,b,n,SD,a0,SL,B,a2,gl,ML,a3⟩:=b9;refine bm ?_;rw[A0,c0] at B;exact bp _ _ ⟨lr,ly,ks,f,Af,_,_,_,_,rfl,sm,d,b,n,SD,a0,SL,B.next a7 (A7 _),a2⟩
  ·refineλσ Hd bh=>opq λcc bd=>?_;obtain⟨lr,ly,ks,f,Af,v5,v6,v7,v8,rfl,sm,d,b,n,SD,a0,SL,B,a2⟩:=bh;refine bd ?_;rw[A0,av] at B;have B2:=B.level (A7 _);have lb:=B2.len;refine⟨_,rfl,bj _ _ ⟨_,?_,ll,lr,ly,ks,f,Af,t+1,_,_,_,_,_,rfl,rfl,sm,d,b,a0,SL,B2⟩⟩;rw[if_neg hz];by_cases c:ly=[]
   ·rw[if_pos c,a2,c,J9]
    lia
   ·have:0<ly.length:=A36.mpr c;rw[if_neg c,a2]
    lia
theorem sc_best_end:FnScope ["reached","asked","ends"] ["reached","asked"] (qAA qCK):=qBK
theorem ok_best_end (F:Fun K "best_end" "best_end" qCK f fd) (hcd:fd.code=.ref cc) (hBM:BM mg base) (qEL:hdIn K cc Pt=true) (qEG:Clb P w K mg base 1 qH5 qLB "has_all" ["results","works"] qU3) (qSE:mg "min" = none):FnOk P w K mg base CX0 2 f fd ["reached","asked"] (qa6 Pt):=by
 refine F.okL hcd sc_best_end (λvs H Q E h=>?_) (λA am s H vs Q E hr h=>?_)
 ·obtain⟨d,t,o,Af,g,l,e,rfl,_⟩:=h
  rfl
 obtain⟨d,t,o,Af,g,l,e,rfl,aa,hd,a8,lk,hT,la,q⟩:=h;have hu:=qHR hr;have ak:=hu2_of hr;have rm:Room 1 _:=hr;have ao:Room 1 _:=hr;refine⟨_,(qA4 (qPA (i:=2) sc_best_end.nd rfl rfl rfl (lcs (own:=["stand"]) (fv:=[1]) (by kernel_rfl)) (qYB (pv 0)) (λz1=>qBR 0) (λz1=>(qEJ (qD6 (qAR qEG hr rfl (qA0 (pv 0) (qA0 (pv 1) qA3)))))) (λz1=>(pv 0)) (by kernel_rfl)) (qA5 (qAG (qYE (p:="stand") (fv:=[0]) (q:="best_end.<locals>.<lambda>") rm rfl rfl qSE qX6 hBM rfl qEL (by kernel_rfl) (lms (by kernel_rfl)) rfl (λ_ _ _ _ _=>rfl) (qfX ak) (qA0 (pv 2) qA3) (λz2=>(qB7 (qA0 (qB5 (qEK (K:=K) rfl) (qCE (lm_hu _) (pv 1) (pv 0) (λ_ _=>rfl)) qA7 (λ_ _=>rfl)) (qA0 (pv 0) qA3)))) qGR)))),?_⟩
 try dsimp only[Cx.nox,Cx.wish,cxOf]
 have ln:=a8.len;refine⟨_,rfl,d,o,Af,rfl,hd,λle ac=>?_⟩;refine qYW (p:=le) (a:=d) (o:=o) (Af:=Af) (λk σ Hd=>∃(v0:Option V) (er:List Addr),σ=[v0,some (.ref t)]/\Same H Hd/\Hd le=some (.lst (er.map V.ref))/\StL Hd er ((g.take k).filter λs=>decide (∀x∈e,x∈s))) ?_ ?_ ?_ ?_
 ·exact⟨none,[],rfl,qA2 ac _,qA1,.nil⟩
 ·refineλk σ Hd hk ag=>opq λaq af=>?_;obtain⟨v0,er,rfl,sd,_⟩:=ag;refine af ?_;exact sd _ _ hd
 ·refineλk a7 v r σ Hd y a6 a9=>opq λas ab=>?_;obtain⟨v0,er,rfl,sd,ge,SE⟩:=a9;obtain⟨m,u,e1,v3⟩:=qAQ a8 y;refine ab ?_;dsimp only at e1;subst e1;rw[qF7] at a6;have ap:=(A3.mp u).1;have lE:er.length=((g.take k).filter λs=>decide (∀x∈e,x∈s)).length:=B6 SE;have al:=J5 (λs:List Int=>decide (∀x∈e,x∈s)) (g.take k);rw[C4] at al;refine⟨_,rfl,_,rfl,true,r,t,m,e,rfl,a6,.inl (sd _ _ hT),la,λH2 n=>⟨_,rfl,?_⟩⟩;rw[C6,u,C8,m6];by_cases c:∀x∈e,x∈m
  ·rw[decide_eq_true c];refine⟨_,rfl,_,n _ _ ge,qAW (by rw[A0];lia),?_⟩
   rw[qB2];refine⟨_,er++[r],rfl,qAB (sd.trans n) ac,qA1,?_⟩;rw[G9,if_pos (decide_eq_true c)];exact((SE.same n).snoc (n _ _ a6)).put (n _ _ ge) λxs z=>by cases z
  ·rw[decide_eq_false c];refine⟨_,er,rfl,sd.trans n,n _ _ ge,?_⟩;rw[G9,if_neg (by rw[decide_eq_false c];exact C2),A81,K0]
   exact SE.same n
 refineλσ H1 ae=>opq λar ad=>?_;obtain⟨v0,er,rfl,s1,ge,SE⟩:=ae;refine ad ?_;rw[ln,Y3] at SE;have lE:er.length=(g.filter λs=>decide (∀x∈e,x∈s)).length:=B6 SE;refine⟨_,rfl,s1 _ _ aa,le,er.map V.ref,(g.filter λs=>decide (∀x∈e,x∈s)).map λs=>(l s:Int)::s,?_⟩;have a7:∀(i:Nat) (x:V) (k:List Int),(er.map V.ref)[i]?=some x->((g.filter λs=>decide (∀x∈e,x∈s)).map λs=>(l s:Int)::s)[i]?=some k->∃r s,x=.ref r/\k=(l s:Int)::s/\s∈g/\(∀x∈e,x∈s)/\H1 r=some (.tup (s.map V.int)):=by
  intro i x k y hk;obtain⟨r,a0,rfl⟩:=qBZ y;obtain⟨m,u,gs⟩:=qAQ SE a0;rw[C1,u] at hk;cases hk;have hm:=D6.mp (B1 u);exact⟨r,m,rfl,rfl,hm.1,of_decide_eq_true hm.2,gs⟩
 have aj:∀(i:Nat) (x:V) (k:List Int),(er.map V.ref)[i]?=some x->((g.filter λs=>decide (∀x∈e,x∈s)).map λs=>(l s:Int)::s)[i]?=some k->∀Hc,Sm0 H1 Hc->∃r s vr xx yy,x=.ref r/\k=(l s:Int)::s/\Hc r=some (.tup (s.map V.int))/\DGet Hc d (.ref r) (some (.ref vr))/\Hc vr=some (.tup [.int (l s:Int),xx,yy]):=by
  intro i x k y hk Hc sc;obtain⟨r,m,e1,e2,e3,e4,e5⟩:=a7 i x k y hk;obtain⟨v,ev,vr,xx,yy,e6,e7⟩:=a8.val e3;subst e6;have gr:=sc _ _ e5;refine⟨r,m,vr,xx,yy,e1,e2,gr,?_,sc _ _ (s1 _ _ e7)⟩;rw[<- ev];exact .inr ⟨Af,keyS m,r,.inr ⟨o,sc _ _ (s1 _ _ hd)⟩,rfl,by rw[qF7];exact gr,rfl⟩
 cases er with
 |nil=>
  have he:(g.filter λs=>decide (∀x∈e,x∈s))=[]:=M7.mp lE.symm;refine⟨.non,rfl,ge,by rw[A0,A0,he];rfl,λi x k y=>by simp at y,by rw[he];rfl,λH2 n=>(q H2 (s1.trans n)).1 λs hs c=>?_⟩
  have:s∈g.filter λs=>decide (∀x∈e,x∈s):=D6.mpr ⟨hs,decide_eq_true c⟩;rw[he] at this;cases this
 |cons r0 er=>
  cases eZ:((r0::er).map V.ref).zip ((g.filter λs=>decide (∀x∈e,x∈s)).map λs=>(l s:Int)::s) with
  |nil=>
   exfalso
   have:=congrArg j9 eZ;rw[k9,A0,A0,<- lE,C3,J9] at this
   lia
  |cons b rest=>
   obtain⟨k,h1,h2⟩:=qJH rest b;rw[<- eZ] at h1 h2;have an:∀p:V×List Int,p∈((r0::er).map V.ref).zip ((g.filter λs=>decide (∀x∈e,x∈s)).map λs=>(l s:Int)::s)->∃i:Nat,((r0::er).map V.ref)[i]?=some p.1/\((g.filter λs=>decide (∀x∈e,x∈s)).map λs=>(l s:Int)::s)[i]?=some p.2:=by
    intro p hp;obtain⟨i,hi⟩:=D8 hp;rw[U9] at hi;exact⟨i,hi.1,hi.2⟩
   obtain⟨i,g1,g2⟩:=an _ h1;obtain⟨r,m,e1,e2,e3,e4,e5⟩:=a7 i _ _ g1 g2;refine⟨qEW b rest,rfl,ge,by rw[A0,A0,lE],λi x k y hk Hc sc=>?_,rfl,λH2 n=>?_⟩
   ·obtain⟨r,m,vr,xx,yy,a1,a2,a3,a4,a5⟩:=aj i x k y hk Hc sc;subst a1 a2;exact⟨_,rfl,_,rfl,d,.ref vr,rfl,a4,vr,_,_,_,rfl,rfl,SqT.of a5,rfl,_,rfl,(by show 2<=B14;decide),λp hp=>⟨qA2 hp _,p,r,_,m,rfl,rfl,qA1,by rw[qA8 (qA6 a3 hp)];exact a3⟩⟩
   ·have e1:qEW b rest=.ref r:=e1;rw[e1];refine(q H2 (s1.trans n)).2 r m (n _ _ e5) e3 e4 λs' ai c'=>?_;have hf:s'∈g.filter λs=>decide (∀x∈e,x∈s):=D6.mpr ⟨ai,decide_eq_true c'⟩;obtain⟨j,hj⟩:=D8 hf;have ah:=(A3.mp hj).1;have a0:j<((r0::er).map V.ref).length:=by rw[A0,lE];exact ah
    have hq:(((r0::er).map V.ref)[j],(l s':Int)::s')∈((r0::er).map V.ref).zip ((g.filter λs=>decide (∀x∈e,x∈s)).map λs=>(l s:Int)::s):=
     B1 (i:=j) (U9.mpr ⟨A4 a0,by rw[C1,hj];rfl⟩)
    have hl:=h2 _ hq;have e2:k=(l m:Int)::m:=e2;rw[e2] at hl;dsimp only at hl;rw[HT.lexLt_cons] at hl;by_cases c:(l s':Int)=(l m:Int)
    ·lia
    ·rw[if_neg c] at hl;have:=of_decide_eq_false hl
     lia
theorem MovL.rev {H:Hp}{rs:List Addr}{b:List Mv}(h:MovL H rs b):MovL H rs.reverse b.reverse:=by
 induction h with
 |nil=>exact .nil
 |@cons r m l1 l2 a _ ih=>
  rw[V4,V4];exact T3 ih a
theorem sc_plan_to:FnScope ["reached","stand","plan"] ["reached","stand"] (qAA qGI):=qBK
theorem ok_plan_to (F:Fun K "plan_to" "plan_to" qGI f fd):FnOk P w K mg base CX0 1 f fd ["reached","stand"] qTZ:=by
 refine F.okA sc_plan_to λaj A ad s H vs Q E hr h=>?_;obtain⟨d,t,o,Af,Ae,Aa,ks,fu,g,n,rfl,gd,ae,wf,RC,FR,lk,gt,l,q⟩:=h;have hu:=qHR hr;refine⟨_,(qA4 (qAE (i:=2) sc_plan_to.nd rfl (E1 rfl) (qBX qA3)) (qA4 (qFS D3 (qDY (qMB (qB5 qBI (qCE hu (pv 0) (pv 1) (λ_ _=>rfl)) qA7 (λ_ _=>rfl)))) (qA4 (qD1 (qJI E9 G1 G2 qC0 (pv 2) (qA0 (qB5 qBI (qCE hu (pv 0) (pv 1) (λ_ _=>rfl)) qA7 (λ_ _=>rfl)) qA3))) (qA5 (qAE (i:=1) sc_plan_to.nd rfl (E1 rfl) (qB5 qBI (qCE hu (pv 0) (pv 1) (λ_ _=>rfl)) qA7 (λ_ _=>rfl)))))) (qA4 (qD1 (qaF E9 PySem.F.slot_list_reverse PySem.F.type_list_reverse qSZ (pv 2))) (qA5 (qAG (pv 2)))))),?_⟩
 try dsimp only[Cx.nox,Cx.wish,cxOf]
 have pv:=FR.1;obtain⟨u0,_,ac⟩:=RC.snd n l;have ep:pth fu g n=qF3 g u0 n:=by unfold pth;rw[show 2*fu n-n.length=u0 by lia]
 have a7:=(qP9 wf RC pv l).2.2.2;rw[ep] at a7;refine⟨(by show 0<=B14;decide),λj e=>?_⟩
 have s1:=qA2 e (.lst []);refine⟨λm σ c=>∃(tr:Addr) (cur:List Int) (rs:List Addr) (done:List Mv),σ=[some (.ref d),some (.ref tr),some (.ref j)]/\Same H c/\c tr=some (.tup (cur.map V.int))/\cur∈ks/\2*fu cur=m+cur.length/\c j=some (.lst (rs.map V.ref))/\MovL c rs done/\qF3 g u0 n=qF3 g m cur++done.reverse,
  ⟨u0,t,n,[],[],rfl,s1,s1 _ _ gt,l,ac,qA1,.nil,by simp⟩,?_⟩
 refineλm σ c a6=>opq λai a8=>?_;obtain⟨tr,cur,rs,done,rfl,sm,u,k,em,a,ML,ed⟩:=a6;refine a8 ?_;have ld:rs.length=done.length:=B6 ML;have ah:done.length+1<=ks.length:=by
  have:=congrArg j9 ed;rw[A8,A30] at this
  lia
 obtain⟨v,ev,vx⟩:=(ae.same sm).val k;rcases pv cur k with⟨a1,y,a3⟩|⟨p,mv,a1,y,a3,a4,a5⟩
 ·rw[y] at vx;obtain⟨b,rfl,gv⟩:=vx;have dg:DGet c d (.ref tr) (some (.ref b)):=.inr ⟨Af,keyS cur,tr,.inr ⟨o,sm _ _ gd⟩,rfl,by rw[qF7];exact u,ev.symm⟩
  refine⟨_,rfl,_,rfl,d,.ref b,rfl,dg,b,_,_,_,rfl,rfl,SqT.of gv,rfl,_,rfl,?_⟩;refine iteF ?_;refine⟨_,rfl,.inl ⟨rfl,_,SqL.of a⟩,j,_,rfl,rfl,a,?_⟩;refine⟨_,rfl,q j _ (qAB sm e) e ?_⟩;have en:qF3 g m cur=[]:=by
   cases m with
   |zero=>rfl
   |succ m=>show(match g cur with|none=>[]|some (p,m')=>qF3 g m p++[m'])=[];rw[y]
  rw[en,A03] at ed;rw[ep,ed];refine⟨rs.reverse,by rw[qA1,List.map_reverse],?_⟩
  exact(MovL.rev ML).putG a λx z=>by cases z
 ·rw[a1] at vx;obtain⟨b,rp,rm,rfl,gv,af,a9⟩:=vx;have dg:DGet c d (.ref tr) (some (.ref b)):=.inr ⟨Af,keyS cur,tr,.inr ⟨o,sm _ _ gd⟩,rfl,by rw[qF7];exact u,ev.symm⟩
  have a0:=em;rw[a5] at a0;obtain⟨v',e1,e2⟩:=qLQ RC y a3 (by rw[<- a4];exact a0)
  subst e1;refine⟨_,rfl,_,rfl,d,.ref b,rfl,dg,b,_,_,_,rfl,rfl,SqT.of gv,rfl,_,rfl,?_⟩;refine iteT ?_;refine qVB λN0 ag=>?_;refine⟨_,rfl,.inl ⟨rfl,_,SqL.of a⟩,_,rfl,_,rfl,d,.ref b,rfl,dg,b,_,_,_,rfl,rfl,SqT.of gv,rfl,j,_,_,rfl,rfl,a,qAW (by rw[A0];lia),?_⟩
  have s2:Same H (Ag c j (.lst (rs.map V.ref++[V.ref rm]))):=qAB sm e;have nt:∀kk x,HO.lst kk≠.tup x:=λkk x q=>by cases q
  have kp:∀(r:Addr) (x:List V),c r=some (.tup x)->(Ag c j (.lst (rs.map V.ref++[V.ref rm]))) r=some (.tup x):=λr x gg=>by
   rw[qA8 (qCC gg a λz=>nt _ _ z.symm)];exact gg
  have aa:DGet (Ag c j (.lst (rs.map V.ref++[V.ref rm]))) d (.ref tr) (some (.ref b)):=.inr ⟨Af,keyS cur,tr,.inr ⟨o,s2 _ _ gd⟩,rfl,by rw[qF7];exact kp _ _ u,ev.symm⟩
  refine⟨_,rfl,_,rfl,d,.ref b,rfl,aa,b,_,_,_,rfl,rfl,SqT.of (kp _ _ gv),rfl,?_⟩;refine ag _ _ ⟨v',by lia,rp,p,rs++[rm],done++[mv],rfl,s2,kp _ _ af,y,e2,by rw[qA1,qB2],?_,?_⟩
  ·exact MovL.putG (T3 ML a9) a (nt _)
  ·rw[ed];have ab:qF3 g (v'+1) cur=qF3 g v' p++[mv]:=by show(match g cur with|none=>[]|some (p,m')=>qF3 g v' p++[m'])=_;rw[a1]
   rw[ab,List.reverse_append,F3]
   rfl
theorem qJC:FnScope ["works","asked"] ["works","asked"] (qAA qCQ):=qBK
theorem ok_part_numbers (F:Fun K "part_numbers" "part_numbers" qCQ f fd) (z:mg "tuple" = none):FnOk P w K mg base CX0 1 f fd ["works","asked"] qR0:=by
 refine F.okA qJC λa4 A a0 s H vs Q E hr h=>?_;obtain⟨t,u,o,Ad,rfl,hT,hU,nd,la,lw,a2,q⟩:=h;refine⟨_,(qA5 (qAG (qAH qAK rfl z qAU (qA0 (qC4 rfl (lcs (own:=["work"]) (fv:=[0]) (by kernel_rfl)) (qCJ (pv 1)) (λz1=>qBR 0) (λz1=>qAY) (λz1=>(qdU (X:=lcCx _ _ _ _ z1) PySem.F.plainAttrs_tuple PySem.F.slot_tuple_index PySem.F.type_tuple_index (qPQ (K:=K) rfl) (pv 1) (qA0 (pv 0) qA3)))) qA3)))),?_⟩
 try dsimp only[Cx.nox,Cx.wish,cxOf]
 refine⟨_,rfl,u,rfl,⟨_,SqT.of hU⟩,λp hp=>?_⟩;refine qD7 (p:=p) (a:=u) (xs:=Ad.map V.int) (λi σ c=>∃(v0:Option V),σ=[v0,some (.ref t)]/\Same H c/\c p=some (.lst ((qCX o (Ad.take i)).map V.int))) ?_ ?_ ?_ ?_
 ·exact⟨none,rfl,qA2 hp _,qA1⟩
 ·rintro i σ c hi ⟨v0,rfl,sm,_⟩;exact SqT.of (sm _ _ hU)
 ·refineλi x σ c hx g=>opq λa3 l=>?_;obtain⟨v0,rfl,sm,b⟩:=g;obtain⟨y,r,rfl⟩:=qB1 hx;refine l ?_;have lt:=(A3.mp r).1;have d:=hT.same sm;have hy:=a2 y (B1 r);obtain⟨j,v⟩:=D8 hy;have lk:(qCX o (Ad.take i)).length<=i:=F2 (O8 _ _) (by rw[C4];lia)
  have first:∀k,k<j->o[k]?≠some y:=λk hk e=>by
   obtain⟨h1,e1⟩:=A3.mp e;obtain⟨h2,e2⟩:=A3.mp v;exact absurd (e1.trans e2.symm) (G7.mp nd k j h1 h2 hk)
  refine⟨_,rfl,⟨t,_,rfl,d⟩,_,rfl,t,o,y,j,rfl,rfl,d.sq,v,first,_,b,qAI (by rw[A0];lia),_,rfl,qAB sm hp,?_⟩
  rw[qA1];unfold qCX;rw[C6,r,C8,U5,L0,qDD nd v,B0]
  rfl
 ·refineλσ c n=>opq λa5 m=>?_;obtain⟨v0,rfl,sm,b⟩:=n;refine m ?_;rw[A0,Y3] at b;refine⟨p,_,rfl,.inl ⟨SqL.of b,λr' a1=>?_⟩⟩;exact q r' _ (sm.trans (qA2 a1 _)) qA1
theorem sc_fewest:FnScope ["net","asked","works","part","wanted","rooms","end","reached"] ["net","asked"] (qAA qIR):=qBK
theorem ok_fewest (F:Fun K "fewest" "fewest" qIR f fd) (b6:Clb P w K mg base 1 qCA qDI "all_needed" ["net","asked"] qXY) (b3:Clb P w K mg base 2 qHW qQ5 "part_net" ["net","works"] qU0) (aw:Clb P w K mg base 1 qE7 qJZ "part_numbers" ["works","asked"] qR0) (b0:Clb P w K mg base 4 qD4 qHT "stands_reached" ["net","rooms"] qQZ) (au:Clb P w K mg base 2 qEE qQ7 "best_end" ["reached","asked"] (qa6 Pt)) (ap:Clb P w K mg base 1 qK2 qTD "plan_to" ["reached","stand"] qTZ) (ar:mg "tuple" = none):FnOk P w K mg base CX0 5 f fd ["net","asked"] (qa4 Pt):=by
 refine F.okA sc_fewest λbg A b4 s H vs Q E hr h=>?_;obtain⟨a,t,l,u,rfl,ab,hN,wf,b9,⟨hT,rA⟩,a1,q⟩:=h;have ba:Room 4 _:=hr;refine⟨_,(qA4 (qAE (i:=2) sc_fewest.nd rfl (g8 rfl) (qAH qQK rfl ar qAU (qA0 (qAR b6 hr rfl (qA0 (pv 0) (qA0 (pv 1) qA3))) qA3))) (qA4 (qAE (i:=3) sc_fewest.nd rfl (E1 rfl) (qAR b3 hr rfl (qA0 (pv 0) (qA0 (pv 2) qA3)))) (qA4 (qAE (i:=4) sc_fewest.nd rfl (E1 rfl) (qAR aw hr rfl (qA0 (pv 2) (qA0 (pv 1) qA3)))) (qA4 (qAE (i:=5) sc_fewest.nd rfl (E1 rfl) qA7) (qA4 (qAE (i:=6) sc_fewest.nd rfl (E1 rfl) qGR) (qA4 (qFS D3 (qDY (qNJ (pv 6))) (qA4 (qdO (i:=5) sc_fewest.nd rfl (E1 rfl) qA7 qaN) (qA4 (qAE (i:=7) sc_fewest.nd rfl (E1 rfl) (qAR b0 hr rfl (qA0 (pv 3) (qA0 (pv 5) qA3)))) (qA5 (qAE (i:=6) sc_fewest.nd rfl (E1 rfl) (qAR au hr rfl (qA0 (pv 7) (qA0 (pv 4) qA3)))))))) (qA5 (qAG (qB7 (qA0 (pv 5) (qA0 (qC4 rfl (lcs (own:=["word","number"]) (fv:=[2]) (by kernel_rfl)) (qBW (qAR ap hr rfl (qA0 (pv 7) (qA0 (pv 6) qA3)))) (λz2=>qPH (K:=K) (n:=2) rfl rfl (qAV (qBR 0) (qAV (qBR 1) qD2)) rfl rfl) (λz2=>qAY) (λz2=>(qB7 (qA0 (pv 0) (qA0 (qB5 (qEK (K:=K) rfl) (pv 2) (pv 1) (λ_ _=>rfl)) qA3))))) qA3))))))))))),?_⟩
 try dsimp only[Cx.nox,Cx.wish,cxOf]
 refine⟨_,rfl,_,rfl,a,t,l,u,rfl,hN,wf,by lia,hT,rA.in_,λla k H1 s1 bb av N=>?_⟩
 refine⟨la,_,rfl,SqL.of av,λtw ob az oc od=>?_⟩;have s2:=s1.trans (qA2 az (.frz ob (.tup (k.map V.int))));have y:BareT (Ag H1 tw (.frz ob (.tup (k.map V.int)))) tw (k.map V.int):=⟨ob,qA1,oc,od⟩;generalize Ag H1 tw (.frz ob (.tup (k.map V.int)))=H2 at s2 y;refine⟨_,rfl,_,rfl,a,tw,l,k,rfl,hN.same s2,wf,by lia,(let⟨o,e,_⟩:=y;.inr ⟨o,e⟩),N.1,λb H3 s3 hB=>?_⟩
 have ae:=s2.trans s3;have lw:=N.1.len;have ha:∀x∈u,x∈k:=λx hx=>(N.2 x).mpr (.ask hx);have al:=rA.len;refine⟨_,rfl,_,rfl,tw,t,k,u,rfl,y.same s3,ae _ _ hT,N.1.nodup,by lia,by lia,ha,λwt H4 s4 as=>?_⟩
 have a4:=ae.trans s4;have ai:=(y.same s3).same s4;have am:=hB.same s4;have wp:WFn (qBY l k):=qCL wf N.1;have lp:=qBV l k;have rW:=qHG N rA;have w1:1<=k.length:=by
  cases u with
  |nil=>simp at a1
  |cons x u=>exact T6 (ha x (by simp))
 have lW:=rW.len;refine⟨λm σ Hc=>∃(r:Nat) (e:V) (v7:Option V),σ=[some (.ref a),some (.ref t),some (.ref tw),some (.ref b),some (.ref wt),some (.int (r:Int)),some e,v7]/\Same H4 Hc/\
   ((e=.non/\m=k.length+1 - r/\r<=k.length/\∀ r':Int,1<=r'->r'<=(r:Int)->¬ qFK l k u r')\/
    (∃rr d o Af ks fu g st,e=.ref rr/\v7=some (.ref d)/\m=0/\Hc d=some (.frz o (.dT Af))/\EntX Hc Af ks fu g/\Rch (qBY l k) (r:Int) ks fu/\PrvH (qBY l k) (r:Int) ks fu g/\Hc rr=some (.tup (st.map V.int))/\(st∈ks/\∀x∈qCX k u,x∈st)/\qOP l k u (r:Int))),
  ⟨_,0,.non,none,rfl,Same.refl _,.inl ⟨rfl,rfl,D9 _,λr' h1 h2=>absurd h1 (by lia)⟩⟩,?_⟩
 refineλm σ Hc ad=>opq λbf ak=>?_;obtain⟨r,e,v7,rfl,sm,ay⟩:=ad;refine ak ?_;rcases ay with⟨rfl,rfl,rn,nb⟩|⟨rr,d,o,Af,ks,fu,g,st,rfl,rfl,rfl,gd,ent,RC,FR,a5,B,LR⟩
 ·refine⟨_,rfl,_,rfl,?_⟩;refine iteT ?_;refine qVB λN0 ag=>?_;refine⟨_,rfl,_,_,rfl,rfl,?_⟩;refine⟨_,rfl,_,rfl,b,qBY l k,(r:Int)+1,rfl,am.same sm,wp,by lia,λd o Af ks fu g H5 s5 bc gd ent RC FR=>?_⟩
  have v:=sm.trans s5;have lk:=RC.len;have pw:2^(qBY l k).length<=2^12:=R4 (by decide) (by lia)
  refine⟨_,rfl,_,rfl,d,wt,o,Af,ks,fu,qCX k u,rfl,v _ _ (a4 _ _ ab),gd,ent.ent,F2 lk (by lia),v _ _ as,by lia,λH6 s6=>⟨λhn=>?_,λrr st a5 a6 a0 a3=>?_⟩⟩
  ·have nd:=qe2 N rA (qXD wp rW RC hn);have a9:∀r':Int,1<=r'->r'<=((r+1:Nat):Int)->¬qFK l k u r':=λr' h1 h2=>by
    by_cases c:r'<=(r:Int)
    ·exact nb r' h1 c
    ·rw[show r'=((r+1:Nat):Int) by lia]
     exact nd
   have ao:r+1<=k.length:=by
    apply Q6;intro z;exact a9 (k.length:Int) (by lia) (by lia) (qNX wf N)
   exact ag _ _ ⟨k.length+1-(r+1),by lia,r+1,.non,_,rfl,v.trans s6,.inl ⟨rfl,rfl,ao,a9⟩⟩
  ·have dn:=qc4 N rA (qXC wp rW RC a6 a0 a3);refine ag _ _ ⟨0,by lia,r+1,.ref rr,_,rfl,v.trans s6,.inr ⟨rr,d,o,Af,ks,fu,g,st,rfl,rfl,rfl,s6 _ _ gd,ent.same s6,RC,FR,a5,⟨a6,a0⟩,by lia,dn,λr' h1 h2=>nb r' h1 (by lia)⟩⟩
 ·refine⟨_,rfl,_,rfl,?_⟩;refine iteF ?_;have lk:=RC.len;have pw:2^(qBY l k).length<=2^12:=R4 (by decide) (by lia)
  refine⟨_,rfl,_,rfl,_,rfl,d,rr,o,Af,qBY l k,(r:Int),ks,fu,g,st,rfl,gd,ent,wp,RC,FR,F2 lk (by lia),a5,B.1,λl0 H6 s6 b8 PL=>?_⟩
  obtain⟨rs,ac,ML⟩:=PL;obtain⟨_,_,mv,b7⟩:=qP9 wp RC FR.1 B.1;have b2:rs.length=(pth fu g st).length:=B6 ML;have ah:=(ai.same sm).same s6;refine⟨l0,rfl,⟨_,SqL.of ac⟩,λp hp=>?_⟩;have fp:H p=none:=((a4.trans sm).trans s6).free hp;refine qDO (p:=p) (a:=l0) (xs:=rs.map V.ref) (λj σ Hd=>∃(v0 v1:Option V) (ts:List Addr),σ=[v0,v1,some (.ref tw)]/\Same H6 Hd/\Hd p=some (.lst (ts.map V.ref))/\MovL Hd ts (renM k ((pth fu g st).take j))) ?_ ?_ ?_ ?_
  ·exact⟨none,none,[],rfl,qA2 hp _,qA1,.nil⟩
  ·rintro j σ Hd hj ⟨v0,v1,ts,rfl,sd,_⟩;exact SqL.of (sd _ _ ac)
  ·refineλj x σ Hd hx af=>opq λbe aa=>?_;obtain⟨v0,v1,ts,rfl,sd,gp,MT⟩:=af;obtain⟨b5,b1,rfl⟩:=qBZ hx;obtain⟨⟨Ac,wk⟩,a2,hH⟩:=qAQ ML b1;refine aa ?_;have hj:=(A3.mp a2).1;have a7:=sd _ _ hH;dsimp only at a7;obtain⟨_,w0,wb⟩:=mv _ (B1 a2);dsimp only at w0 wb;rw[lp] at wb;have hi:wk.toNat<k.length:=by lia
   have aq:atI (k.map V.int) wk=some (.int (renW k wk)):=by
    have e:=qCY (xs:=k.map V.int) (i:=wk) (x:=.int k[wk.toNat]) w0 (by rw[C1,A4 hi];rfl)
    rw[e];unfold renW;rw[A4 hi]
    rfl
   have lt:ts.length=(renM k ((pth fu g st).take j)).length:=B6 MT;unfold renM at lt;rw[A0,C4] at lt;refine⟨b5,_,rfl,SqT.of a7,rfl,_,_,rfl,_,_,rfl,rfl,?_⟩;refine⟨_,rfl,_,rfl,_,rfl,tw,_,_,_,rfl,rfl,(ah.same sd).sq,aq,(by show 2<=B14;decide),λtp ax=>?_⟩
   have s7:=qA2 ax (.tup [.str Ac,.int (renW k wk)]);refine⟨_,s7 _ _ gp,qAW (by rw[A0];lia),_,_,ts++[tp],rfl,qAB (sd.trans s7) hp,by rw[qA1,qB2],?_⟩
   have er:renM k ((pth fu g st).take (j+1))=renM k ((pth fu g st).take j)++[(Ac,renW k wk)]:=by
    unfold renM;rw[C6,a2,C8,B0]
    rfl
   rw[er];exact MovL.putG (T3 (MT.same s7) qA1) (s7 _ _ gp) λxs z=>by cases z
  ·refineλσ H7 a8=>opq λbd aj=>?_;obtain⟨v0,v1,ts,rfl,sd,gp,MT⟩:=a8;refine aj ?_;rw[A0,b2,Y3] at MT;refine⟨(by show 2<=B14;decide),λT an=>?_⟩
   have s8:=qA2 an (.tup [.int (r:Int),.ref p]);exact q T p (r:Int) _ _ ((((a4.trans sm).trans s6).trans sd).trans s8) ⟨k,ks,fu,g,st,N,LR,RC,FR.1,B,rfl⟩ fp ⟨ts,s8 _ _ gp,MT.same s8⟩ qA1
theorem qY2:FnScope ["_law_net_here","_law_rooms","_law_stand","_law_move"] ["_law_net_here","_law_rooms","_law_stand","_law_move"] (qAA qLZ):=qBK
theorem ok_Lword (F:Fun K "_law_word" "_law_word" qLZ f fd) (a5:mg "len" = none) (a7:mg "all" = none):FnOk P w K mg base CX0 1 f fd ["_law_net_here","_law_rooms","_law_stand","_law_move"] qJ9:=by
 refine F.okA qY2 λac A a4 s H vs Q E hr h=>?_;obtain⟨a,y,mv,Ae,c,u,Aa,wk,Ac,rfl,hN,g,lst,m,o,a8,a6,a9,q⟩:=h;refine⟨_,(qA4 (qBP (qAM qED (qB5 qBI (pv 3) qA7 (λ_ _=>rfl)) qBO (qAS _)) (qA5 (qAG (qGS (qAM qF4 (qB5 qBI (pv 3) qA7 (λ_ _=>rfl)) (pv 2) (by with_unfolding_all rfl)) qGR qBO))) qAL) (qA4 (qBP (qAM qF4 (qB5 qBI (pv 3) qA7 (λ_ _=>rfl)) (pv 2) (by with_unfolding_all rfl)) (qA5 (qAG qBO)) qAL) (qA4 (qBP (qG3 (qD6 (qA9 (qH9 rfl) rfl a7 qOH (qA0 (qC4 rfl (lcs (own:=["_law_need"]) (fv:=[2]) (by kernel_rfl)) (qCJ (qB5 qBI (pv 0) (qB5 qBI (pv 3) qA7 (λ_ _=>rfl)) (λ_ _=>rfl))) (λz1=>qBR 0) (λz1=>qAY) (λz1=>(qD3 (qV1 (K:=K) rfl) (pv 0) (pv 1) (by with_unfolding_all rfl)))) qA3)))) (qA5 (qAG qBO)) qAL) (qA5 (qAG (qGS (qAM qV2 (qA9 qAC rfl a5 qBD (qA0 (pv 2) qA3)) (pv 1) (qAS _)) qBO qGR)))))),?_⟩
 try dsimp only[Cx.nox,Cx.wish,cxOf]
 refine⟨_,rfl,mv,_,_,_,rfl,rfl,SqT.of m,rfl,rfl,_,rfl,?_⟩;refine ite2 (λck=>?_) (λck=>?_)
 ·have hd:Ac = "clear":=V.str.inj (of_decide_eq_true ck);have b:=q H (Same.refl H);unfold qCD qCW at b;rw[if_neg (by rw[hd];exact qAF)] at b
  refine⟨_,rfl,mv,_,_,_,rfl,rfl,SqT.of m,rfl,_,rfl,y,_,rfl,.inr (SqT.of g),rfl,qDP c,_,rfl,?_⟩;rw[qGD];refine ite2 (λn=>?_) (λn=>?_)
  ·rw[if_pos (of_decide_eq_true n)] at b;exact b
  ·rw[if_neg (of_decide_eq_false (F5.mpr n))] at b;exact b
 ·have hd:Ac = "do":=o.resolve_right λe=>(of_decide_eq_false (F5.mpr ck)) (congrArg V.str e)
  have q1:∀H',Same H H'->Q (qCV u c Aa wk) H':=λH' j=>by
   have b:=q H' j;unfold qCD at b;rw[if_pos hd] at b;exact b
  refine⟨_,rfl,mv,_,_,_,rfl,rfl,SqT.of m,rfl,_,rfl,y,_,rfl,.inr (SqT.of g),rfl,qDP c,_,rfl,?_⟩;rw[qGD];refine ite2 (λn=>?_) (λn=>?_)
  ·have b:=q1 H (Same.refl H);unfold qCV at b;rw[if_pos (of_decide_eq_true n)] at b;exact b
  ·have hw:¬wk∈c:=of_decide_eq_false (F5.mpr n);obtain⟨rs,r,h1,l1,h2,h3⟩:=hN.get a6;refine⟨_,rfl,_,rfl,mv,_,_,_,rfl,rfl,SqT.of m,rfl,a,_,_,_,rfl,rfl,SqT.of h1,qCY a8 h2,r,rfl,⟨_,SqT.of h3⟩,λp hp=>?_⟩;refine qD7 (p:=p) (a:=r) (xs:=u.map V.int) (λi σ t=>∃(v:Option V),σ=[v,some (.ref y)]/\Same H t/\t p=some (.lst (((u.take i).map λx=>decide (x∈c)).map V.bl))) ?_ ?_ ?_ ?_
   ·exact⟨none,rfl,qA2 hp _,qA1⟩
   ·rintro i σ t hi ⟨v,rfl,j,_⟩;exact SqT.of (j _ _ h3)
   ·refineλi x σ t hx a0=>opq λab a1=>?_;obtain⟨v,rfl,j,k⟩:=a0;obtain⟨z,ez,rfl⟩:=qB1 hx;refine a1 ?_;have hi:i<u.length:=(A3.mp ez).1;refine⟨_,rfl,_,rfl,y,_,rfl,.inr (SqT.of (j _ _ g)),rfl,qDP c,_,k,qAI (by rw[A0,A0,C4];lia),_,rfl,qAB j hp,?_⟩
    rw[qA1];refine congrArg (λl=>some (HO.lst l)) ?_;rw[<- qLP ez];show _++[V.bl (inV (.int z) (c.map V.int))]=_;rw[qGD]
   ·refineλσ t a3=>opq λaa a2=>?_;obtain⟨v,rfl,j,k⟩:=a3;refine a2 ?_;rw[A0,E7 (A7 _)] at k;refine⟨p,_,rfl,SqL.of k,_,rfl,?_⟩;have b:=q1 t j;unfold qCV at b;rw[if_neg hw] at b;cases hall:(u.map λx=>decide (x∈c)).all id with
    |false=>
     have na:¬ ∀x∈u,x∈c:=λz=>by rw[all_in.mpr z] at hall;cases hall
     rw[if_neg na] at b;exact b
    |true=>
     rw[if_pos (all_in.mp hall)] at b;refine⟨_,rfl,y,_,rfl,.inr (SqT.of (j _ _ g)),_,rfl,_,_,rfl,rfl,_,rfl,?_⟩;refine ite2 (λcf=>?_) (λcf=>?_)
     ·have d:Aa<=(((c.map V.int).length:Nat):Int):=of_decide_eq_true cf;rw[A0] at d;rw[if_pos d] at b;exact b
     ·have d:¬Aa<=(((c.map V.int).length:Nat):Int):=of_decide_eq_false (F5.mpr cf);rw[A0] at d;rw[if_neg d] at b;exact b
theorem sc_Lplayed:FnScope ["_law_net_here","_law_rooms","_law_plan","_law_stands","_law_move","_law_word_here"] ["_law_net_here","_law_rooms","_law_plan"] (qAA qGM):=qBK
theorem ok_Lplayed (F:Fun K "_law_played" "_law_played" qGM f fd)
  (ak:Clb P w K mg base 1 qQA qZL "_law_word" ["_law_net_here","_law_rooms","_law_stand","_law_move"] qJ9)
  (ae:Clb P w K mg base 1 qK6 qTH "_law_behind" ["_law_stand","_law_move"] qF1):FnOk P w K mg base CX0 2 f fd ["_law_net_here","_law_rooms","_law_plan"] qLR:=by
 refine F.okA sc_Lplayed λau A ag s H vs Q E hr h=>?_;obtain⟨a,l,t,ms,Aa,rfl,⟨hN,wf,am,⟨rs,hl,M⟩,aq,af,r0,ao⟩,q⟩:=h;have ap:Room 1 _:=hr;have av:Room 1 _:=hr;refine⟨_,(qA4 (qAE (i:=3) sc_Lplayed.nd rfl (E1 rfl) (qBX (qA0 (qB7 qA3) qA3))) (qA4 (qBU D3 rfl (qBW (pv 2)) (qAN (i:=4) sc_Lplayed.nd rfl (E1 rfl)) (qA4 (qAE (i:=5) sc_Lplayed.nd rfl (E1 rfl) (qAR ak hr rfl (qA0 (pv 0) (qA0 (pv 1) (qA0 (qB5 qCF (pv 3) (qKH qG1 qA7) (λ_ _=>rfl)) (qA0 (pv 4) qA3)))))) (qA4 (qBP (qDY (qMB (pv 5))) (qA5 (qAG (qB7 (qA0 (pv 3) (qA0 (pv 5) qA3))))) qAL) (qA5 (qD1 (qJI E9 G1 G2 qC0 (pv 3) (qA0 (qAR ae hr rfl (qA0 (qB5 qCF (pv 3) (qKH qG1 qA7) (λ_ _=>rfl)) (qA0 (pv 4) qA3))) qA3))))))) (qA5 (qAG (qB7 (qA0 (pv 3) (qA0 qGR qA3))))))),?_⟩
 try dsimp only[Cx.nox,Cx.wish,cxOf]
 have a9:=B6 M;refine⟨(by show 0<=B14;decide),λe he=>⟨(by show 1<=B14;decide),λg m=>?_⟩⟩
 have s1:=qA2 he (.tup []);have s2:=s1.trans (qA2 m (.lst [.ref e]));have u:H g=none:=s1.free m;refine⟨_,rfl,l,rfl,⟨_,SqL.of (s2 _ _ hl)⟩,qFW (a:=l) (xs:=rs.map V.ref) (λk σ y=>∃(ss:List Addr) (r:Addr) (sts:List (List Int)) (st:List Int) (v4 v5:Option V),σ=[some (.ref a),some (.int Aa),some (.ref l),some (.ref g),v4,v5]/\Same H y/\y g=some (.lst ((ss++[r]).map V.ref))/\NetL y (ss++[r]) ([]::sts)/\y r=some (.tup (st.map V.int))/\Rise (t.length:Int) st/\sts.length=k/\∀sts' v,Play t Aa st (ms.drop k) sts' v->Play t Aa [] ms (sts++sts') v)
  ⟨[],e,[],[],none,none,rfl,s2,qA1,.cons ((qA2 m (.lst [.ref e])) _ _ qA1) .nil,(qA2 m (.lst [.ref e])) _ _ qA1,Rise.nil,rfl,λsts' v p=>p⟩ (λk σ y _ hP=>by obtain⟨_,_,_,_,_,_,_,sm,_⟩:=hP;exact SqL.of (sm _ _ hl)) ?_ ?_⟩
 ·refineλk x σ y hx aa=>opq λas ab=>?_;obtain⟨ss,r,sts,st,v4,v5,rfl,sm,c,N,a2,a1,lk,go⟩:=aa;refine ab ?_;have an:=a1.len;obtain⟨mv,al,rfl⟩:=qBZ hx;obtain⟨⟨Ac,o⟩,hm,hH⟩:=qAQ M al;have hk:=(A3.mp hm).1;obtain⟨hw,a4,a5⟩:=af _ (B1 hm);dsimp only at hw a4 a5 hH;have ed:ms.drop k=(Ac,o)::ms.drop (k+1):=by
   obtain⟨ah,e⟩:=A3.mp hm;rw[Q4 ah,e]
  have ad:o.toNat<t.length:=by lia
  have n:=A4 ad;have ac:=(wf o.toNat _ n).len;generalize t[o.toNat]=ns at n ac;have a0:wd t st Aa (Ac,o)=qCD ns st Aa Ac o:=by unfold wd;rw[n];rfl
  have aj:=B6 N;rw[C3] at aj;have d:atI ((ss++[r]).map V.ref) (-1)=some (.ref r):=by rw[B0];exact qIZ _ _
  refine⟨_,rfl,_,rfl,_,rfl,_,rfl,g,_,_,_,rfl,rfl,SqL.of c,d,_,rfl,a,r,mv,t,st,ns,Aa,o,Ac,rfl,hN.same sm,a2,by lia,sm _ _ hH,hw,a4,n,by lia,λH2 b=>?_⟩
  rcases qJ3 ns st Aa Ac o with e|⟨w0,e⟩
  ·rw[e];refine⟨_,rfl,_,rfl,?_⟩;rw[decide_eq_true (rfl:V.non=V.non)];refine⟨_,rfl,.inl ⟨rfl,_,SqL.of (b _ _ c)⟩,_,rfl,_,rfl,g,_,_,_,rfl,rfl,SqL.of (b _ _ c),d,_,rfl,r,mv,st,Ac,o,rfl,b _ _ a2,by lia,b _ _ (sm _ _ hH),hw,λr' j H3 ai gr bh=>?_⟩
   have s3:=b.trans ai;have a3:=s3 _ _ c;have a6:=qS9 a1 hw a4 a5 (λew=>((qa0 hw (a0.trans e)).1 ew).1) bh;refine⟨g,_,_,rfl,rfl,a3,qAW (by rw[A0];lia),?_⟩
   rw[qB2];have N3:NetL H3 (ss++[r]++[r']) ([]::(sts++[j])):=T3 (NetL.sm N s3) gr;refine⟨ss++[r],r',sts++[j],j,_,_,rfl,qAB (sm.trans s3) u,qA1,NetL.put N3 a3,?_,a6,by rw[A8,B3,lk],λsts' v p=>?_⟩
   ·rw[qA8 (qCC gr a3 (by intro z;cases z))]
    exact gr
   ·rw[F3];exact go (j::sts') v (by rw[ed];exact .go (a0.trans e) bh p)
  ·rw[e];refine⟨_,rfl,_,rfl,?_⟩;rw[decide_eq_false (show¬V.str w0=V.non fromλz=>nomatch z)];refine⟨_,rfl,_,rfl,(by show 2<=B14;decide),λT hT=>?_⟩
   have sT:=qA2 hT (.tup [.ref g,.str w0]);have pl:=go [] (.str w0) (by rw[ed];exact .stop (a0.trans e))
   rw[K0] at pl;exact q T g sts (.str w0) _ ((sm.trans b).trans sT) pl qA1 u ((StandsAt.same ⟨_,c,N⟩ b).same sT) (by lia)
 ·refineλσ y a7=>opq λar a8=>?_;obtain⟨ss,r,sts,st,v4,v5,rfl,sm,c,N,a2,a1,lk,go⟩:=a7;refine a8 ?_;rw[A0,a9] at lk;have pl:=go [] .non (by rw[A0,a9,A69];exact .nil)
  rw[K0] at pl;refine⟨_,rfl,(by show 2<=B14;decide),λT hT=>?_⟩
  have sT:=qA2 hT (.tup [.ref g,.non]);exact q T g sts .non _ (sm.trans sT) pl qA1 u (StandsAt.same ⟨_,c,N⟩ sT) (by lia)
theorem qZ4 {Ac:Str} (h:Ac = "do"\/Ac = "clear"):inV (.str Ac) [.str "do",.str "clear"]=true:=by
 rcases h with rfl|rfl
 ·decide +kernel
 ·decide +kernel
theorem qP5:FnScope ["_law_net_here","_law_move"] ["_law_net_here","_law_move"] (qAA qFR):=qBK
theorem ok_Lis_move (F:Fun K "_law_is_move" "_law_is_move" qFR f fd) (d:mg "isinstance" = none) (n:mg "tuple" = none) (i:mg "len" = none) (k:mg "int" = none) (l:mg "bool" = none):FnOk P w K mg base CX0 1 f fd ["_law_net_here","_law_move"] qR2:=by
 refine F.okA qP5 λa0 A o s H vs Q E hr h=>?_;obtain⟨a,g,z,Ac,j,rfl,hN,c,e,u,m,q⟩:=h;refine⟨_,(qA4 (qBP (PW.pt (qM5 (qG3 (qD6 (qA9 qBM rfl d qB3 (qA0 (pv 1) (qA0 (qE5 (v:=.ty "tuple") rfl n qAU rfl) qA3))))) (qM5 (qAM qNL (qA9 qAC rfl i qBD (qA0 (pv 1) qA3)) qA7 (qAS _)) (qKY (qAM qNK (qB5 qBI (pv 1) qA7 (λ_ _=>rfl)) (qB7 (qA0 qBO (qA0 qBO qA3))) (by with_unfolding_all rfl)))))) (qA5 (qAG qEX)) qAL) (qA5 (qAG (qI8 (qA9 qBM rfl d qB3 (qA0 (qB5 qBI (pv 1) qA7 (λ_ _=>rfl)) (qA0 (qE5 (v:=.ty "int") rfl k qS8 rfl) qA3))) (qI8 (qaB (qA9 qBM rfl d qB3 (qA0 (qB5 qBI (pv 1) qA7 (λ_ _=>rfl)) (qA0 (qE5 (v:=.ty "bool") rfl l qX9 rfl) qA3)))) (qNI (qYG qfP qUZ qA7 (qB5 qBI (pv 1) qA7 (λ_ _=>rfl)) (qA9 qAC rfl i qBD (qA0 (pv 0) qA3))))))))),?_⟩
 try dsimp only[Cx.nox,Cx.wish,cxOf]
 obtain⟨x,hA,NL⟩:=id hN;have p:(((x.map V.ref).length:Nat):Int)=(z.length:Int):=by rw[A0,B6 NL]
 refine⟨_,rfl,_,"tuple",_,true,rfl,TyOf.tup c,rfl,_,rfl,?_⟩;refine⟨_,rfl,g,_,rfl,.inr (SqT.of c),rfl,_,rfl,?_⟩;rw[decide_eq_true (show V.int ((([V.str Ac,V.int j].length:Nat)):Int)=V.int 2 from rfl)];refine⟨_,rfl,g,_,_,_,rfl,rfl,SqT.of c,rfl,(by show 2<=B14;decide),λT hT=>?_⟩
 have t:=qA2 hT (.tup [.str "do",.str "clear"])
 refine⟨T,_,rfl,.inr (SqT.of qA1),rfl,rfl,_,rfl,?_⟩;rw[qZ4 e];have b:=t _ _ c;have r:=t _ _ hA;refine⟨_,rfl,g,_,_,_,rfl,rfl,SqT.of b,rfl,_,"int",_,true,rfl,TyOf.int j,qaK,_,rfl,?_⟩;refine⟨_,rfl,g,_,_,_,rfl,rfl,SqT.of b,rfl,_,"bool",_,false,rfl,TyOf.int j,qaL,_,rfl,_,rfl,?_⟩;refine⟨_,rfl,g,_,_,_,rfl,rfl,SqT.of b,rfl,_,_,rfl,rfl,_,rfl,?_⟩;rw[decide_eq_true (show(0:Int)<=j from u)];refine⟨_,rfl,a,_,rfl,.inr (SqT.of r),_,_,rfl,rfl,?_⟩;have y:=q _ t;rw[<- decide_eq_true (show j<(((x.map V.ref).length:Nat):Int) by rw[p];exact m)] at y
 exact y
theorem sc_Ldoes:FnScope ["_law_net_here","_law_rooms","_law_plan","_law_asked","_law_stands","_law_word_here"] ["_law_net_here","_law_rooms","_law_plan","_law_asked"] (qAA qM2):=qBK
theorem ok_Ldoes (F:Fun K "_law_does" "_law_does" qM2 f fd)
  (ab:Clb P w K mg base 2 qH6 qLC "_law_played" ["_law_net_here","_law_rooms","_law_plan"] qLR)
  (al:Clb P w K mg base 1 qHY qQ8 "_law_is_move" ["_law_net_here","_law_move"] qR2)
  (af:mg "isinstance" = none) (ac:mg "list" = none) (a1:mg "all" = none):FnOk P w K mg base CX0 3 f fd ["_law_net_here","_law_rooms","_law_plan","_law_asked"] qU4:=by
 refine F.okA sc_Ldoes λay A am s H vs Q E hr h=>?_;obtain⟨a,l,t,Ae,ms,Aa,Ad,b,rfl,PI,ah,hT,la,n,q⟩:=h;obtain⟨hN,wf,an,hP,aw,a3,r0,r1⟩:=id PI;have ap:Room 2 _:=hr;refine⟨_,(qA4 (qBP (PW.pt (qM5 (qG3 (qD6 (qA9 qBM rfl af qB3 (qA0 (pv 2) (qA0 (qE5 (v:=.ty "list") rfl ac qK9 rfl) qA3))))) (qKY (qG3 (qD6 (qA9 (qH9 rfl) rfl a1 qOH (qA0 (qC4 rfl (lcs (own:=["_law_move"]) (fv:=[0]) (by kernel_rfl)) (qBW (pv 2)) (λz1=>qBR 0) (λz1=>qAY) (λz1=>(qAR al hr rfl (qA0 (pv 1) (qA0 (pv 0) qA3))))) qA3))))))) (qA5 (qAG qEX)) qAL) (qA4 (qI7 (qAR ab hr rfl (qA0 (pv 0) (qA0 (pv 1) (qA0 (pv 2) qA3)))) (qG4 rfl (qAV (qAN (i:=4) sc_Ldoes.nd rfl (g8 rfl)) (qAV (qAN (i:=5) sc_Ldoes.nd rfl (E1 rfl)) qD2)))) (qA5 (qAG (qI8 (qaE (qNJ (pv 5))) (qNI (qA9 (qH9 rfl) rfl a1 qOH (qA0 (qC4 rfl (lcs (own:=["_law_work"]) (fv:=[4]) (by kernel_rfl)) (qCJ (pv 3)) (λz2=>qBR 0) (λz2=>qAY) (λz2=>(qD3 (qV1 (K:=K) rfl) (pv 0) (qB5 (qMH (K:=K) rfl) (pv 1) (qKH qG1 qA7) (λ_ _=>rfl)) (by with_unfolding_all rfl)))) qA3)))))))),?_⟩
 try dsimp only[Cx.nox,Cx.wish,cxOf]
 obtain⟨rs,hl,M⟩:=id hP;have au:=B6 M;refine⟨_,rfl,_,"list",_,true,rfl,TyOf.lst hl,rfl,_,rfl,?_⟩;refine⟨_,rfl,l,rfl,⟨_,SqL.of hl⟩,λp hp=>?_⟩;refine qDO (p:=p) (a:=l) (xs:=rs.map V.ref) (λk σ Hc=>∃(v0:Option V),σ=[v0,some (.ref a)]/\Same H Hc/\Hc p=some (.lst ((D4 k true).map V.bl))) ?_ ?_ ?_ ?_
 ·exact⟨none,rfl,qA2 hp _,qA1⟩
 ·rintro k σ Hc hk ⟨v0,rfl,sm,_⟩;exact SqL.of (sm _ _ hl)
 ·refineλk x σ Hc hx u=>opq λax a4=>?_;obtain⟨v0,rfl,sm,j⟩:=u;obtain⟨mv,aj,rfl⟩:=qBZ hx;obtain⟨⟨Ac,wk⟩,hm,hH⟩:=qAQ M aj;refine a4 ?_;have hk:=(A3.mp hm).1;obtain⟨hw,ag,ad⟩:=a3 _ (B1 hm);refine⟨_,rfl,_,rfl,a,mv,Ae,Ac,wk,rfl,hN.same sm,sm _ _ hH,hw,ag,ad,λH2 o=>?_⟩;refine⟨_,o _ _ j,qAW (by rw[A0,c8];lia),_,rfl,qAB (sm.trans o) hp,?_⟩
  rw[qA1,qXA]
 refineλσ Hc a7=>opq λaq a5=>?_;obtain⟨v0,rfl,sm,j⟩:=a7;refine a5 ?_;refine⟨p,_,rfl,SqL.of j,_,rfl,?_⟩;rw[qXG];refine⟨_,rfl,_,rfl,_,rfl,a,l,Ae,ms,Aa,rfl,PI.same sm,λT ls c v H3 ae pl gT ar SA lst=>?_⟩;obtain⟨ao,ai,el,_,_⟩:=ah.play .nil;obtain⟨e1,e2⟩:=Play.one a3 pl ai;subst e1 e2;obtain⟨e,aa,NK⟩:=SA;obtain⟨ss,r,ak,gr⟩:∃ss r,e=ss++[r]/\H3 r=some (.tup (b.map V.int)):=by
  have ne:e≠[]:=λz=>by rw[z] at NK;cases NK
  refine⟨e.dropLast,e.getLast ne,(List.dropLast_concat_getLast ne).symm,?_⟩;have lk:=B6 NK;have hk:e.length-1<e.length:=by rw[lk,C3];lia
  obtain⟨z,hz,gz⟩:=qAQ NK (A4 hk);have ez:z=b:=by
   rw[<- el];have:([]::c)[e.length-1]?=some (qNP [] c):=by
    rw[lk,C3,A47];exact qL6 c []
   rw[this] at hz;exact(D0 hz).symm
  rw[List.getLast_eq_getElem ne,<- ez];exact gz
 subst ak;have s3:=sm.trans ae;refine⟨T,_,rfl,SqT.of gT,rfl,_,_,rfl,_,_,rfl,rfl,?_⟩;refine⟨_,rfl,_,rfl,?_⟩;rw[decide_eq_true (rfl:V.non=V.non)];have m:atI ((ss++[r]).map V.ref) (-1)=some (.ref r):=by rw[B0];exact qIZ _ _
 refine⟨_,rfl,t,rfl,⟨_,SqT.of (s3 _ _ hT)⟩,λp2 a2=>?_⟩;refine qD7 (p:=p2) (a:=t) (xs:=Ad.map V.int) (λk σ g=>∃(v0:Option V),σ=[v0,some (.ref ls)]/\Same H3 g/\g p2=some (.lst ((D4 k true).map V.bl))) ?_ ?_ ?_ ?_
 ·exact⟨none,rfl,qA2 a2 _,qA1⟩
 ·rintro k σ g hk ⟨v0,rfl,sd,_⟩;exact SqT.of (sd _ _ (s3 _ _ hT))
 ·refineλk x σ g hx a9=>opq λav a6=>?_;obtain⟨v0,rfl,sd,d⟩:=a9;obtain⟨y,ey,rfl⟩:=qB1 hx;refine a6 ?_;have hk:=(A3.mp ey).1;refine⟨_,rfl,_,rfl,_,rfl,ls,_,_,_,rfl,rfl,SqL.of (sd _ _ aa),m,r,_,rfl,.inr (SqT.of (sd _ _ gr)),rfl,qDP b,_,d,qAW (by rw[A0,c8];lia),_,rfl,qAB sd a2,?_⟩
  show(Ag g p2 (.lst ((D4 k true).map V.bl++[V.bl (inV (.int y) (b.map V.int))]))) p2=_;rw[qGD,decide_eq_true (n _ (B1 ey)),qA1,qXA]
 ·refineλσ g a8=>opq λas a0=>?_;obtain⟨v0,rfl,sd,d⟩:=a8;refine a0 ?_;refine⟨p2,_,rfl,SqL.of d,?_⟩;rw[qXG];exact q g (s3.trans sd)
theorem qbM {j:Int}(a:0<=j)(b:j<=1000):CPow 1 j:=⟨a,by lia,by decide⟩
theorem qUA {n:Nat}(h:n<=12):2^n<=4096:=by
 have:=R4 (show 0<2 by decide) h
 simpa using this
theorem sc_Lcome:FnScope ["_law_net_here","_law_rooms","_law_needs","_law_found","_law_layer","_law_many","_law_cleared","_law_at","_law_work","_law_less","_law_bits","_law_more"] ["_law_net_here","_law_rooms"] (qAA qM3):=qBK
theorem ok_Lcome (F:Fun K "_law_come" "_law_come" qM3 f fd) (b8:mg "sum" = none) (bw:mg "list" = none) (a9:mg "len" = none) (qB4:mg "range" = none):FnOk P w K mg base CX0 1 f fd ["_law_net_here","_law_rooms"] qa5:=by
 refine F.okA sc_Lcome λcz A cc s H vs Q E hr h=>?_;obtain⟨a,Ae,Aa,rfl,hN,wf,bx,q⟩:=h;have hu:=qHR hr;have bv:=hr.units0;refine⟨_,(qA4 (qPA (i:=2) sc_Lcome.nd rfl rfl rfl (lcs (own:=["_law_one"]) (fv:=[]) (by kernel_rfl)) (qCJ (pv 0)) (λz1=>qBR 0) (λz1=>qAY) (λz1=>(qA9 (qX2 (K:=K) rfl rfl) rfl b8 qaV (qA0 (qC4 (X:=lcCx _ _ _ _ z1) rfl (lcs (own:=["_law_need"]) (fv:=[]) (by kernel_rfl)) (qM8 (K:=K) rfl (pv 0)) (λz2=>qBR 0) (λz2=>qAY) (λz2=>(qAO qUX qA7 (pv 0)))) qA3))) (by kernel_rfl)) (qA4 (qAE (i:=3) sc_Lcome.nd rfl (E1 rfl) (qUP (qM6 qA7 qA7 qUG) rfl rfl (by simp) (by decide))) (qA4 (qAE (i:=4) sc_Lcome.nd rfl (E1 rfl) (qBX (qA0 qA7 qA3))) (qA4 (qAE (i:=5) sc_Lcome.nd rfl (E1 rfl) qA7) (qA4 (qFS D3 (qAM (qUY bv) (pv 4) (qBX qA3) (qAS _)) (qA4 (qAE (i:=6) sc_Lcome.nd rfl (E1 rfl) (qAH qID rfl bw qK9 (qA0 (pv 4) qA3))) (qA4 (qAE (i:=7) sc_Lcome.nd rfl (E1 rfl) qA7) (qA4 (qFS D3 (qAM qUZ (pv 7) (qA9 qAC rfl a9 qBD (qA0 (pv 6) qA3)) (qAS _)) (qA4 (qBU D3 rfl (qBH rfl qB4 (qA0 (qA9 qAC rfl a9 qBD (qA0 (pv 0) qA3)) qA3)) (qAN (i:=8) sc_Lcome.nd rfl (E1 rfl)) (qA4 (qAE (i:=9) sc_Lcome.nd rfl (E1 rfl) (qAO qDN (qB5 qCF (pv 6) (pv 7) (λ_ _=>rfl)) (qAO qJK (qAO qUX qA7 (pv 8)) (qAO qRK (qAO qUW (qB5 qCF (pv 6) (pv 7) (λ_ _=>rfl)) (pv 8)) qA7)))) (qA5 (qBP (qDY (qGU hu (pv 9) (pv 3))) (qA4 (qE4 hu (pv 3) (pv 9) (pv 5) rfl) (qA5 (qD1 (qJI E9 G1 G2 qC0 (pv 6) (qA0 (pv 9) qA3))))) qAL)))) (qA5 (qAE (i:=7) sc_Lcome.nd rfl (E1 rfl) (qAO qC7 (pv 7) qA7))))) (qA4 (qAE (i:=5) sc_Lcome.nd rfl (E1 rfl) (qAO qC7 (pv 5) qA7)) (qA4 (qAE (i:=4) sc_Lcome.nd rfl (E1 rfl) (qBX qA3)) (qA5 (qBU D3 rfl (qBW (pv 6)) (qAN (i:=10) sc_Lcome.nd rfl (g8 rfl)) (qA5 (qBP (qAM qUZ (qA9 (qS5 rfl) rfl b8 qaV (qA0 (qC4 rfl (lcs (own:=["_law_work"]) (fv:=[10]) (by kernel_rfl)) (qBH rfl qB4 (qA0 (qA9 qAC rfl a9 qBD (qA0 (pv 0) qA3)) qA3)) (λz3=>qBR 0) (λz3=>qAY) (λz3=>(qAO qRK (qAO qUW (pv 1) (pv 0)) qA7))) qA3)) (pv 1) (qAS _)) (qA5 (qBU D3 rfl (qBH rfl qB4 (qA0 (qA9 qAC rfl a9 qBD (qA0 (pv 0) qA3)) qA3)) (qAN (i:=8) sc_Lcome.nd rfl (E1 rfl)) (qA4 (qAE (i:=11) sc_Lcome.nd rfl (E1 rfl) (qAO qfO (pv 10) (qAO qUX qA7 (pv 8)))) (qA5 (qBP (PW.pt (qdM (qAM qED (qAO qRK (pv 10) (qB5 qCF (pv 2) (pv 8) (λ_ _=>rfl))) (qB5 qCF (pv 2) (pv 8) (λ_ _=>rfl)) (qAS _)) (qbH (qDY (qGU hu (pv 11) (pv 3)))))) (qA4 (qE4 hu (pv 3) (pv 11) (pv 5) rfl) (qA5 (qD1 (qJI E9 G1 G2 qC0 (pv 4) (qA0 (pv 11) qA3))))) qAL))))) qAL)))))))))) (qA5 (qAG (qaD (pv 3))))))))),?_⟩
 try dsimp only[Cx.nox,Cx.wish,cxOf]
 obtain⟨rs,hA,NL⟩:=id hN;have l2:=qUA bx;have bo:rs.length=Ae.length:=B6 NL;have a2:(((rs.map V.ref).length:Nat):Int)=(Ae.length:Int):=by rw[A0,bo]
 have a7:((((rs.map V.ref).length:Nat):Int)).toNat=Ae.length:=by rw[a2];lia
 refine cut λN1 b0=>?_;refine⟨_,rfl,a,rfl,⟨_,SqT.of hA⟩,λp hp=>?_⟩;refine qD7 (p:=p) (a:=a) (xs:=rs.map V.ref) (λj σ Hd=>∃(v:Option V),σ=[v]/\Same H Hd/\Hd p=some (.lst ((natI ((Ae.take j).map mskN)).map V.int))) ?_ ?_ ?_ ?_
 ·exact⟨none,rfl,qA2 hp _,qA1⟩
 ·rintro j σ Hd hj ⟨v,rfl,sm,_⟩;exact SqT.of (sm _ _ hA)
 ·refineλj x σ Hd hx b5=>opq λcy be=>?_;obtain⟨v,rfl,sm,a1⟩:=b5;obtain⟨r,er,rfl⟩:=qBZ hx;refine be ?_;have hj:j<Ae.length:=by have:=(A3.mp er).1;lia
  have hz:=A4 hj;obtain⟨r',h3,h4⟩:=NL.get hz;rw[er] at h3;cases h3;have rz:=wf j _ hz;generalize Ae[j]=zs at h4 hz rz;have lz:=rz.len;refine⟨_,rfl,r,rfl,⟨_,SqT.of (sm _ _ h4)⟩,λp2 a5=>?_⟩;refine qD7 (p:=p2) (a:=r) (xs:=zs.map V.int) (λi σ He=>∃(v:Option V),σ=[v]/\Same Hd He/\He p2=some (.lst (((zs.take i).map λz=>(1:Int)*2^z.toNat).map V.int))) ?_ ?_ ?_ ?_
  ·exact⟨none,rfl,qA2 a5 _,qA1⟩
  ·rintro i σ He hi ⟨v,rfl,se,_⟩;exact SqT.of (se _ _ (sm _ _ h4))
  ·refineλi x σ He hx bd=>opq λcw bs=>?_;obtain⟨v,rfl,se,ab⟩:=bd;obtain⟨z,ez,rfl⟩:=qB1 hx;refine bs ?_;have hi:=(A3.mp ez).1;have zb:=rz.in_ z (B1 ez);refine⟨_,rfl,_,_,rfl,rfl,qbM zb.1 (by lia),_,ab,qAI (by rw[A0,A0,C4];lia),_,rfl,qAB se a5,?_⟩
   rw[qA1,C6,ez,C8,B0,B0]
   rfl
  ·refineλσ He bn=>opq λcx bh=>?_;obtain⟨v,rfl,se,ab⟩:=bn;refine bh ?_;rw[A0,qAT rfl] at ab;refine⟨p2,_,rfl,SqL.of ab,_,se _ _ a1,qAI (by rw[A0,qGW,A0,C4];lia),_,rfl,qAB (sm.trans se) hp,?_⟩
   rw[qA1,C6,hz,C8,B0,A51,qJO,B0,qVE]
   rfl
 refineλσ Hd bm=>opq λcv b6=>?_;obtain⟨v,rfl,af,gp⟩:=bm;refine b6 ?_;rw[A0,bo,qAT rfl] at gp;have fp:H p=none:=hp;clear hp v;refine b0 _ _ (cut λN2 b3=>?_);intro d hd;refine⟨qA1,[(D7 0,.int 0)],rfl,(by show 1<=15;decide),?_⟩
 rw[qHH];have aa:H d=none:=af.free hd;have sd:=qA2 hd (.dK (qG5 [] [((D7 0:Key),V.int 0)]));have gd:(Ag Hd d (.dK (qG5 [] [((D7 0:Key),V.int 0)]))) d=some (.dK (kvN [0] λ_=>0)):=qA1;have bb:p≠d:=qA6 gp hd;have u:=sd _ _ gp;have t:=af.trans sd;generalize Ag Hd d (.dK (qG5 [] [((D7 0:Key),V.int 0)]))=H1 at sd gd u t ⊢;refine b3 _ _ (cut λN3 bl=>?_);refine⟨(by show 1<=B14;decide),λl0 bf=>?_⟩
 have sl:=qA2 bf (.lst [.int 0]);have ba:(Ag H1 l0 (.lst [.int 0])) l0=some (.lst ((natI [0]).map V.int)):=qA1;have y:=sl _ _ gd;have a3:=sl _ _ u;have a4:=t.trans sl;generalize Ag H1 l0 (.lst [.int 0])=H2 at sl ba y a3 a4 ⊢;refine bl _ _ (cut λN4 bi=>?_);refine bi _ _ (cut λN5 c1=>?_);clear b0 b3 bl bi gd gp u sd sl af t bf hd;refine⟨λm σ l=>∃(ks ly:List Nat) (f:Nat->Nat) (many:Nat) (ll:Addr) (v6 v7 v8 v9 v10 v11:Option V),σ=[some (.ref a),some (.int Aa),some (.ref p),some (.ref d),some (.ref ll),some (.int (many:Int)),v6,v7,v8,v9,v10,v11]/\m=2^Ae.length+1-many/\Same H l/\l p=some (.lst ((natI (Ae.map mskN)).map V.int))/\l d=some (.dK (kvN ks f))/\l ll=some (.lst ((natI ly).map V.int))/\A1 Ae Aa many ks f ly 0 0/\(ly≠[]->many<ks.length),
  ⟨_,[0],[0],λ_=>0,0,l0,none,none,none,none,none,none,rfl,rfl,a4,a3,y,ba,A1.start,λ_=>by decide⟩,?_⟩
 refineλm σ l b4=>opq λcu bq=>?_;obtain⟨ks,ly,f,many,ll,v6,v7,v8,v9,v10,v11,rfl,rfl,sm,gp,gd,gl,I1,lm⟩:=b4;refine bq ?_;refine⟨_,rfl,(by show 0<=B14;decide),λe he=>?_⟩
 have se:=qA2 he (.lst []);refine⟨ll,e,_,rfl,rfl,SqL.of (se _ _ gl),SqL.of qA1,_,rfl,?_⟩;have u:=se _ _ gp;have y:=se _ _ gd;have am:=se _ _ gl;have t:=sm.trans se;generalize Ag l e (.lst [])=H3 at u y am t ⊢;clear se he gp gd gl sm;refine ite2 (λcn=>?_) (λcn=>?_)
 ·have ce:ly≠[]:=λz=>by rw[z] at cn;cases cn
  have lk:=lm ce;have kl:=I1.fd.len;refine qVB λW0 c8=>?_;refine cut λM1 bk=>?_;refine⟨_,rfl,ll,_,rfl,.inl (SqL.of am),λc hc=>?_⟩;have fc:H c=none:=t.free hc;have sc:=qA2 hc (.lst ((natI ly).map V.int));have c0:p≠c:=qA6 u hc;have aq:d≠c:=qA6 y hc;have gc:(Ag H3 c (.lst ((natI ly).map V.int))) c=some (.lst ((natI ly).map V.int)):=qA1;have a3:=sc _ _ u;have au:=sc _ _ y;have a4:=t.trans sc;generalize Ag H3 c (.lst ((natI ly).map V.int))=H4 at gc a3 au a4 ⊢;clear sc hc u y am t;refine bk _ _ (cut λM2 b7=>?_);refine b7 _ _ (cut λM3 bz=>?_);clear bk b7;refine⟨λm σ l=>∃(ks cl:List Nat) (f:Nat->Nat) (at_:Nat) (v8 v9:Option V),σ=[some (.ref a),some (.int Aa),some (.ref p),some (.ref d),some (.ref ll),some (.int (many:Int)),some (.ref c),some (.int (at_:Int)),v8,v9,v10,v11]/\m=2^Ae.length-at_/\Same H l/\l p=some (.lst ((natI (Ae.map mskN)).map V.int))/\l d=some (.dK (kvN ks f))/\l c=some (.lst ((natI cl).map V.int))/\A1 Ae Aa many ks f cl at_ 0/\many<ks.length,
   ⟨_,ks,ly,f,0,v8,v9,rfl,rfl,a4,a3,au,gc,I1,lk⟩,?_⟩
  clear a3 au gc a4 I1 lk kl lm;refineλm σ l b1=>opq λct bt=>?_;obtain⟨ks,cl,f,at_,v8,v9,rfl,rfl,sm,gp,gd,gc,I1,lk⟩:=b1;refine bt ?_;have ax:=I1.len;have kl:=I1.fd.len;refine⟨_,rfl,_,rfl,c,_,rfl,.inl (SqL.of gc),_,_,rfl,rfl,_,rfl,?_⟩;have b2:(((((natI cl).map V.int).length:Nat):Int))=(cl.length:Int):=by rw[A0,qGW]
  dsimp only;rw[b2];refine ite2 (λca=>?_) (λca=>?_)
  ·have bp:(at_:Int)<(cl.length:Int):=of_decide_eq_true ca;refine qVB λW1 c2=>?_;refine cut λL1 av=>?_;refine⟨_,rfl,a,_,rfl,.inr (SqT.of (sm _ _ hA)),_,rfl,by rw[a2];lia,by rw[a2];lia,qLA (lo:=0) (n:=((((rs.map V.ref).length:Nat):Int)).toNat) (λk σ l=>∃(ks cl:List Nat) (f:Nat->Nat) (v8 v9:Option V),σ=[some (.ref a),some (.int Aa),some (.ref p),some (.ref d),some (.ref ll),some (.int (many:Int)),some (.ref c),some (.int (at_:Int)),v8,v9,v10,v11]/\Same H l/\l p=some (.lst ((natI (Ae.map mskN)).map V.int))/\l d=some (.dK (kvN ks f))/\l c=some (.lst ((natI cl).map V.int))/\A1 Ae Aa many ks f cl at_ k/\many<ks.length/\at_<cl.length)
    ⟨ks,cl,f,v8,v9,rfl,sm,gp,gd,gc,I1,lk,by lia⟩ ?_ ?_⟩
   ·clear sm gp gd gc I1 lk ax kl ca bp b2;refineλk σ l hk bj Na bu=>opq λcs b9=>?_;obtain⟨ks,cl,f,v8,v9,rfl,sm,gp,gd,gc,I1,lk,la⟩:=bj;refine b9 ?_;rw[a7] at hk;have ax:=I1.len;have kl:=I1.fd.len;have ec:cl[at_]?=some cl[at_]:=A4 la;generalize cl[at_]=x at ec;have ga:atI ((natI cl).map V.int) (at_:Int)=some (.int (x:Int)):=qCY (by lia) (by rw[D2,C1,qRQ ec];rfl)
    have e0:(0+(k:Int)).toNat=k:=by lia
    refine cut λL2 c5=>?_;refine⟨_,rfl,_,rfl,c,_,_,_,rfl,rfl,SqL.of gc,ga,_,rfl,_,_,rfl,rfl,qbM (by lia) (by lia),_,rfl,_,rfl,c,_,_,_,rfl,rfl,SqL.of gc,ga,_,rfl,_,_,rfl,rfl,(by show(0:Int)<=0+(k:Int);lia),_,_,rfl,rfl,_,_,rfl,rfl,?_,_,_,rfl,rfl,?_⟩
    ·rw[e0,qQN];refine .inr ⟨by lia,?_⟩
     have:=A13 (x/2^k) (show 0<2 by decide)
     lia
    dsimp only;rw[e0,qcP];refine c5 _ _ ?_;refine⟨_,rfl,_,rfl,d,_,rfl,DGet.k (k:=D7 ((clrb x k:Nat):Int)) gd,_,rfl,?_⟩;rw[qPY];by_cases ck:clrb x k∈ks
    ·rw[if_pos ck];exact bu _ _ ⟨ks,cl,f,_,_,rfl,sm,gp,gd,gc,I1.hit ec ck,lk,la⟩
    ·rw[if_neg ck];refine iteT (cut λL3 ac=>?_);refine⟨_,rfl,_,rfl,_,rfl,d,_,rfl,DPut.k (k:=D7 ((clrb x k:Nat):Int)) gd (qAW (by rw[qPZ];lia)),?_⟩
     rw[qVU ck];refine ac _ _ ?_;have a0:(Ag l d (.dK (kvN (ks++[clrb x k]) (fset f (clrb x k) many)))) c=some (.lst ((natI cl).map V.int)):=by rw[qA8 aq.symm];exact gc
     refine⟨_,rfl,.inl ⟨rfl,_,SqL.of a0⟩,_,rfl,c,_,_,rfl,rfl,a0,qAW (by rw[A0,qGW];lia),?_⟩
     refine bu _ _ ⟨ks++[clrb x k],cl++[clrb x k],fset f (clrb x k) many,_,_,rfl,qAB (qAB sm aa) fc,by rw[qA8 c0,qA8 bb];exact gp,by rw[qA8 aq,qA1],?_,I1.add ec hk ck,by rw[A8];lia,by rw[A8];lia⟩
     rw[qA1,qJO,B0]
     rfl
   ·refineλσ l ay=>opq λcp ak=>?_;obtain⟨ks,cl,f,v8,v9,rfl,sm,gp,gd,gc,I1,lk,la⟩:=ay;refine ak ?_;rw[a7] at I1;have ax:=I1.len;refine av _ _ ?_;refine⟨_,rfl,_,_,rfl,rfl,?_⟩;exact c2 _ _ ⟨2^Ae.length-(at_+1),by lia,ks,cl,f,at_+1,_,_,rfl,rfl,sm,gp,gd,gc,I1.next,lk⟩
  ·have bp:¬(at_:Int)<(cl.length:Int):=of_decide_eq_false (F5.mpr ca);refine bz _ _ (cut λM4 c7=>?_);refine⟨_,rfl,_,_,rfl,rfl,?_⟩;refine c7 _ _ (cut λM5 c3=>?_);refine⟨(by show 0<=B14;decide),λlz a6=>?_⟩
   have c9:H lz=none:=sm.free a6;have sz:=qA2 a6 (.lst []);have cb:p≠lz:=qA6 gp a6;have bc:d≠lz:=qA6 gd a6;have cd:c≠lz:=qA6 gc a6;have gz:(Ag l lz (.lst [])) lz=some (.lst ((natI []).map V.int)):=qA1;have u:=sz _ _ gp;have y:=sz _ _ gd;have a0:=sz _ _ gc;have t:=sm.trans sz;generalize Ag l lz (.lst [])=H5 at gz u y a0 t ⊢;clear sz a6 gp gd gc sm;refine c3 _ _ ?_;have J0:=I1.two (by lia)
   refine⟨_,rfl,c,rfl,⟨_,SqL.of a0⟩,qJX (a:=c) (xs:=(natI cl).map V.int) (λi σ l=>∃(ks ly:List Nat) (f:Nat->Nat) (v8 v10 v11:Option V),σ=[some (.ref a),some (.int Aa),some (.ref p),some (.ref d),some (.ref lz),some (.int ((many+1:Nat):Int)),some (.ref c),some (.int (at_:Int)),v8,v9,v10,v11]/\Same H l/\l p=some (.lst ((natI (Ae.map mskN)).map V.int))/\l d=some (.dK (kvN ks f))/\l lz=some (.lst ((natI ly).map V.int))/\l c=some (.lst ((natI cl).map V.int))/\A2 Ae Aa many ks f cl ly i 0/\many+1+ly.length<=ks.length)
    ⟨ks,[],f,v8,v10,v11,rfl,t,u,y,gz,a0,J0,by simp;lia⟩ (λi σ l _ hP=>by obtain⟨_,_,_,_,_,_,_,_,_,_,_,g,_⟩:=hP;exact SqL.of g) ?_ ?_⟩
   ·clear u y a0 gz t J0 I1 lk kl;refineλi x0 σ l hx ae Nb br=>opq λci aw=>?_;obtain⟨ks,ly,f,v8,v10,v11,rfl,sm,gp,gd,gz,gc,J,lk⟩:=ae;obtain⟨z,ez,rfl⟩:=qB1 hx;obtain⟨x,ec,rfl⟩:=qbX ez;refine aw ?_;refine⟨_,rfl,a,_,rfl,.inr (SqT.of (sm _ _ hA)),_,rfl,by rw[a2];lia,by rw[a2];lia,λp2 a5=>?_⟩
    refine qDZ (p:=p2) (lo:=0) (n:=((((rs.map V.ref).length:Nat):Int)).toNat) (λk σ Hd=>∃(v:Option V),σ=[v,some (.int (x:Int))]/\Same l Hd/\Hd p2=some (.lst ((((G8 k).map λk=>((x/2^k%2:Nat):Int))).map V.int))) ?_ ?_ ?_
    ·exact⟨none,rfl,qA2 a5 _,qA1⟩
    ·refineλk σ Hd hk az=>opq λcg ar=>?_;obtain⟨v,rfl,sd,a1⟩:=az;refine ar ?_;rw[a7] at hk;have e0:(0+(k:Int)).toNat=k:=by lia
     refine⟨_,rfl,_,rfl,_,_,rfl,rfl,(by show(0:Int)<=0+(k:Int);lia),_,_,rfl,rfl,_,a1,qAI (by rw[A0,A0,c6];lia),_,rfl,qAB sd a5,?_⟩
     dsimp only;rw[qA1,e0,qQN,A10,B0,B0]
     rfl
    ·refineλσ Hd an=>opq λco ai=>?_;obtain⟨v,rfl,sd,a1⟩:=an;refine ai ?_;rw[a7] at a1;refine⟨p2,_,rfl,SqL.of a1,_,rfl,_,_,rfl,rfl,_,rfl,?_⟩;dsimp only;rw[qS4];have u:=sd _ _ gp;have y:=sd _ _ gd;have a8:=sd _ _ gz;have a0:=sd _ _ gc;have t:=sm.trans sd;clear gp gd gz gc sm a1 sd a5;refine ite2 (λcr=>?_) (λcr=>?_)
     ·have aj:(cntN Ae.length x:Int)<Aa:=of_decide_eq_true cr;refine⟨_,rfl,a,_,rfl,.inr (SqT.of (t _ _ hA)),_,rfl,by rw[a2];lia,by rw[a2];lia,qLA (lo:=0) (n:=((((rs.map V.ref).length:Nat):Int)).toNat) (λk σ l=>∃(ks ly:List Nat) (f:Nat->Nat) (v8 v11:Option V),σ=[some (.ref a),some (.int Aa),some (.ref p),some (.ref d),some (.ref lz),some (.int ((many+1:Nat):Int)),some (.ref c),some (.int (at_:Int)),v8,v9,some (.int (x:Int)),v11]/\Same H l/\l p=some (.lst ((natI (Ae.map mskN)).map V.int))/\l d=some (.dK (kvN ks f))/\l lz=some (.lst ((natI ly).map V.int))/\l c=some (.lst ((natI cl).map V.int))/\A2 Ae Aa many ks f cl ly i k/\many+1+ly.length<=ks.length)
       ⟨ks,ly,f,v8,v11,rfl,t,u,y,a8,a0,J,lk⟩ ?_ ?_⟩
      ·clear u y a8 a0 t J lk;refineλk σ l hk al Nc ad=>opq λcj ah=>?_;obtain⟨ks,ly,f,v8,v11,rfl,sm,gp,gd,gz,gc,J,lk⟩:=al;refine ah ?_;rw[a7] at hk;have kl:=J.fd.len;have e0:(0+(k:Int)).toNat=k:=by lia
       have bg:=A4 hk;have gm:atI ((natI (Ae.map mskN)).map V.int) (0+(k:Int))=some (.int ((nxt Ae k:Nat):Int)):=qCY (by lia) (by
        rw[e0,C1,qRQ (b:=nxt Ae k) (by rw[C1,bg];unfold nxt;rw[bg];rfl)]
        rfl)
       refine cut λL1 av=>?_;refine⟨_,rfl,_,rfl,_,_,rfl,rfl,qbM (by lia) (by lia),_,_,rfl,rfl,?_⟩
       dsimp only;rw[e0,qPB,qXB];refine av _ _ ?_;refine⟨_,rfl,_,rfl,_,rfl,p,_,_,_,rfl,rfl,SqL.of gp,gm,_,_,rfl,rfl,_,rfl,_,rfl,p,_,_,_,rfl,rfl,SqL.of gp,gm,rfl,_,rfl,?_⟩;dsimp only;have c4:decide (V.int (U8 (x:Int) ((nxt Ae k:Nat):Int))=V.int ((nxt Ae k:Nat):Int))=decide (x &&& nxt Ae k=nxt Ae k):=decide_eq_decide.mpr ⟨λz=>by have:=V.int.inj z;rw[qFY] at this;lia,λz=>by rw[qFY,z]⟩
       rw[c4];by_cases cm:x &&& nxt Ae k=nxt Ae k
       ·rw[decide_eq_true cm];have cn:can Ae Aa x k:=⟨aj,hk,cm⟩;refine⟨_,rfl,_,rfl,d,_,rfl,DGet.k (k:=D7 ((x ||| 2^k:Nat):Int)) gd,_,rfl,?_⟩;rw[qPY];by_cases ck:x ||| 2^k∈ks
        ·rw[if_pos ck];exact ad _ _ ⟨ks,ly,f,_,_,rfl,sm,gp,gd,gz,gc,J.hit ec λ_=>ck,lk⟩
        ·rw[if_neg ck];refine iteT (cut λL3 ac=>?_);refine⟨_,rfl,_,rfl,_,rfl,d,_,rfl,DPut.k (k:=D7 ((x ||| 2^k:Nat):Int)) gd (qAW (by rw[qPZ];lia)),?_⟩
         rw[qVU ck];refine ac _ _ ?_;have a8:(Ag l d (.dK (kvN (ks++[x ||| 2^k]) (fset f (x ||| 2^k) (many+1))))) lz=some (.lst ((natI ly).map V.int)):=by rw[qA8 bc.symm];exact gz
         refine⟨_,rfl,.inl ⟨rfl,_,SqL.of a8⟩,_,rfl,lz,_,_,rfl,rfl,a8,qAW (by rw[A0,qGW];lia),?_⟩
         refine ad _ _ ⟨ks++[x ||| 2^k],ly++[x ||| 2^k],fset f (x ||| 2^k) (many+1),_,_,rfl,qAB (qAB sm aa) c9,by rw[qA8 cb,qA8 bb];exact gp,by rw[qA8 bc,qA1],?_,by rw[qA8 cd,qA8 aq.symm];exact gc,J.add ec cn ck,by rw[A8,A8,B3];lia⟩
         rw[qA1,qJO,B0]
         rfl
       ·rw[decide_eq_false cm];exact ad _ _ ⟨ks,ly,f,_,_,rfl,sm,gp,gd,gz,gc,J.hit ec λc=>absurd c.2.2 cm,lk⟩
      ·refineλσ l as=>opq λch ag=>?_;obtain⟨ks,ly,f,v8,v11,rfl,sm,gp,gd,gz,gc,J,lk⟩:=as;refine ag ?_;rw[a7] at J;exact br _ _ ⟨ks,ly,f,_,_,_,rfl,sm,gp,gd,gz,gc,J.next,lk⟩
     ·have aj:¬(cntN Ae.length x:Int)<Aa:=of_decide_eq_false (F5.mpr cr);exact br _ _ ⟨ks,ly,f,_,_,_,rfl,t,u,y,a8,a0,J.skip ec aj,lk⟩
   ·refineλσ l ao=>opq λcq ap=>?_;obtain⟨ks,ly,f,v8,v10,v11,rfl,sm,gp,gd,gz,gc,J,lk⟩:=ao;refine ap ?_;have kl:=J.fd.len;rw[A0,qGW] at J;refine c8 _ _ ⟨2^Ae.length+1-(many+1),by lia,ks,ly,f,many+1,lz,_,_,_,_,_,_,rfl,rfl,sm,gp,gd,gz,J.one (A7 _),λcf=>?_⟩
    have:=A36.mpr cf
    lia
 ·have le:ly=[]:=by
   cases ly with
   |nil=>rfl
   |cons x xs=>exact absurd rfl cn
  subst le;refine c1 _ _ ?_;refine⟨_,rfl,d,_,rfl,y,λo=>?_⟩;exact q d o ks f _ (qAB t aa) aa qA1 I1.come
theorem sc_use_counts:FnScope ["net","works","counts","work","need"] ["net","works"] (qAA qDT):=qBK
theorem ok_use_counts (F:Fun K "use_counts" "use_counts" qDT f fd) (ab:mg "len" = none):FnOk P w K mg base CX0 1 f fd ["net","works"] qdC:=by
 refine F.okA sc_use_counts λaj A aa s H vs Q E hr h=>?_;obtain⟨a,lw,Ae,ws,rfl,hN,wf,ac,a1,wb,q⟩:=h;refine⟨_,(qA4 (qAE (i:=2) sc_use_counts.nd rfl (E1 rfl) (qAO qRJ (qBX (qA0 qA7 qA3)) (qA9 qAC rfl ab qBD (qA0 (pv 0) qA3)))) (qA4 (qBU D3 rfl (qBW (pv 1)) (qAN (i:=3) sc_use_counts.nd rfl (E1 rfl)) (qA5 (qBU D3 rfl (qCJ (qB5 qBI (pv 0) (pv 3) (λ_ _=>rfl))) (qAN (i:=4) sc_use_counts.nd rfl (E1 rfl)) (qA5 (qbL (pv 2) (pv 4) qZF qA7 qaN qIP))))) (qA5 (qAG (pv 2))))),?_⟩
 try dsimp only[Cx.nox,Cx.wish,cxOf]
 obtain⟨rs,hA,NL⟩:=id hN;have ak:=B6 NL;have l:(((rs.map V.ref).length:Nat):Int)=(Ae.length:Int):=by rw[A0,B6 NL]
 refine⟨(by show 1<=B14;decide),λp0 ad=>?_⟩
 have s0:=qA2 ad (.lst [.int 0]);refine⟨_,rfl,a,_,rfl,.inr (SqT.of (s0 _ _ hA)),p0,_,_,rfl,rfl,qA1,by rw[l];lia,by rw[l];lia,?_,λd t=>?_⟩
 ·rw[l,B16];simp;lia
 have a4:H d=none:=s0.free t;have s1:=s0.trans (qA2 t (.lst (D4 ((((rs.map V.ref).length:Nat):Int)).toNat [V.int 0]).flatten));have a5:(Ag (Ag H p0 (.lst [.int 0])) d (.lst (D4 ((((rs.map V.ref).length:Nat):Int)).toNat [V.int 0]).flatten)) d=some (.lst ((D4 Ae.length (0:Int)).map V.int)):=by
  rw[qA1,rep0,l,D2]
 generalize Ag (Ag H p0 (.lst [.int 0])) d (.lst (D4 ((((rs.map V.ref).length:Nat):Int)).toNat [V.int 0]).flatten)=H1 at s1 a5 ⊢;refine⟨_,rfl,lw,rfl,⟨_,SqL.of (s1 _ _ a1)⟩,qFW (a:=lw) (xs:=ws.map V.int) (λi σ p=>∃(cs:List Int) (v3 v4:Option V),σ=[some (.ref a),some (.ref lw),some (.ref d),v3,v4]/\Same H p/\p d=some (.lst (cs.map V.int))/\CntX Ae.length cs (nds Ae (ws.take i)))
  ⟨_,none,none,rfl,s1,a5,CntX.nil _⟩ (λi σ p _ hP=>by obtain⟨_,_,_,_,m,_⟩:=hP;exact SqL.of (m _ _ a1)) ?_ ?_⟩
 ·refineλi x σ p hx a8=>opq λai a9=>?_;obtain⟨cs,v3,v4,rfl,m,n,ct⟩:=a8;obtain⟨z,ez,rfl⟩:=qB1 hx;refine a9 ?_;have zb:=wb z (B1 ez);have hi:z.toNat<Ae.length:=by lia
  obtain⟨ah,r,h1,l1,h2,h3⟩:=hN.get (A4 hi);have rz:=wf z.toNat _ (A4 hi);have fs:=qYM (Ae:=Ae) ez;rw[qB8 (A4 hi)] at fs;generalize Ae[z.toNat]=zs at h3 rz fs;refine⟨_,rfl,_,rfl,a,_,_,_,rfl,rfl,SqT.of (m _ _ h1),qCY zb.1 h2,r,rfl,⟨_,SqT.of (m _ _ h3)⟩,qHS (a:=r) (xs:=zs.map V.int) (λk σ u=>∃(cs:List Int) (v4:Option V),σ=[some (.ref a),some (.ref lw),some (.ref d),some (.int z),v4]/\Same H u/\u d=some (.lst (cs.map V.int))/\CntX Ae.length cs (nds Ae (ws.take i)++zs.take k))
   ⟨cs,v4,rfl,m,n,by simpa using ct⟩ (λk σ u _ hP=>by obtain⟨_,_,_,e,_⟩:=hP;exact SqT.of (e _ _ h3)) ?_ ?_⟩
  ·refineλk x σ u hx a0=>opq λag a2=>?_;obtain⟨cs,v4,rfl,e,g,b⟩:=a0;obtain⟨y,ey,rfl⟩:=qB1 hx;refine a2 ?_;have o:=rz.in_ y (B1 ey);have hc:=b.get o.1 (by lia)
   generalize ((List.count y (nds Ae (ws.take i)++zs.take k):Nat):Int)=c at hc;refine⟨_,rfl,_,rfl,d,_,_,_,rfl,rfl,SqL.of g,qCY o.1 (by rw[C1,hc];rfl),_,_,rfl,rfl,d,_,_,y.toNat,rfl,rfl,g,?_,?_⟩
   ·have:=qQ2 (xs:=cs.map V.int) (j:=y.toNat) (by rw[A0,b.len];lia)
    rw[show((y.toNat:Nat):Int)=y by lia] at this
    exact this
   ·refine⟨cs.set y.toNat (c+1),_,rfl,qAB e a4,?_,?_⟩
    ·rw[qA1,A12]
    ·rw[C6,ey,C8,<- F3];exact b.bump o.1 (by lia) hc
  ·refineλσ u a7=>opq λaf a3=>?_;obtain⟨cs,v4,rfl,e,g,b⟩:=a7;refine a3 ?_;rw[A0,qAT rfl,<- fs] at b;exact⟨cs,_,_,rfl,e,g,b⟩
 ·refineλσ p v=>opq λae a6=>?_;obtain⟨cs,v3,v4,rfl,m,n,ct⟩:=v;refine a6 ?_;rw[A0,qAT rfl] at ct;exact⟨_,rfl,q d cs p m a4 n ct⟩
theorem sc_is_tree:FnScope ["net","work","needed","counts"] ["net","work"] (qAA qGK):=qBK
theorem ok_is_tree (F:Fun K "is_tree" "is_tree" qGK f fd)
  (a6:Clb P w K mg base 1 qCA qDI "all_needed" ["net","asked"] qXY)
  (a3:Clb P w K mg base 1 qFD qMJ "use_counts" ["net","works"] qdC)
  (a4:mg "all" = none):FnOk P w K mg base CX0 2 f fd ["net","work"] qR1:=by
 refine F.okA sc_is_tree λac A a1 s H vs Q E t h=>?_;obtain⟨a,u,b,rfl,hN,wf,d,w0,w1,q⟩:=h;have aa:Room 1 _:=t;have a7:Room 1 _:=t;refine⟨_,(qA4 (qAE (i:=2) sc_is_tree.nd rfl (E1 rfl) (qAR a6 t rfl (qA0 (pv 0) (qA0 (qB7 (qA0 (pv 1) qA3)) qA3)))) (qA4 (qAE (i:=3) sc_is_tree.nd rfl (g8 rfl) (qAR a3 t rfl (qA0 (pv 0) (qA0 (pv 2) qA3)))) (qA5 (qAG (qA9 (qH9 rfl) rfl a4 qOH (qA0 (qC4 rfl (lcs (own:=["other"]) (fv:=[3,1]) (by kernel_rfl)) (qBW (pv 2)) (λz1=>qBR 0) (λz1=>(qEJ (qAM qNL (pv 0) (pv 2) (qAS _)))) (λz1=>(qD3 qED (qB5 (qMH (K:=K) rfl) (pv 1) (pv 0) (λ_ _=>rfl)) qA7 (qAS _)))) qA3)))))),?_⟩
 try dsimp only[Cx.nox,Cx.wish,cxOf]
 refine⟨_,rfl,_,rfl,(by show 1<=B14;decide),λtp a5=>?_⟩
 have s1:=qA2 a5 (.tup [.int b]);refine⟨a,tp,u,[b],rfl,hN.same s1,wf,d,qA1,λx hx=>by rw[A5.mp hx];exact⟨w0,w1⟩,λl k H1 a0 fl gl nd=>?_⟩
 have s2:=s1.trans a0;refine⟨_,rfl,_,rfl,a,l,u,k,rfl,hN.same s2,wf,d,gl,nd.1.in_,λco cs H2 g ab a2 ct=>?_⟩;have s3:=s2.trans g;refine⟨_,rfl,l,rfl,⟨_,SqL.of (g _ _ gl)⟩,λp hp=>?_⟩;refine qDO (p:=p) (a:=l) (xs:=k.map V.int) (λi σ j=>∃(v0:Option V),σ=[v0,some (.ref co),some (.int b)]/\Same H2 j/\j p=some (.lst ((((k.take i).filter λx=>decide (x≠b)).map λx=>decide (V.int (cI u k x)=V.int 1)).map V.bl))) ?_ ?_ ?_ ?_
 ·exact⟨none,rfl,qA2 hp _,qA1⟩
 ·rintro i σ j hi ⟨v0,rfl,sd,_⟩;exact SqL.of (sd _ _ (g _ _ gl))
 ·refineλi x σ j hx o=>opq λa9 r=>?_;obtain⟨v0,rfl,sd,c⟩:=o;obtain⟨y,v,rfl⟩:=qB1 hx;refine r ?_;have yb:=nd.1.in_ y (B1 v);have lz:=nd.1.len;have lk:=qCH (p:=λx=>decide (x≠b)) (l:=k) (i:=i);have li:=(A3.mp v).1;refine⟨_,rfl,_,rfl,rfl,_,rfl,?_⟩;rw[qCN v];by_cases e:y=b
  ·rw[decide_eq_true (show V.int y=V.int b by rw[e]),decide_eq_false (show¬y≠b fromλz=>z e)]
   refine⟨_,rfl,sd,?_⟩;simpa using c
  ·rw[decide_eq_false (show¬V.int y=V.int b fromλz=>e (V.int.inj z)),decide_eq_true (show y≠b from e)];refine⟨_,rfl,_,rfl,co,_,_,_,rfl,rfl,SqL.of (sd _ _ a2),qCY yb.1 (by rw[C1,ct.get yb.1 yb.2];rfl),rfl,_,c,qAI (by rw[A0,A0];lia),_,rfl,qAB sd hp,?_⟩
   rw[qA1,if_pos rfl,B0,B0]
   rfl
 ·refineλσ j n=>opq λa8 m=>?_;obtain⟨v0,rfl,sd,c⟩:=n;refine m ?_;rw[A0,qAT rfl] at c;refine⟨p,_,rfl,SqL.of c,?_⟩;rw[qXV];exact q k j (s3.trans sd) nd
theorem qKF:FnScope ["net","work"] ["net","work"] (qAA qDA):=qBK
theorem ok_demand_tree (F:Fun K "demand_tree" "demand_tree" qDA f fd) (d:Clb P w K mg base 2 qK4 qTF "is_tree" ["net","work"] qR1):FnOk P w K mg base CX0 3 f fd ["net","work"] qNB:=by
 refine F.okA qKF λk A c s H u Q E m h=>?_;obtain⟨a,j,b,rfl,⟨g,l,e,n,r,i⟩,q⟩:=h;refine⟨_,(qA5 (qBP (qG3 (qD6 (qAR d m rfl (qA0 (pv 0) (qA0 (pv 1) qA3))))) qJE qAL)),?_⟩
 try dsimp only[Cx.nox,Cx.wish,cxOf]
 refine⟨_,rfl,_,rfl,a,j,b,rfl,g,l,by lia,n,by lia,λt p o N=>?_⟩
 rw[(qW1 N).mp i];exact⟨_,rfl,q p o⟩
theorem sc_number_over:FnScope ["falling","taken"] ["falling"] (qAA qD8):=qBK
theorem ok_number_over (F:Fun K "number_over" "number_over" qD8 f fd) (z:mg "enumerate" = none) (u:mg "max" = none) (t:mg "len" = none):FnOk P w K mg base CX0 1 f fd ["falling"] qa3:=by
 refine F.okA sc_number_over λa2 A r s H vs Q E hr h=>?_;obtain⟨p,d,rfl,hp,ld,q⟩:=h;refine⟨_,(qA4 (qPA (i:=1) sc_number_over.nd rfl rfl rfl (lcs (own:=["ahead","number"]) (fv:=[]) (by kernel_rfl)) (qPG rfl z qE2 (qA0 (pv 0) qA3)) (λz1=>qPH (K:=K) (n:=2) rfl rfl (qAV (qBR 0) (qAV (qBR 1) qD2)) rfl rfl) (λz1=>qAY) (λz1=>(qAO qC7 (pv 1) (pv 0))) (by kernel_rfl)) (qA5 (qAG (qA9 (qK8 rfl) rfl u qS7 (qA0 (qAO qL2 (qBX (qA0 (qAO qC7 (qA9 qAC rfl t qBD (qA0 (pv 0) qA3)) qA7) qA3)) (pv 1)) qA3))))),?_⟩
 try dsimp only[Cx.nox,Cx.wish,cxOf]
 refine⟨_,rfl,p,rfl,⟨_,SqL.of hp⟩,λl hl=>?_⟩;refine qVM (p:=l) (a:=p) (xs:=d.map V.int) (λi σ g=>∃(v w:Option V),σ=[v,w]/\Same H g/\g l=some (.lst ((qD5 d i).map V.int))) ?_ ?_ ?_ ?_
 ·exact⟨none,none,rfl,qA2 hl _,qA1⟩
 ·rintro i σ g hi ⟨v,w,rfl,sm,_⟩;exact SqL.of (sm _ _ hp)
 ·refineλi x σ g T hx j hT=>opq λa1 k=>?_;obtain⟨v,w,rfl,sm,e⟩:=j;obtain⟨y,ey,rfl⟩:=qB1 hx;refine k ?_;have hi:=(A3.mp ey).1;have sT:=qA2 hT (.tup [.int (i:Int),.int y]);have a0:=sT _ _ e;refine⟨T,_,rfl,SqT.of qA1,rfl,_,_,rfl,_,_,rfl,rfl,?_⟩;refine⟨_,rfl,_,rfl,_,_,rfl,rfl,_,a0,qAW (by rw[A0,qKV];lia),?_⟩
  refine⟨_,_,rfl,qAB (sm.trans sT) hl,?_⟩;rw[qA1,qOY ey,B0]
  rfl
 ·refineλσ g o=>opq λa3 m=>?_;obtain⟨v,w,rfl,sm,e⟩:=o;refine m ?_;rw[A0] at e;refine⟨_,rfl,p,_,rfl,.inl (SqL.of (sm _ _ hp)),_,_,rfl,rfl,(by show 1<=B14;decide),λb hb=>?_⟩
  have sb:=qA2 hb (.lst [.int ((((d.map V.int).length:Nat):Int)+1)]);refine⟨_,rfl,b,l,_,_,rfl,rfl,qA1,sb _ _ e,(by simp only[A0,qKV,B3,B16];lia),λc hc=>?_⟩
  have sc:=qA2 hc (.lst ([V.int ((((d.map V.int).length:Nat):Int)+1)]++(qD5 d d.length).map V.int));refine⟨c,(((d.length:Nat):Int)+1)::qD5 d d.length,_,rfl,SqL.of ?_,rfl,q _ ((sm.trans sb).trans sc)⟩;rw[qA1,A0]
  rfl
section
variable{P:B15}{w:World}{K:PySem.W.Frag}{mg:Str->Option Value}{base:Heap}{f:Addr}{fd:B27}{qEO qCA qEM:Addr}{qKN qDI qKL:B27}
theorem sc_numbers_of:FnScope ["net","work","numbers","other"] ["net","work"] (qAA qDW):=qBK
theorem ok_numbers_of (F:Fun K "numbers_of" "numbers_of" qDW f fd) (ar:Clb P w K mg base 3 qEO qKN "demand_tree" ["net","work"] qNB) (au:Clb P w K mg base 1 qCA qDI "all_needed" ["net","asked"] qXY) (ao:Clb P w K mg base 1 qEM qKL "number_over" ["falling"] qa3) (qBQ:mg "sorted" = none) (af:mg "list" = none):FnOk P w K mg base CX0 4 f fd ["net","work"] qFM:=by
 refine F.okA sc_numbers_of λb2 A aq s H vs Q E hr h=>?_;obtain⟨a,Ae,c,rfl,TI,q⟩:=h;obtain⟨hN,wf,av,w0,wn,hT⟩:=id TI;have hu:=qHR hr;refine⟨_,(qA4 (qD1 (qAR ar hr rfl (qA0 (pv 0) (qA0 (pv 1) qA3)))) (qA4 (qAE (i:=2) sc_numbers_of.nd rfl (g8 rfl) qGT) (qA4 (qBU D3 rfl (qBW (qAR au hr rfl (qA0 (pv 0) (qA0 (qB7 (qA0 (pv 1) qA3)) qA3)))) (qAN (i:=3) sc_numbers_of.nd rfl (E1 rfl)) (qA5 (qE4 hu (pv 2) (pv 3) (qAR ao hr rfl (qA0 (qYC rfl rfl qBQ qD0 (qA0 (qC4 rfl (lcs (own:=["need"]) (fv:=[2]) (by kernel_rfl)) (qCJ (qB5 qBI (pv 0) (pv 3) (λ_ _=>rfl))) (λz1=>qBR 0) (λz1=>qAY) (λz1=>(qCE hu (pv 1) (pv 0) (λ_ _=>rfl)))) qA3) (qM7 qEX qUI)) qA3)) rfl))) (qA5 (qAG (qAH (qTN rfl) rfl af qK9 (qA0 (qaF t9 PySem.F.slot_dict_items PySem.F.type_dict_items qYR (pv 2)) qA3))))))),?_⟩
 try dsimp only[Cx.nox,Cx.wish,cxOf]
 refine⟨_,rfl,_,rfl,a,Ae,c,rfl,TI,λH1 s1=>?_⟩;intro n a0;have s2:=s1.trans (qA2 a0 (.dK []));have ac:(Ag H1 n (.dK [])) n=some (.dK (qDF [] λ_=>0)):=qA1;generalize Ag H1 n (.dK [])=H2 at s2 ac ⊢;have an:H n=none:=s1.free a0;refine⟨_,rfl,_,rfl,(by show 1<=B14;decide),λta ah=>?_⟩
 have a9:=qA2 ah (.tup [.int c]);have a3:(Ag H2 ta (.tup [.int c])) ta=some (.tup ([c].map V.int)):=qA1;have s3:=s2.trans a9;have a4:=a9 _ _ ac;generalize Ag H2 ta (.tup [.int c])=H3 at a3 s3 a4 ⊢;refine⟨a,ta,Ae,[c],rfl,hN.same s3,wf,by lia,a3,(λx hx=>by rw[A5.mp hx];lia),λlw u H4 s4 f4 gw N=>?_⟩
 have lz:=N.1.len;have s5:=s3.trans s4;have a1:=s4 _ _ a4;have as:lw≠n:=qCC gw a1 (by intro z;cases z)
 obtain⟨rs,hA,NL⟩:=id hN;refine⟨lw,rfl,⟨_,SqL.of gw⟩,qFW (a:=lw) (xs:=u.map V.int) (λi σ Hc=>∃(f:Int->Int) (v3:Option V),σ=[some (.ref a),some (.int c),some (.ref n),v3]/\Same H Hc/\Hc lw=some (.lst (u.map V.int))/\Hc n=some (.dK (qDF (u.take i) f))/\NumOn Ae (u.take i) f)
  ⟨λ_=>0,none,rfl,s5,gw,a1,λz hz=>by simp at hz⟩ (λi σ Hc _ hP=>by obtain⟨_,_,_,_,g,_⟩:=hP;exact SqL.of g) ?_ ?_⟩
 ·refineλi x σ Hc hx ae=>opq λax a8=>?_;obtain⟨g,v3,rfl,t,ab,d,NO⟩:=ae;obtain⟨z,ez,rfl⟩:=qB1 hx;refine a8 ?_;have hi:=(A3.mp ez).1;have zb:=N.1.in_ z (B1 ez);have hw:z.toNat<Ae.length:=by lia
  obtain⟨az,r,h1,l1,h2,h3⟩:=hN.get (A4 hw);have rz:=wf z.toNat _ (A4 hw);have en:=qB8 (A4 hw);generalize Ae[z.toNat]=ys at h3 rz en;have aw:=rz.len;have am:∀y∈ys,y∈u.take i:=λy hy=>(qDK wf N ez (by rw[en];exact hy)).1
  refine⟨_,rfl,_,rfl,a,_,_,_,rfl,rfl,SqT.of (t _ _ h1),qCY zb.1 h2,r,rfl,⟨_,SqT.of (t _ _ h3)⟩,λp hp=>?_⟩;refine qD7 (p:=p) (a:=r) (xs:=ys.map V.int) (λj σ Hd=>∃(v:Option V),σ=[v,some (.ref n)]/\Same Hc Hd/\Hd p=some (.lst (((ys.take j).map g).map V.int))) ?_ ?_ ?_ ?_
  ·exact⟨none,rfl,qA2 hp _,qA1⟩
  ·rintro j σ Hd hj ⟨v,rfl,sd,_⟩;exact SqT.of (sd _ _ (t _ _ h3))
  ·refineλj x σ Hd hx a7=>opq λay a5=>?_;obtain⟨v,rfl,sd,o⟩:=a7;obtain⟨y,ey,rfl⟩:=qB1 hx;refine a5 ?_;have hj:=(A3.mp ey).1;have hg:=DGet.k (k:=D7 y) (sd _ _ d);rw[qIM (am y (B1 ey))] at hg;refine⟨_,rfl,_,rfl,n,_,rfl,hg,_,o,qAW (by rw[A0,A0,C4];lia),?_⟩
   refine⟨_,rfl,qAB sd hp,?_⟩;rw[qA1,C6,ey,C8,B0,B0]
   rfl
  refineλσ Hd a2=>opq λb0 ad=>?_;obtain⟨v,rfl,sd,o⟩:=a2;refine ad ?_;rw[A0,qAT rfl] at o;refine⟨p,_,rfl,rfl,SqL.of o,by rw[A0];lia,λb ds hb pm st=>?_⟩
  have al:=pm.length_eq;rw[A0] at al;have sb:=qA2 hb (.lst (ds.map V.int));refine⟨b,ds,rfl,qA1,by lia,λHe se=>?_⟩
  have aj:=t.trans (sd.trans (sb.trans se));have ak:=(sd.trans (sb.trans se)) _ _ d;have ai:=(sd.trans (sb.trans se)) _ _ ab;have hz:z∉u.take i:=λm=>by have:=qHI N ez m;lia
  have ns:=NumOn.snoc wf N ez NO (by rw[en];exact pm) st
  refine⟨_,rfl,_,rfl,n,_,rfl,DPut.k (k:=D7 z) ak (qAW (by unfold qDF;rw[A0,C4];lia)),?_⟩
  refine⟨_,_,rfl,qAB aj an,by rw[qA8 as];exact ai,?_,ns.1⟩
  rw[qA1,qRE hz,C6,ez]
  rfl
 ·refineλσ Hc aa=>opq λb1 a6=>?_;obtain⟨g,v3,rfl,t,ab,d,NO⟩:=aa;refine a6 ?_;rw[A0,qAT rfl] at d NO;refine⟨_,rfl,.inr (.inr (.inl ⟨rfl,.inl ⟨_,d⟩⟩)),n,_,rfl,rfl,d,λvw ap=>?_⟩;have sv:=qA2 ap (qXH vw n);refine⟨vw,n,_,rfl,qA1,sv _ _ d,(λp hp=>by obtain⟨z,_,e⟩:=D5.mp hp;exact⟨z,by rw[<- e]⟩),λl ag H' fl ext gl PP=>?_⟩
  refine q l ag u g H' ((t.trans sv).trans ext) ((t.trans sv).free fl) N NO gl (qJJ (F:=λr (kv:Key×V)=>H' r=some (.tup [kV kv.1,kv.2])) (h:=λz=>((D7 z:Key),V.int (g z))) PP)
end
section
variable{P:B15}{w:World}{K:PySem.W.Frag}{mg:Str->Option Value}{base:Heap}{f:Addr}{fd:B27}{qC9:Addr}{qDH:B27}
theorem qLW:FnScope ["net","work"] ["net","work"] (qAA qDU):=qBK
theorem ok_tree_rooms (F:Fun K "tree_rooms" "tree_rooms" qDU f fd) (qBS:Clb P w K mg base 4 qC9 qDH "numbers_of" ["net","work"] qFM) (qQU:mg "dict" = none):FnOk P w K mg base CX0 5 f fd ["net","work"] qI4:=by
 refine F.okA qLW λa0 A i s H vs Q E j h=>?_;obtain⟨a,n,b,rfl,p,q⟩:=h;have x:=qHR j;refine⟨_,(qA5 (qAG (qCE x (qAH (qLG rfl) rfl qQU qX8 (qA0 (qAR qBS j rfl (qA0 (pv 0) (qA0 (pv 1) qA3))) qA3)) (pv 1) (λ_ _=>rfl)))),?_⟩
 try dsimp only[Cx.nox,Cx.wish,cxOf]
 refine⟨_,rfl,_,rfl,a,n,b,rfl,p,λl u c g v s1 f1 N y gl o=>?_⟩;refine⟨l,u,c.map λz=>(z,V.int (g z)),rfl,SqL.of gl,qI9 (qEC o λr z e=>SqT.of e),λd t=>?_⟩;have sd:=qA2 t (.dK (qDM [] (c.map λz=>(z,V.int (g z)))));have gd:(Ag v d (.dK (qDM [] (c.map λz=>(z,V.int (g z)))))) d=some (.dK (qDF c g)):=by
  rw[qA1];exact congrArg (λk=>some (HO.dK k)) (qHM (l:=[]) (f:=g) N.1.nodup)
 have m:=DGet.k (k:=D7 b) gd;rw[qIM (qBT N)] at m;exact⟨_,rfl,d,_,rfl,m,q c g _ (s1.trans sd) N y⟩
end
theorem sc_tree_plan:FnScope ["net","work","numbers","plans","other","plan","need"] ["net","work"] (qAA qC3):=qBK
theorem ok_tree_plan (F:Fun K "tree_plan" "tree_plan" qC3 f fd) (hcd:fd.code=.ref cc) (hBM:BM mg base) (qE0:hdIn K cc Pt=true) (qBS:Clb P w K mg base 4 qC9 qDH "numbers_of" ["net","work"] qFM) (qQU:mg "dict" = none) (qBQ:mg "sorted" = none):FnOk P w K mg base CX0 5 f fd ["net","work"] (qJ8 Pt):=by
 refine F.okL hcd sc_tree_plan (λvs H Q E h=>?_) (λA bt s H vs Q E hr h=>?_)
 ·obtain⟨a,Ae,a0,rfl,_⟩:=h
  rfl
 obtain⟨a,Ae,a0,rfl,aq,TI,q⟩:=h;have hu:=qHR hr;have rm:Room 2 _:=hr.mono (by decide)
 refine⟨_,(qA4 (qAE (i:=2) sc_tree_plan.nd rfl (g8 rfl) (qaD (qAH (qLG rfl) rfl qQU qX8 (qA0 (qAR qBS hr rfl (qA0 (pv 0) (qA0 (pv 1) qA3))) qA3)))) (qA4 (qAE (i:=3) sc_tree_plan.nd rfl (E1 rfl) qGT) (qA4 (qBU D3 rfl (qRG (pv 2)) (qAN (i:=4) sc_tree_plan.nd rfl (E1 rfl)) (qA4 (qAE (i:=5) sc_tree_plan.nd rfl (E1 rfl) (qBX qA3)) (qA4 (qBU D3 rfl (qBW (qYD (p:="one") (fv:=[2]) (q:="tree_plan.<locals>.<lambda>") rm rfl qBQ qD0 hBM rfl qE0 (by kernel_rfl) (lms (by kernel_rfl)) rfl (λ_ _ _ _ _=>rfl) (qA0 (qB5 qBI (pv 0) (pv 4) (λ_ _=>rfl)) qA3) (λz1=>(qB7 (qA0 (qKH qG1 (qCE (lm_hu _) (pv 1) (pv 0) (λ_ _=>rfl))) (qA0 (pv 0) qA3)))))) (qAN (i:=6) sc_tree_plan.nd rfl (E1 rfl)) (qA5 (qD1 (qJI E9 PySem.F.slot_list_extend PySem.F.type_list_extend qVD (pv 5) (qA0 (qYF (pv 3) (pv 6) ⟨rfl,rfl,rfl,rfl⟩) qA3))))) (qA4 (qD1 (qJI E9 G1 G2 qC0 (pv 5) (qA0 (qB7 (qA0 qBO (qA0 (pv 4) qA3))) qA3))) (qA5 (qE4 hu (pv 3) (pv 4) (qAO qL2 (pv 5) (qC4 rfl (lcs (own:=["need"]) (fv:=[]) (by kernel_rfl)) (qCJ (qB5 qBI (pv 0) (pv 4) (λ_ _=>rfl))) (λz2=>qBR 0) (λz2=>qAY) (λz2=>(qB7 (qA0 qBO (qA0 (pv 0) qA3)))))) rfl)))))) (qA5 (qAG (qCE hu (pv 3) (pv 1) (λ_ _=>rfl))))))),?_⟩
 try dsimp only[Cx.nox,Cx.wish,cxOf]
 refine cut λN0 bs=>?_;refine⟨_,rfl,_,rfl,a,Ae,a0,rfl,TI,λl rs zs g H1 s1 f1 N NO gl PP=>?_⟩;refine⟨l,rs,zs.map λz=>(z,V.int (g z)),rfl,SqL.of gl,qI9 (qEC PP λr z e=>SqT.of e),λd hd=>?_⟩;have gd:(Ag H1 d (.dK (qDM [] (zs.map λz=>(z,V.int (g z)))))) d=some (.dK (qDF zs g)):=by
  rw[qA1];exact congrArg (λk=>some (HO.dK k)) (qHM (l:=[]) (f:=g) N.1.nodup)
 refine⟨d,_,rfl,gd,λo=>?_⟩;have sd:Same H (Ag (Ag H1 d (.dK (qDM [] (zs.map λz=>(z,V.int (g z)))))) d (.frz o (.dK (qDF zs g)))):=qAB (s1.trans (qA2 hd _)) (s1.free hd);have gf:(Ag (Ag H1 d (.dK (qDM [] (zs.map λz=>(z,V.int (g z)))))) d (.frz o (.dK (qDF zs g)))) d=some (.frz o (.dK (qDF zs g))):=qA1;generalize Ag (Ag H1 d (.dK (qDM [] (zs.map λz=>(z,V.int (g z)))))) d (.frz o (.dK (qDF zs g)))=H2 at sd gf ⊢;have T:=TI.tin N;obtain⟨Pl,PO⟩:=exP T g;refine bs _ _ (cut λN1 bh=>?_);intro n ag;have s3:=sd.trans (qA2 ag (.dK []));have ao:H n=none:=sd.free ag;have g3:(Ag H2 n (.dK [])) n=some (.dK []):=qA1;have a5:=qA2 ag (.dK []) _ _ gf;have b8:d≠n:=qCC a5 g3 (by intro z;cases z)
 generalize Ag H2 n (.dK [])=H3 at s3 g3 a5 ⊢;obtain⟨hN,wf,bv,w0,_⟩:=id TI;have lz:=N.1.len;refine bh _ _ (cut λN2 bi=>?_);refine⟨_,rfl,d,o,_,rfl,a5,qWE (a:=d) (o:=o) (Af:=qDF zs g) (λi σ Hc=>∃(ad:Int->Addr) (v4 v5 v6:Option V),σ=[some (.ref a),some (.int a0),some (.ref d),some (.ref n),v4,v5,v6]/\Same H Hc/\Hc d=some (.frz o (.dK (qDF zs g)))/\Hc n=some (.dK (kvsV (opn Ae (zs.take i)) λz=>.ref (ad z)))/\∀z∈opn Ae (zs.take i),PlanAt Hc (ad z) (Pl z)/\H (ad z)=none)
  ⟨λ_=>d,none,none,none,rfl,s3,a5,g3,λz hz=>by simp[opn] at hz⟩ (λi σ Hc _ ⟨_,_,_,_,_,_,g,_⟩=>g) ?_ ?_⟩
 ·refineλi k v σ Hc hk bg=>opq λbx b0=>?_;obtain⟨ad,v4,v5,v6,rfl,sc,ab,a2,PA⟩:=bg;obtain⟨z,ez,rfl⟩:=qVT hk;refine b0 ?_;have hz:=B1 ez;have zb:=N.1.in_ z hz;have hw:z.toNat<Ae.length:=by lia
  obtain⟨c1,r,h1,l1,h2,h3⟩:=hN.get (A4 hw);have rz:=wf z.toNat _ (A4 hw);have en:=qB8 (A4 hw);generalize Ae[z.toNat]=ys at h3 rz en;have bw:=rz.len;have af:=qYH T ez;have b5:=qbS T (zs.take i) (by rw[C4];lia)
  have av:∀y∈ys,y∈opn Ae (zs.take i):=λy hy=>qYI T ez (by rw[en];exact hy)
  have ae:z∉opn Ae (zs.take i):=λm=>by have:=qHI N ez (opn_mem.mp m).1;lia
  have lP:=qXW T PO hz;generalize opn Ae (zs.take i)=op at a2 PA af b5 av ae;refine cut λN3 bp=>?_;refine⟨(by show 0<=B14;decide),λp hp=>?_⟩
  have k4:Keep n n Hc (Ag Hc p (.lst [])):=qDG hp _;have s4:=qA2 hp (.lst []);have a9:(Ag Hc p (.lst [])) p=some (.lst (([]:List Addr).map V.ref)):=qA1;have au:=s4 _ _ ab;have a4:=s4 _ _ a2;have ac:p≠n:=(qA6 a2 hp).symm;generalize Ag Hc p (.lst [])=H4 at k4 s4 a9 au a4;have aa:=sc.trans s4;refine bp _ _ (cut λN4 bo=>?_);refine⟨_,rfl,_,rfl,a,_,_,_,rfl,rfl,SqT.of (aa _ _ h1),qCY zb.1 h2,aa _ _ aq,r,ys.map V.int,ys.map (keyT g),rfl,.inl (SqT.of (aa _ _ h3)),by rw[A0];lia,by rw[A0,A0],?_,?_,λH5 D c5 s5 hD pm so=>?_⟩
  ·intro k hk;obtain⟨y,_,rfl⟩:=D5.mp hk;exactλz=>by cases z
  ·intro i x k hx as Hd sd;obtain⟨y,ey,rfl⟩:=qB1 hx;rw[C1,ey] at as;cases as;have my:=B1 ey;have bq:y∈zs:=(T.has hz (by rw[en];exact my)).1
   have hg:DGet Hd d (.int y) (valV (qDF zs g) (D7 y)):=.inl ⟨_,D7 y,.inr ⟨o,sd _ _ au⟩,rfl,rfl⟩;rw[qIM bq] at hg;exact⟨_,rfl,_,rfl,d,_,rfl,hg,_,rfl,_,rfl,(by show 2<=B14;decide),λp hp=>⟨qA2 hp _,p,rfl,qA1⟩⟩
  obtain⟨t,po,oo,eo⟩:=qfB rz.nodup pm so;rw[eo];have ba:Pl z=qG9 Ae Pl z t:=(PO z hz).by (by rw[en];exact po) oo
  have c8:((t.map Pl).flatten).length+(ys.length+1)<=800:=by
   rw[ba] at lP;unfold qG9 clrM at lP;rw[A8,C3,A0,en] at lP
   lia
  have bu:t.Nodup:=po.nodup_iff.mpr rz.nodup;have sD:=qA2 hD (.lst (t.map V.int));have gD:(Ag H5 D (.lst (t.map V.int))) D=some (.lst (t.map V.int)):=qA1;have s6:Same H4 (Ag H5 D (.lst (t.map V.int))):=λb o e=>sD b o (s5 b o e);have bm:D≠p:=(qA6 (s5 _ _ a9) hD).symm;have bj:D≠n:=(qA6 (s5 _ _ a4) hD).symm;generalize Ag H5 D (.lst (t.map V.int))=H6 at gD s6 ⊢;refine⟨D,rfl,⟨_,SqL.of gD⟩,qFW (a:=D) (xs:=t.map V.int) (λj σ Hd=>∃(rs:List Addr) (v6:Option V),σ=[some (.ref a),some (.int a0),some (.ref d),some (.ref n),some (.int z),some (.ref p),v6]/\Keep n n Hc Hd/\Hd p=some (.lst (rs.map V.ref))/\MovL Hd rs (((t.take j).map Pl).flatten)/\Hd n=some (.dK (kvsV (op.filter λx=>decide (x∉t.take j)) λz=>.ref (ad z)))/\Hd D=some (.lst (t.map V.int)))
   ⟨[],v6,rfl,k4.trans (.of_same s6),s6 _ _ a9,.nil,by rw[show(op.filter λx=>decide (x∉t.take 0))=op from Y5.mpr λx _=>by simp];exact s6 _ _ a4,gD⟩ (λj σ Hd _ hP=>by obtain⟨_,_,_,_,_,_,_,g⟩:=hP;exact SqL.of g) ?_ ?_⟩
  ·refineλj x σ Hd hx an=>opq λc7 aw=>?_;obtain⟨rs,v6,rfl,kd,a3,M,a1,bb⟩:=an;obtain⟨y,ey,rfl⟩:=qB1 hx;refine aw ?_;have my:=B1 ey;have b3:=av y (po.mem_iff.mp my);have br:y∉t.take j:=λm=>by
    obtain⟨j2,h2⟩:=D8 m;have lj:j2<j:=by have:=(A3.mp h2).1;rw[C4] at this;lia
    rw[J1 lj] at h2;have h5:=(A3.mp h2).1;have:=(List.getElem?_inj h5 bu).mp (h2.trans ey.symm)
    lia
   have hv:=qMF (g:=λz=>V.ref (ad z)) (show y∈op.filter λx=>decide (x∉t.take j) from D6.mpr ⟨b3,decide_eq_true br⟩);obtain⟨b2,gy,My⟩:=(PA y b3).1.keepD a2 kd;have bk:ad y≠n:=qCC gy a1 (by intro z;cases z)
   have lM:=B6 M;have c4:=B6 My;have fs:=qWG (P:=Pl) ey;have ft:=qWF Pl t (j+1);rw[fs,A8] at ft;have a8:(Ag Hd n (.dK (kvsV (op.filter λx=>decide (x∉t.take (j+1))) λz=>.ref (ad z)))) p=some (.lst (rs.map V.ref)):=by rw[qA8 ac];exact a3
   have al:(Ag Hd n (.dK (kvsV (op.filter λx=>decide (x∉t.take (j+1))) λz=>.ref (ad z)))) (ad y)=some (.lst (b2.map V.ref)):=by rw[qA8 bk];exact gy
   have k2:=qVY (o:=.dK (kvsV (op.filter λx=>decide (x∉t.take (j+1))) λz=>.ref (ad z))) kd;have M2:=(M.putT (u:=.dK (kvsV (op.filter λx=>decide (x∉t.take (j+1))) λz=>.ref (ad z))) a1 (λ_ z=>by cases z)).app (My.putT (u:=.dK (kvsV (op.filter λx=>decide (x∉t.take (j+1))) λz=>.ref (ad z))) a1 (λ_ z=>by cases z))
   refine⟨_,rfl,.inl ⟨rfl,_,SqL.of a3⟩,_,rfl,n,rfl,.inl ⟨_,.inl a1⟩,_,rfl,_,D7 y,_,a1,rfl,hv,?_⟩;rw[qVS,qSX ey];have a7:(Ag Hd n (.dK (kvsV (op.filter λx=>decide (x∉t.take (j+1))) λz=>.ref (ad z)))) n=some (.dK (kvsV (op.filter λx=>decide (x∉t.take (j+1))) λz=>.ref (ad z))):=qA1;have ar:(Ag Hd n (.dK (kvsV (op.filter λx=>decide (x∉t.take (j+1))) λz=>.ref (ad z)))) D=some (.lst (t.map V.int)):=by rw[qA8 bj];exact bb
   generalize Ag Hd n (.dK (kvsV (op.filter λx=>decide (x∉t.take (j+1))) λz=>.ref (ad z)))=He at a8 al k2 M2 a7 ar ⊢;refine⟨p,ad y,_,_,rfl,rfl,a8,al,by rw[A0,A0,B16];lia,?_⟩
   rw[<- B0];refine⟨rs++b2,_,rfl,qIW k2 hp,qA1,?_,by rw[qA8 (G4 ac)];exact a7,by rw[qA8 bm];exact ar⟩
   rw[fs];exact M2.putT a8 (λ_ z=>by cases z)
  refineλσ Hd az=>opq λbz ax=>?_;obtain⟨rs,v6,rfl,kd,a3,M,a1,bb⟩:=az;refine ax ?_;rw[A0,qAT rfl] at M a1;have lM:=B6 M;have bl:(op.filter λx=>decide (x∉t))=op.filter λx=>decide (x∉nd Ae z):=S9 λx _=>decide_eq_decide.mpr (by rw[en];exact not_congr po.mem_iff)
  rw[bl] at a1;refine bo _ _ (cut λN5 bn=>?_);refine⟨_,rfl,.inl ⟨rfl,_,SqL.of a3⟩,_,rfl,(by show 2<=B14;decide),λU hU=>?_⟩
  have sU:=qA2 hU (.tup [.str "do",.int z])
  have ah:=sU _ _ a3;have b7:=sU _ _ a1;have kU:Keep n n Hc (Ag Hd U (.tup [.str "do",.int z])):=kd.trans (.of_same sU)
  have MU:=(M.same sU).snoc (r:=U) (wo:="do") (x:=z) qA1
  generalize Ag Hd U (.tup [.str "do",.int z])=He at ah b7 kU MU ⊢
  refine⟨p,_,_,rfl,rfl,ah,qAW (by rw[A0];lia),?_⟩
  rw[qB2];have aj:=qIW (o:=.lst ((rs++[U]).map V.ref)) kU hp;have MV:=MU.putT (u:=.lst ((rs++[U]).map V.ref)) ah (λ_ z=>by cases z)
  have ai:(Ag He p (.lst ((rs++[U]).map V.ref))) p=some (.lst ((rs++[U]).map V.ref)):=qA1;have be:(Ag He p (.lst ((rs++[U]).map V.ref))) n=some (.dK (kvsV (op.filter λx=>decide (x∉nd Ae z)) λz=>.ref (ad z))):=by rw[qA8 (G4 ac)];exact b7
  generalize Ag He p (.lst ((rs++[U]).map V.ref))=Hf at aj MV ai be ⊢;have lU:(rs++[U]).length<=801:=by rw[A8,B3];lia
  generalize rs++[U]=rU at MV ai lU;have sf:Same H Hf:=aj.toSame sc ao;refine bn _ _ ?_;refine⟨_,rfl,_,rfl,_,rfl,a,_,_,_,rfl,rfl,SqT.of (sf _ _ h1),qCY zb.1 h2,r,rfl,⟨_,SqT.of (sf _ _ h3)⟩,λc hc=>?_⟩;refine qD7 (p:=c) (a:=r) (xs:=ys.map V.int) (λj σ Hx=>∃(v:Option V) (rc:List Addr),σ=[v]/\Same Hf Hx/\Hx c=some (.lst (rc.map V.ref))/\MovL Hx rc (clrM (ys.take j))) ?_ ?_ ?_ ?_
  ·exact⟨none,[],rfl,qA2 hc _,qA1,.nil⟩
  ·rintro j σ Hx hj ⟨v,rc,rfl,sx,_⟩;exact SqT.of (sx _ _ (sf _ _ h3))
  ·refineλj x σ Hx hx b4=>opq λc6 ay=>?_;obtain⟨v,rc,rfl,sx,ak,Mc⟩:=b4;obtain⟨y,ey,rfl⟩:=qB1 hx;refine ay ?_;have hj:=(A3.mp ey).1;have lc:=B6 Mc;unfold clrM at lc;rw[A0,C4] at lc;refine⟨_,rfl,(by show 2<=B14;decide),λW hW=>?_⟩
   have sW:=qA2 hW (.tup [.str "clear",.int y]);have bf:=sW _ _ ak;refine⟨_,bf,qAW (by rw[A0];lia),?_⟩
   rw[qB2];refine⟨_,rc++[W],rfl,qAB (sx.trans sW) hc,qA1,?_⟩;have e:clrM (ys.take (j+1))=clrM (ys.take j)++[(("clear",y):Mv)]:=by
    unfold clrM;rw[C6,ey,C8,B0]
    rfl
   rw[e];exact(((Mc.same sW).snoc (r:=W) (wo:="clear") (x:=y) qA1).putT bf (λ_ z=>by cases z))
  refineλσ Hx b1=>opq λc3 ap=>?_;obtain⟨v,rc,rfl,sx,ak,Mc⟩:=b1;refine ap ?_;rw[A0,qAT rfl] at Mc;have lc:=B6 Mc;unfold clrM at lc;rw[A0] at lc;refine⟨p,c,_,_,rfl,rfl,sx _ _ ai,ak,by rw[A0,A0,B16];lia,λb hb=>?_⟩
  rw[<- B0];have fb:H b=none:=(sf.trans sx).free hb;have sb:=qA2 hb (.lst ((rU++rc).map V.ref));have gb:(Ag Hx b (.lst ((rU++rc).map V.ref))) b=some (.lst ((rU++rc).map V.ref)):=qA1;have kx:=aj.trans (.of_same (sx.trans sb));have MB:=((MV.same sx).app Mc).same sb;have a6:=sb _ _ (sx _ _ be);generalize Ag Hx b (.lst ((rU++rc).map V.ref))=Hy at gb kx MB a6 ⊢;have nb:b≠n:=qCC gb a6 (by intro z;cases z)
  have b9:z∉op.filter λx=>decide (x∉nd Ae z):=λm=>ae (D6.mp m).1;have c2:=J5 (λx=>decide (x∉nd Ae z)) op;have b6:=DPut.k (k:=D7 z) (v:=.ref b) a6 (qAW (by unfold kvsV;rw[A0];lia))
  rw[qYY b9] at b6;refine⟨_,rfl,_,rfl,n,_,rfl,b6,?_⟩;have kz:=qVY (o:=.dK (kvsV ((op.filter λx=>decide (x∉nd Ae z))++[z]) λy=>if y=z then .ref b else .ref (ad y))) kx
  refine⟨λy=>if y=z then b else ad y,_,_,_,rfl,kz.toSame sc ao,kz _ _ ab b8 b8,?_,?_⟩
  ·rw[qA1,af];congr 3
   funext y
   show _=V.ref (if y=z then b else ad y)
   by_cases c:y=z
   ·rw[if_pos c,if_pos c]
   ·rw[if_neg c,if_neg c]
  ·intro x hx;rw[af] at hx;rcases B4.mp hx with m|m
   ·have mo:=(D6.mp m).1;dsimp only;rw[if_neg (λ(e:x=z)=>ae (by rw[<- e];exact mo))]
    exact⟨(PA x mo).1.keepD a2 kz,(PA x mo).2⟩
   ·have ex:=A5.mp m;subst ex;dsimp only;rw[if_pos rfl];refine⟨⟨rU++rc,by rw[qA8 nb];exact gb,?_⟩,fb⟩
    have bc:Pl x=(t.map Pl).flatten++([(("do",x):Mv)]++clrM ys):=by
     rw[ba];unfold qG9;rw[en]
     rfl
    rw[bc];have:=MB.putT (u:=.dK (kvsV ((op.filter λy=>decide (y∉nd Ae x))++[x]) λy=>if y=x then .ref b else .ref (ad y))) a6 (λ_ z=>by cases z)
    rw[F3] at this;exact this
 ·refineλσ Hc am=>opq λc0 bd=>?_;obtain⟨ad,v4,v5,v6,rfl,sc,ab,a2,PA⟩:=am;refine bd ?_;have e:(qDF zs g).length=zs.length:=by unfold qDF;rw[A0]
  rw[e,qAT rfl] at a2 PA;have hw:=qYJ T;have hg:=DGet.k (k:=D7 a0) a2;rw[qMF hw] at hg;have PW:=PA a0 hw;exact bi _ _ ⟨_,rfl,_,rfl,n,_,rfl,hg,q _ zs g Pl Hc sc PW.2 N NO PO PW.1⟩
theorem qVA {Ae:List (List Int)}{Ad:List Int}(a:WFn Ae)(r:Rise (Ae.length:Int) Ad){x:Int}(h:Nd Ae Ad x):0<=x/\x<(Ae.length:Int):=by
 induction h with
 |ask m=>exact r.in_ _ m
 |need _ e hy ih=>
  have c:=(a _ _ e).in_ _ hy;have b:=(A3.mp e).1
  lia
theorem qSY {Ae:List (List Int)}{Ad:List Int}(b:WFn Ae)(r:Rise (Ae.length:Int) Ad):∃zs,qAD Ae Ad zs:=by
 classical
 refine⟨(qC6 0 Ae.length).filter λx=>decide (Nd Ae Ad x),⟨(qEB _ _).filter _,λx a=>?_⟩,λx=>?_⟩
 ·have:=mem_rangeI.mp (D6.mp a).1
  lia
 ·rw[D6,decide_eq_true_eq,mem_rangeI];exact⟨λh=>h.2,λh=>⟨qVA b r h,h⟩⟩
def OnceF (Ae:List (List Int))(F n:Nat):Prop:=(∀(i:Nat) (z:List Int) (x:Int),F<=i->i<n->Ae[i]?=some z->x∈z->(F:Int)<=x)/\
 ∀(i j:Nat) (zi zj:List Int) (x:Int),F<=i->F<=j->i<n->j<n->Ae[i]?=some zi->Ae[j]?=some zj->x∈zi->x∈zj->i=j
theorem OnceF.isT {Ae:List (List Int)}{F n:Nat}{c:Int}(j:WFn Ae)(o:OnceF Ae F n)(hn:n<=Ae.length)(w0:(F:Int)<=c)(w1:c<(n:Int)):isT Ae c:=by
 obtain⟨k,N⟩:=qSY (Ae:=Ae) (Ad:=[c]) j ⟨P4 _ _,λx r=>by rw[A5.mp r];lia⟩
 refine⟨k,N,?_⟩;have s:∀u,Nd Ae [c] u->(F:Int)<=u:=by
  intro u f
  induction f with
  |ask m=>rw[A5.mp m];exact w0
  |@need v y z hv e m ih=>
   have b:=qMC j hv;exact o.1 v.toNat z y (by lia) (by lia) e m
 unfold qOX;rw[O5];intro x r;rw[decide_eq_true_eq];intro w;obtain⟨i,hi⟩:=D8 r;rcases qZX N j hi with q|⟨v,hv,hxv⟩
 ·exact absurd (A5.mp q) w
 ·have d:v∈k:=V2 hv;have l:∀u∈k,(F:Int)<=u/\u<(n:Int):=λu f=>by
   have a:=s u ((N.2 u).mp f);have b:=qMC j ((N.2 u).mp f)
   lia
  have h:∀u∈k,Ae[u.toNat]?=some (nd Ae u):=λu f=>by
   have:=l u f;have hl:u.toNat<Ae.length:=by lia
   have g:=A4 hl;rw[g,qB8 g]
  have t:(nd Ae v).Nodup:=(j _ _ (h v d)).nodup;unfold cI;rw[qLE N.1.nodup d (λu f p=>?_) hxv t]
  ·rfl
  ·have a:=l u f;have b:=l v d;have:=o.2 u.toNat v.toNat _ _ x (by lia) (by lia) (by lia) (by lia) (h u f) (h v d) p hxv
   lia
theorem OnceF.few {Ae:List (List Int)}{F n:Nat}{a:Int}(f:WFn Ae)(o:OnceF Ae F n)(j:n<=Ae.length)(g:(F:Int)<=a)(i:a<(n:Int)){zs:List Int}(N:qAD Ae [a] zs):(zs.length:Int)+F<=n:=by
 have c:∀u,Nd Ae [a] u->(F:Int)<=u:=by
  intro u h
  induction h with
  |ask m=>rw[A5.mp m];exact g
  |@need v y z hv e m ih=>
   have b:=qMC f hv;exact o.1 v.toNat z y (by lia) (by lia) e m
 have:=qHJ (r:=qC6 F n) N.1.nodup λx d=>mem_rangeI.mpr ⟨c x ((N.2 x).mp d),by have:=qMC f ((N.2 x).mp d);lia⟩
 rw[qKX] at this
 lia
theorem OnceF.zero {Ae:List (List Int)}{n:Nat}(g:WFn Ae)(h:Once Ae n):OnceF Ae 0 n:=
 ⟨λi z x _ _ e b=>by have:=(g i z e).in_ x b;lia,λi j m a x _ _ d c f k l o=>h i j m a x d c f k l o⟩
theorem OnceF.app {Ae a:List (List Int)}{F n:Nat}(h:OnceF Ae F n)(r:n<=Ae.length):OnceF (Ae++a) F n:=
 ⟨λi z x c b e k=>h.1 i z x c b (by rw[F6 (by lia)] at e;exact e) k,
  λi j o g x c b l q d f m p=>h.2 i j o g x c b l q (by rw[F6 (by lia)] at d;exact d) (by rw[F6 (by lia)] at f;exact f) m p⟩
def shT (F:Int)(t:List (List Int)):List (List Int):=t.map λz=>z.map λx=>x+F
theorem qLV {F:Nat}{a t:List (List Int)}(b:a.length=F){i:Nat}{z:List Int}(h:(a++shT F t)[i]?=some z)(hi:F<=i):∃y,t[i-F]?=some y/\z=y.map λx=>x+(F:Int):=by
 rw[P8 (by lia),b] at h
 unfold shT at h;rw[C1] at h;cases e:t[i-F]? with
 |none=>rw[e] at h;cases h
 |some y=>rw[e] at h;exact⟨y,rfl,(D0 h).symm⟩
theorem qdH {F:Nat}{d t:List (List Int)}(m:d.length=F)(f:WFn d)(j:WFn t):WFn (d++shT F t):=λi z e=>by
 by_cases c:i<F
 ·rw[F6 (by lia)] at e
  exact f i z e
 ·obtain⟨y,h,rfl⟩:=qLV m e (by lia)
  have r:=j _ _ h;refine⟨J2.mpr (r.up.imp λ{a b} q=>by lia),λx g=>?_⟩
  obtain⟨l,k,rfl⟩:=D5.mp g;have:=r.in_ l k
  lia
theorem qY0 {F n:Nat}{a t:List (List Int)}(d:a.length=F)(r:WFn t)(h:Once t n):OnceF (a++shT F t) F (F+n):=by
 refine⟨λi z x c f e v=>?_,λi j zi zj x c f h3 h4 k q l s=>?_⟩
 ·obtain⟨y,g,rfl⟩:=qLV d e c;obtain⟨b,m,rfl⟩:=D5.mp v;have:=(r _ _ g).in_ b m
  lia
 ·obtain⟨y,g,rfl⟩:=qLV d k c;obtain⟨y2,p,rfl⟩:=qLV d q f;obtain⟨b,u,b0⟩:=D5.mp l;obtain⟨o,w,b1⟩:=D5.mp s;have:=h (i-F) (j-F) _ _ b (by lia) (by lia) g p u (by rw[show b=o by lia];exact w)
  lia
def qR3:Sp:=λvs H Q _=>∃d c t ns m,vs=[.ref d,.int m]/\StAt H d c t ns/\t<=TB-20000/\1<=m/\m<=56/\
 ∀T a Ae work t' ns' H',StAt H' d c t' ns'->t<=t'->t'<=t+200->Keep d c H H'->NIn H' a Ae work->Ae.length<=60->isT Ae work->(∀zs,qAD Ae [work] zs->(zs.length:Int)<=m)->H' T=some (.tup [.ref a,.int work])->Q (.ref T) H'
theorem sc_Lground:FnScope ["_law_state","_law_many","_law_tree","_law_way","_law_net_here","_law_first","_law_turn"] ["_law_state","_law_many"] (qAA qGO):=qBK
theorem ok_Lground (F:Fun K "_law_ground" "_law_ground" qGO f fd) (qBN:Clb P w K mg base 1 qGE qH4 "_law_take" ["_law_state","_law_many"] qKW) (bj:Clb P w K mg base 2 qEP qIA "_law_tree_net" ["_law_state","_law_many"] qOZ) (bg:Clb P w K mg base 3 qWM qcD "_law_net" ["_law_state","_law_many"] qdB) (bd:Clb P w K mg base 2 qDJ qG7 "_law_some_needs" ["_law_state","_law_k"] qLS) (az:mg "len" = none) (aq:mg "tuple" = none) (qB4:mg "range" = none):FnOk P w K mg base CX0 4 f fd ["_law_state","_law_many"] qR3:=by
 refine F.okA sc_Lground λbz A bm s H vs Q E hr h=>?_;obtain⟨d,c,t,ns,m,rfl,S,ht,m1,m2,q⟩:=h;have bu:t<=1000000000-20000:=ht;refine⟨_,(qA4 (qAE (i:=2) sc_Lground.nd rfl (E1 rfl) (qAR bj hr rfl (qA0 (pv 0) (qA0 (pv 1) qA3)))) (qA4 (qAE (i:=3) sc_Lground.nd rfl (E1 rfl) (qAR qBN hr rfl (qA0 (pv 0) (qA0 qA7 qA3)))) (qA4 (qI7 (qB7 (qA0 (pv 2) (qA0 qA7 qA3))) (qG4 rfl (qAV (qAN (i:=4) sc_Lground.nd rfl (E1 rfl)) (qAV (qAN (i:=5) sc_Lground.nd rfl (g8 rfl)) qD2)))) (qA4 (qBP (qAM qED (pv 3) qA7 (qAS _)) (qA4 (qAE (i:=4) sc_Lground.nd rfl (E1 rfl) (qAR bg hr rfl (qA0 (pv 0) (qA0 (qAO qC7 qA7 (qAR qBN hr rfl (qA0 (pv 0) (qA0 qA7 qA3)))) qA3)))) (qA4 (qAE (i:=5) sc_Lground.nd rfl (g8 rfl) (qA9 qAC rfl az qBD (qA0 (pv 4) qA3))) (qA5 (qAE (i:=4) sc_Lground.nd rfl (E1 rfl) (qAO qV4 (pv 4) (qAH qAK rfl aq qAU (qA0 (qC4 rfl (lcs (own:=["_law_needs"]) (fv:=[5]) (by kernel_rfl)) (qCJ (pv 2)) (λz1=>qBR 0) (λz1=>qAY) (λz1=>(qAH (qES (K:=K) rfl) rfl aq qAU (qA0 (qC4 (X:=lcCx _ _ _ _ z1) rfl (lcs (own:=["_law_need"]) (fv:=[1]) (by kernel_rfl)) (qM8 (K:=K) rfl (pv 0)) (λz2=>qBR 0) (λz2=>qAY) (λz2=>(qAO qC7 (pv 0) (pv 1)))) qA3)))) qA3))))))) qAL) (qA4 (qBP (qAM qED (pv 3) qA7 (qAS _)) (qA5 (qBU D3 rfl (qBH rfl qB4 (qA0 (qAO qC7 qA7 (qAR qBN hr rfl (qA0 (pv 0) (qA0 qA7 qA3)))) qA3)) (qAN (i:=6) sc_Lground.nd rfl (E1 rfl)) (qA5 (qAE (i:=4) sc_Lground.nd rfl (E1 rfl) (qAO qV4 (pv 4) (qB7 (qA0 (qAR bd hr rfl (qA0 (pv 0) (qA0 (qA9 qAC rfl az qBD (qA0 (pv 4) qA3)) qA3))) qA3))))))) qAL) (qA4 (qBP (qAM qED (qAR qBN hr rfl (qA0 (pv 0) (qA0 qA7 qA3))) qA7 (qAS _)) (qA5 (qAG (qB7 (qA0 (pv 4) (qA0 (qAO qC7 (pv 5) (qAR qBN hr rfl (qA0 (pv 0) (qA0 (pv 1) qA3)))) qA3))))) qAL) (qA5 (qAG (qB7 (qA0 (pv 4) (qA0 (qAO qDN (qAO qC7 (pv 5) (pv 1)) qA7) qA3))))))))))),?_⟩
 try dsimp only[Cx.nox,Cx.wish,cxOf]
 refine cut λN0 bi=>?_;refine⟨_,rfl,_,rfl,d,c,t,ns,m,rfl,S,(by show t<=1000000000-1000;lia),by lia,by lia,λa Ae t1 bf H1 S1 g0 g1 K1 hN wf nl a8=>?_⟩
 refine bi _ _ (cut λN1 b4=>?_);refine⟨_,rfl,d,c,t1,bf,4,rfl,S1,(by show t1<=1000000000;lia),by decide,by decide,λa1 as H2 y0 y1 S2 K2=>?_⟩
 have b6:=hN.keep S1 K2;have be:=K1.trans K2;refine b4 _ _ (cut λN2 ax=>?_);refine⟨_,rfl,(by show 2<=B14;decide),λT0 bl=>?_⟩
 have u0:=qA2 bl (.tup [.ref a,.int 0]);refine⟨T0,_,rfl,SqT.of qA1,rfl,_,_,rfl,_,_,rfl,rfl,?_⟩;have S3:=S2.same u0;have a9:=b6.same u0;have ab:=be.trans (.of_same u0);generalize Ag H2 T0 (.tup [.ref a,.int 0])=H3 at S3 a9 ab ⊢;refine ax _ _ (cut λN3 bc=>?_);have J3:∀(a':Addr) (net':List (List Int)) (Fi:Nat) (t':Int) (ns':List Int) (H':Hp),StAt H' d c t' ns'->t<=t'->t'<=t+140->Keep d c H H'->NetAt H' a' net'->WFn net'->net'.length<=60->Fi+m.toNat<=net'.length->OnceF net' Fi (Fi+m.toNat)->(a1=1->net'.length<=57)->
   N3 [some (.ref d),some (.int m),some (.ref a),some (.int a1),some (.ref a'),some (.int Fi),none] H':=by
  intro a' net' Fi t' ns' H' S' h1 h2 K' a5 l a6 lm oF bk;refine bc _ _ (cut λN4 ba=>?_);have J4:∀(v6:Option V) (a':Addr) (net':List (List Int)) (t':Int) (ns':List Int) (H':Hp),StAt H' d c t' ns'->t<=t'->t'<=t+180->Keep d c H H'->NetAt H' a' net'->WFn net'->net'.length<=60->Fi+m.toNat<=net'.length->OnceF net' Fi (Fi+m.toNat)->
    N4 [some (.ref d),some (.int m),some (.ref a),some (.int a1),some (.ref a'),some (.int Fi),v6] H':=by
   intro v6 a' net' t' ns' H' S' h1 h2 K' a5 l a6 lm oF;refine ba _ _ (cut λN5 o=>?_);refine⟨_,rfl,d,c,t',ns',5,rfl,S',(by show t'<=1000000000;lia),by decide,by decide,λk a0 H4 k0 k1 S4 K4=>?_⟩
   have a7:=a5.keep S' K4;have ak:=K'.trans K4;refine⟨rfl,_,rfl,?_⟩;refine ite2 (λ_=>?_) (λ_=>?_)
   ·refine⟨_,rfl,_,rfl,_,rfl,_,rfl,d,c,t'+1,a0,m,rfl,S4,(by show t'+1<=1000000000;lia),by lia,by lia,λj a2 H5 j0 j1 S5 K5=>⟨_,_,rfl,rfl,(by show 2<=B14;decide),λT hT=>?_⟩⟩
    have sT:=qA2 hT (.tup [.ref a',.int ((Fi:Int)+j)]);have o:=(a7.keep S4 K5).same sT;exact q T a' net' ((Fi:Int)+j) (t'+1+1) a2 _ (S5.same sT) (by lia) (by lia) (ak.trans (K5.trans (.of_same sT))) ⟨o,l,by lia,by lia,by lia⟩ a6 (oF.isT l lm (by lia) (by lia)) (λzs N=>by have:=oF.few l lm (by lia) (by lia) N;lia) qA1
   refine o _ _ ?_;refine⟨_,rfl,_,rfl,_,rfl,_,_,rfl,rfl,_,_,rfl,rfl,(by show 2<=B14;decide),λT hT=>?_⟩
   have sT:=qA2 hT (.tup [.ref a',.int ((Fi:Int)+m-1)]);exact q T a' net' ((Fi:Int)+m-1) (t'+1) a0 _ (S4.same sT) (by lia) (by lia) (ak.trans (.of_same sT)) ⟨a7.same sT,l,by lia,by lia,by lia⟩ a6 (oF.isT l lm (by lia) (by lia)) (λzs N=>by have:=oF.few l lm (by lia) (by lia) N;lia) qA1
  refine⟨_,rfl,rfl,_,rfl,?_⟩;refine ite2 (λcw=>?_) (λ_=>?_)
  ·have ew:a1=1:=V.int.inj (of_decide_eq_true cw);have bq:=bk ew;refine⟨_,rfl,d,c,t',ns',3,rfl,S',(by show t'<=1000000000;lia),by decide,by decide,λk a0 H4 k0 k1 S4 K4=>⟨_,_,rfl,rfl,?_⟩⟩
   refine⟨1+k,rfl,by lia,by lia,qFB (lo:=0) (n:=(1+k).toNat) (λi σ u=>∃(tc:Int) (nc:List Int) (ac:Addr) (nt:List (List Int)) (v6:Option V),σ=[some (.ref d),some (.int m),some (.ref a),some (.int a1),some (.ref ac),some (.int Fi),v6]/\StAt u d c tc nc/\t<=tc/\tc<=t+141+9*i/\Keep d c H u/\NetAt u ac nt/\WFn nt/\nt.length<=57+i/\Fi+m.toNat<=nt.length/\OnceF nt Fi (Fi+m.toNat))
    ⟨t'+1,a0,a',net',none,rfl,S4,by lia,by lia,K'.trans K4,a5.keep S' K4,l,by lia,lm,oF⟩ ?_ ?_⟩
   ·refineλi σ u hi b3=>opq λbp aw=>?_;obtain⟨tc,nc,ac,nt,v6,rfl,Sc,c1,c2,Kc,a3,aa,av,ao,ad⟩:=b3;refine aw ?_;have i3:i<3:=by lia
    obtain⟨rs,hA,NL⟩:=id a3;have ag:=B6 NL;refine⟨_,rfl,_,rfl,_,rfl,ac,_,rfl,.inr (SqT.of hA),?_⟩;rw[A0,ag];refine⟨d,c,tc,nc,_,rfl,Sc,(by show tc<=1000000000-20;lia),by lia,by lia,λr zs t5 a2 H5 S5 e1 e2 K5 gr rz=>⟨(by show 1<=B14;decide),λp1 af=>?_⟩⟩
    have u1:=qA2 af (.tup [.ref r]);have o:=a3.keep Sc K5;obtain⟨bw,b5,ai⟩:=id o;have bo:=B6 ai;refine⟨ac,p1,_,[r].map V.ref,rfl,rfl,u1 _ _ b5,qA1,by rw[A0,A0,B3,B16];lia,λp2 H6 s6 g6=>?_⟩
    rw[<- B0] at g6;have uu:=u1.trans s6;refine⟨t5,a2,p2,nt++[zs],_,rfl,S5.same uu,by lia,by lia,Kc.trans (K5.trans (.of_same uu)),⟨_,g6,qC1 (ai.same λr ys e=>uu _ _ e) (uu _ _ gr)⟩,aa.snoc rz,by rw[A8,B3];lia,by rw[A8];lia,ad.app (by lia)⟩
   ·refineλσ u am=>opq λbx au=>?_;obtain⟨tc,nc,ac,nt,v6,rfl,Sc,c1,c2,Kc,a3,aa,av,ao,ad⟩:=am;refine au ?_;exact J4 v6 ac nt tc nc u Sc c1 (by lia) Kc a3 aa (by lia) ao ad
  ·exact J4 none a' net' t' ns' H' S' h1 (by lia) K' a5 l a6 lm oF
 refine⟨_,rfl,rfl,_,rfl,?_⟩;refine ite2 (λcw=>?_) (λ_=>?_)
 ·have ew:a1=0:=V.int.inj (of_decide_eq_true cw);refine cut λM0 bn=>?_;refine⟨_,rfl,_,rfl,d,c,t1+1,as,4,rfl,S3,(by show t1+1<=1000000000;lia),by decide,by decide,λk a0 H4 k0 k1 S4 K4=>⟨_,_,rfl,rfl,?_⟩⟩
  refine⟨d,c,t1+1+1,a0,1+k,rfl,S4,(by show t1+1+1<=1000000000-10000;lia),by lia,by lia,λb g t5 a2 H5 S5 e1 e2 K5 hB b8 lB=>?_⟩
  have o:=(a9.keep S3 K4).keep S4 K5;have b9:=ab.trans (K4.trans K5);refine bn _ _ (cut λM1 bb=>?_);obtain⟨rb,gB,NB⟩:=id hB;have bh:=B6 NB;refine⟨_,rfl,b,_,rfl,.inr (SqT.of gB),?_⟩;rw[A0,bh];refine bb _ _ ?_;obtain⟨rs,hA,NL⟩:=id o;have ag:=B6 NL;refine⟨_,rfl,_,rfl,a,rfl,⟨_,SqT.of hA⟩,λp hp=>?_⟩;refine qD7 (p:=p) (a:=a) (xs:=rs.map V.ref) (λj σ u=>∃(v:Option V) (qs:List Addr),σ=[v,some (.int g.length)]/\Same H5 u/\u p=some (.lst (qs.map V.ref))/\NetL u qs (shT g.length (Ae.take j))) ?_ ?_ ?_ ?_
  ·exact⟨none,[],rfl,qA2 hp _,qA1,.nil⟩
  ·rintro j σ u hj ⟨v,qs,rfl,sc,_⟩;exact SqT.of (sc _ _ hA)
  ·refineλj x σ u hx ar=>opq λbv b1=>?_;obtain⟨v,qs,rfl,sc,ah,NQ⟩:=ar;obtain⟨r,er,rfl⟩:=qBZ hx;obtain⟨z,ez,gz⟩:=qAQ NL er;refine b1 ?_;have hj:=(A3.mp ez).1;have rz:=wf j z ez;have lz:=rz.len;refine⟨_,rfl,r,rfl,⟨_,SqT.of (sc _ _ gz)⟩,λp2 ap=>?_⟩;refine qD7 (p:=p2) (a:=r) (xs:=z.map V.int) (λi σ Hd=>∃(v:Option V),σ=[v,some (.int g.length)]/\Same u Hd/\Hd p2=some (.lst (((z.take i).map λx=>x+(g.length:Int)).map V.int))) ?_ ?_ ?_ ?_
   ·exact⟨none,rfl,qA2 ap _,qA1⟩
   ·rintro i σ Hd hi ⟨v,rfl,sd,_⟩;exact SqT.of (sd _ _ (sc _ _ gz))
   ·refineλi x σ Hd hx ay=>opq λbt an=>?_;obtain⟨v,rfl,sd,a4⟩:=ay;obtain⟨y,ey,rfl⟩:=qB1 hx;refine an ?_;have li:=(A3.mp ey).1;refine⟨_,rfl,_,rfl,_,_,rfl,rfl,_,a4,qAI (by rw[A0,A0,C4];lia),_,rfl,qAB sd ap,?_⟩
    rw[qA1,C6,ey,C8,B0,B0]
    rfl
   ·refineλσ Hd al=>opq λbs b0=>?_;obtain⟨v,rfl,sd,a4⟩:=al;refine b0 ?_;rw[A0,qAT rfl] at a4;refine⟨p2,_,rfl,.inl ⟨SqL.of a4,λp3 b7=>?_⟩⟩;have s3:=sd.trans (qA2 b7 (.tup ((z.map λx=>x+(g.length:Int)).map V.int)));have g3:=s3 _ _ ah;have lq:=B6 NQ;have ae:(shT g.length (Ae.take j)).length=j:=by unfold shT;rw[A0,C4];lia
    refine⟨_,g3,qAI (by rw[A0];lia),?_⟩
    rw[qB2];refine⟨_,qs++[p3],rfl,qAB (sc.trans s3) hp,qA1,?_⟩;have e:shT g.length (Ae.take (j+1))=shT g.length (Ae.take j)++[z.map λx=>x+(g.length:Int)]:=by
     unfold shT;rw[C6,ez,C8,B0]
     rfl
    rw[e];exact qDE (qC1 (NQ.same λr ys e=>s3 _ _ e) qA1) g3
  ·refineλσ u aj=>opq λbr b2=>?_;obtain⟨v,qs,rfl,sc,ah,NQ⟩:=aj;refine b2 ?_;rw[A0,ag,qAT rfl] at NQ;have lq:=B6 NQ;have ae:(shT g.length Ae).length=Ae.length:=by unfold shT;rw[A0]
   refine⟨p,_,rfl,.inl ⟨SqL.of ah,λp1 af=>?_⟩⟩;have u1:=qA2 af (.tup (qs.map V.ref));refine⟨b,p1,_,_,rfl,rfl,u1 _ _ (sc _ _ gB),qA1,by rw[A0,A0,B16];lia,λp2 H6 s6 g6=>?_⟩
   rw[<- B0] at g6;have uu:=sc.trans (u1.trans s6);exact J3 p2 (g++shT g.length Ae) g.length t5 a2 H6 (S5.same uu) (by lia) (by lia) (b9.trans (.of_same uu)) ⟨_,g6,qL1 (NB.same λr ys e=>uu _ _ e) (NQ.same λr ys e=>(u1.trans s6) _ _ e)⟩ (qdH rfl b8 wf) (by rw[A8,ae];lia) (by rw[A8,ae];lia) (by rw[show m.toNat=Ae.length by lia];exact qY0 rfl wf a8) (λz=>by lia)
 ·exact J3 a Ae 0 (t1+1) as H3 S3 (by lia) (by lia) ab a9 wf (by lia) (by lia) (by rw[show 0+m.toNat=Ae.length by lia];exact .zero wf a8) (λ_=>by lia)
theorem sc_Lown:FnScope ["_law_net_here","_law_work","_law_some"] ["_law_net_here","_law_work"] (qAA qR6):=qBK
theorem ok_Lown (F:Fun K "_law_own" "_law_own" qR6 f fd) (af:Clb P w K mg base 1 qFG qHU "_law_needed" ["_law_net_here","_law_asked"] qIO) (a6:mg "tuple" = none):FnOk P w K mg base CX0 2 f fd ["_law_net_here","_law_work"] qU1:=by
 refine F.okA sc_Lown λaq A ah s H vs Q E hr h=>?_;obtain⟨a,g,c,rfl,hN,wf,ak,w0,w1,q⟩:=h;refine⟨_,(qA4 (qAE (i:=2) sc_Lown.nd rfl (g8 rfl) (qAR af hr rfl (qA0 (pv 0) (qA0 (qB7 (qA0 (pv 1) qA3)) qA3)))) (qA5 (qAG (qAH qAK rfl a6 qAU (qA0 (qC4 rfl (lcs (own:=["_law_one"]) (fv:=[0,2]) (by kernel_rfl)) (qBW (pv 2)) (λz1=>qBR 0) (λz1=>qAY) (λz1=>(qAH (qES (K:=K) rfl) rfl a6 qAU (qA0 (qC4 (X:=lcCx _ _ _ _ z1) rfl (lcs (own:=["_law_need"]) (fv:=[2]) (by kernel_rfl)) (qM8 (K:=K) rfl (qB5 (qEK (K:=K) rfl) (pv 1) (pv 0) (λ_ _=>rfl))) (λz2=>qBR 0) (λz2=>qAY) (λz2=>(qdV (K:=K) rfl E9 PySem.F.slot_list_index PySem.F.type_list_index qVC (pv 1) (qA0 (pv 0) qA3)))) qA3)))) qA3))))),?_⟩
 try dsimp only[Cx.nox,Cx.wish,cxOf]
 obtain⟨ra,hA,NL⟩:=id hN;have al:=B6 NL;refine cut λN0 ag=>?_;refine⟨_,rfl,_,rfl,(by show 1<=B14;decide),λt ht=>?_⟩
 have s1:=qA2 ht (.tup [.int c]);have gt:qI2 (Ag H t (.tup [.int c])) t g [c]:=⟨qA1,⟨P4 _ _,λx o=>by rw[A5.mp o];exact⟨w0,w1⟩⟩⟩
 generalize Ag H t (.tup [.int c])=H1 at s1 gt ⊢;refine⟨a,t,g,[c],rfl,hN.same s1,wf,by lia,gt,λl d H2 s2 fl gl N=>?_⟩
 have u:=s1.trans s2;have lz:=N.1.len;refine ag _ _ ?_;refine⟨_,rfl,l,rfl,⟨_,SqL.of gl⟩,λp hp=>?_⟩;refine qDO (p:=p) (a:=l) (xs:=d.map V.int) (λi σ n=>∃(v0:Option V) (qs:List Addr),σ=[v0,some (.ref a),some (.ref l)]/\Same H2 n/\n p=some (.lst (qs.map V.ref))/\NetL n qs ((d.take i).map λw=>((g[w.toNat]?).getD []).filterMap (qDR d))) ?_ ?_ ?_ ?_
 ·exact⟨none,[],rfl,qA2 hp _,qA1,.nil⟩
 ·rintro i σ n hi ⟨v0,qs,rfl,sm,_⟩;exact SqL.of (sm _ _ gl)
 ·refineλi x σ n o a1=>opq λap a8=>?_;obtain⟨v0,qs,rfl,sm,a0,NQ⟩:=a1;obtain⟨y,ey,rfl⟩:=qB1 o;refine a8 ?_;have hi:=(A3.mp ey).1;have a4:=B1 ey;have lQ:qs.length<=i:=by have:=B6 NQ;rw[this,A0,C4];lia
  have yb:=N.1.in_ y a4;have hy:y.toNat<g.length:=by lia
  have hz:=A4 hy;obtain⟨r,h3,h4⟩:=NL.get hz;have rz:=wf y.toNat _ hz;have en:nd g y=g[y.toNat]:=qB8 hz;have ac:∀x∈g[y.toNat],x∈d:=λx o=>(N.2 x).mpr (((N.2 y).mp a4).need hz o);generalize g[y.toNat]=ns at h4 hz rz en ac;have aj:=rz.len;have ai:=sm _ _ (u _ _ hA);have a3:=sm _ _ (u _ _ h4);refine⟨_,rfl,_,rfl,a,_,_,_,rfl,rfl,SqT.of ai,qCY yb.1 (by rw[C1,h3];rfl),r,rfl,⟨_,SqT.of a3⟩,λp2 a5=>?_⟩
  refine qD7 (p:=p2) (a:=r) (xs:=ns.map V.int) (λj σ Hd=>∃(v:Option V),σ=[v,some (.ref l)]/\Same n Hd/\Hd p2=some (.lst (((ns.take j).filterMap (qDR d)).map V.int))) ?_ ?_ ?_ ?_
  ·exact⟨none,rfl,qA2 a5 _,qA1⟩
  ·rintro j σ Hd hj ⟨v,rfl,se,_⟩;exact SqT.of (se _ _ a3)
  ·refineλj x σ Hd o a7=>opq λan ad=>?_;obtain⟨v,rfl,se,m⟩:=a7;obtain⟨z,ez,rfl⟩:=qB1 o;refine ad ?_;have hj:=(A3.mp ez).1;have lf:((ns.take j).filterMap (qDR d)).length<=j:=F2 (O8 _ _) (by rw[C4];lia)
   obtain⟨k,hk⟩:=D8 (ac z (B1 ez));have first:∀i,i<k->d[i]?≠some z:=qTC N.1.nodup hk;refine⟨_,rfl,.inl ⟨rfl,_,SqL.of (se _ _ (sm _ _ gl))⟩,_,rfl,l,d,z,k,rfl,rfl,se _ _ (sm _ _ gl),hk,first,?_⟩;refine⟨_,m,qAI (by rw[A0];lia),_,rfl,qAB se a5,?_⟩
   rw[qA1,C6,ez,C8,U5,L0,qDD N.1.nodup hk,B0]
   rfl
  refineλσ Hd ab=>opq λao a9=>?_;obtain⟨v,rfl,se,m⟩:=ab;refine a9 ?_;rw[A0,Y3] at m;refine⟨p2,_,rfl,.inl ⟨SqL.of m,λtq ae=>?_⟩⟩;have sq:=se.trans (qA2 ae (.tup ((ns.filterMap (qDR d)).map V.int)));have g1:=sq _ _ a0;refine⟨_,g1,qAI (by rw[A0];lia),?_⟩
  rw[qB2];refine⟨_,qs++[tq],rfl,qAB (sm.trans sq) hp,qA1,?_⟩;have e7:((d.take (i+1)).map λw=>((g[w.toNat]?).getD []).filterMap (qDR d))=((d.take i).map λw=>((g[w.toNat]?).getD []).filterMap (qDR d))++[ns.filterMap (qDR d)]:=by
   rw[C6,ey,C8,B0,A51,hz,W3]
  rw[e7];exact qDE (qC1 (NQ.same λr' ys e=>sq _ _ e) qA1) g1
 refineλσ n aa=>opq λam a2=>?_;obtain⟨v0,qs,rfl,sm,a0,NQ⟩:=aa;refine a2 ?_;rw[A0,Y3] at NQ;refine⟨p,_,rfl,.inl ⟨SqL.of a0,λb hb=>?_⟩⟩;have sb:=qA2 hb (.tup (qs.map V.ref));exact q b d _ (u.trans (sm.trans sb)) N ⟨qs,qA1,NQ.same λr ys e=>sb _ _ e⟩
theorem sc_Lfirst_rooms:FnScope ["_law_own_here","_law_work","_law_rooms"] ["_law_own_here","_law_work"] (qAA qCR):=qBK
theorem ok_Lfirst_rooms (F:Fun K "_law_first_rooms" "_law_first_rooms" qCR f fd) (aj:Clb P w K mg base 1 qQD qZO "_law_come" ["_law_net_here","_law_rooms"] qa5) (ak:mg "any" = none):FnOk P w K mg base CX0 2 f fd ["_law_own_here","_law_work"] qN9:=by
 refine F.okA sc_Lfirst_rooms λas A ah s H vs Q E hr h=>?_;obtain⟨a,Ae,c,r,rfl,hN,wf,a7,l0,l1,FW,q⟩:=h;refine⟨_,(qA4 (qAE (i:=2) sc_Lfirst_rooms.nd rfl (E1 rfl) qA7) (qA4 (qFS D3 (qG3 (qD6 (qA9 (qZV rfl) rfl ak qeK (qA0 (qC4 rfl (lcs (own:=["_law_bits"]) (fv:=[1]) (by kernel_rfl)) (qRG (qAR aj hr rfl (qA0 (pv 0) (qA0 (pv 2) qA3)))) (λz1=>qBR 0) (λz1=>qAY) (λz1=>(qD3 qED (qAO qRK (qAO qUW (pv 0) (pv 1)) qA7) qA7 (qAS _)))) qA3)))) (qA5 (qAE (i:=2) sc_Lfirst_rooms.nd rfl (E1 rfl) (qAO qC7 (pv 2) qA7)))) (qA5 (qAG (pv 2))))),?_⟩
 try dsimp only[Cx.nox,Cx.wish,cxOf]
 have r1:=FW.1;refine cut λN1 af=>af _ _ (cut λN2 ai=>?_);refine⟨λm σ Hc=>∃(k:Int),σ=[some (.ref a),some (.int c),some (.int k)]/\m=(r-k).toNat/\Same H Hc/\1<=k/\k<=r,⟨_,1,rfl,rfl,Same.refl H,by lia,r1⟩,?_⟩
 refineλm σ Hc ac=>opq λar ad=>?_;obtain⟨k,rfl,rfl,sm,k1,k2⟩:=ac;refine ad ?_;refine⟨_,rfl,_,rfl,a,Ae,k,rfl,hN.same sm,wf,a7,λd o n g H4 ag ao gd C=>?_⟩;have kl:n.length<=2^Ae.length:=qEF C.nd λb l=>(C.snd b l).1.lt;have aq:2^Ae.length<=2^12:=R4 (by decide) a7
 refine⟨d,o,kvN n g,rfl,gd,λp1 a5=>?_⟩;refine qYX (p:=p1) (a:=d) (o:=o) (Af:=kvN n g) (λi σ Hc=>∃(v:Option V),σ=[v,some (.int c)]/\Same H4 Hc/\Hc p1=some (.lst (((n.take i).map λb=>b.testBit c.toNat).map V.bl))) ?_ ?_ ?_ ?_
 ·exact⟨none,rfl,qA2 a5 _,qA1⟩
 ·refineλi σ Hd hi a1=>opq λan a3=>?_;obtain⟨v,rfl,sd,_⟩:=a1;refine a3 ?_;exact sd _ _ gd
 ·refineλi k3 v1 σ Hd hk ab=>opq λau a6=>?_;obtain⟨v,rfl,sd,j⟩:=ab;refine a6 ?_;unfold kvN at hk;rw[C1] at hk;cases e:n[i]? with
  |none=>rw[e] at hk;cases hk
  |some x=>
   rw[e] at hk;cases hk;have hi:=(A3.mp e).1;refine⟨_,rfl,_,rfl,_,_,rfl,rfl,l0,_,_,rfl,rfl,rfl,_,j,qAW (by rw[A0,A0,C4];lia),_,rfl,qAB sd a5,?_⟩
   dsimp only;have ae:decide (V.int (U8 ((x:Int)/2^c.toNat) 1)=V.int 1)=x.testBit c.toNat:=by
    rw[qUB,show(1:Int)=((1:Nat):Int) from rfl,qFY,A49,qMU];cases x.testBit c.toNat<;>rfl
   rw[ae,qA1,C6,e,C8,B0,B0]
   rfl
 refineλσ Hd a0=>opq λal aa=>?_;obtain⟨v,rfl,sd,j⟩:=a0;refine aa ?_;rw[qPZ,qAT rfl] at j;refine⟨p1,_,rfl,SqL.of j,?_⟩;have l:(((n.map λb=>b.testBit c.toNat).any id)=true)↔Has Ae k [c]:=by
  rw[y4]
  constructor
  ·refineλa4=>opq λam a8=>?_;obtain⟨b,l,eb⟩:=a4;obtain⟨x,hx,rfl⟩:=D5.mp l;obtain⟨st,t,e,p,_⟩:=(C.snd x hx).1.path wf;refine a8 ?_;refine⟨t,st,p,λy hy=>?_⟩;rw[A5.mp hy];have eb:x.testBit c.toNat=true:=eb;rw[e,qAX p.rise,show((c.toNat:Nat):Int)=c by lia,decide_eq_true_eq] at eb
   exact eb
  ·refineλa2=>opq λap a9=>?_;obtain⟨u,st,p,hs⟩:=a2;obtain⟨m,_,R⟩:=p.bits wf;refine a9 ?_;refine⟨_,D5.mpr ⟨_,C.all m _ R,rfl⟩,?_⟩;show(mskN st).testBit c.toNat=true;rw[qAX p.rise,show((c.toNat:Nat):Int)=c by lia]
   exact decide_eq_true (hs _ (A5.mpr rfl))
 have s2:=sm.trans (ag.trans sd);generalize (n.map λb=>b.testBit c.toNat).any id=bb at l;refine⟨bb,rfl,?_⟩;cases bb with
 |true=>
  have e:k=r:=A11 k2 (FW.2.2 k k1 (l.mp rfl));subst e;exact ai _ _ ⟨_,rfl,q Hd s2⟩
 |false=>
  have e:k<r:=by
   apply Q6;intro z;have:k=r:=by lia
   subst this;cases l.mpr FW.2.1
  refine⟨λσ' H'=>∃m',m'<(r-k).toNat/\_,λσ' H' z=>z,?_⟩;refine⟨_,rfl,_,_,rfl,rfl,?_⟩;exact⟨(r-(k+1)).toNat,by lia,k+1,rfl,rfl,s2,by lia,by lia⟩
theorem sc_Lplan_right:FnScope ["_law_net_here","_law_work","_law_plan","_law_rooms","_law_stands","_law_word_here"] ["_law_net_here","_law_work","_law_plan","_law_rooms"] (qAA qDC):=qBK
theorem ok_Lplan_right (F:Fun K "_law_plan_right" "_law_plan_right" qDC f fd) (ad:Clb P w K mg base 2 qH6 qLC "_law_played" ["_law_net_here","_law_rooms","_law_plan"] qLR) (ah:Clb P w K mg base 1 qFG qHU "_law_needed" ["_law_net_here","_law_asked"] qIO) (am:mg "len" = none) (as:mg "max" = none) (qBQ:mg "sorted" = none):FnOk P w K mg base CX0 3 f fd ["_law_net_here","_law_work","_law_plan","_law_rooms"] qN7:=by
 refine F.okA sc_Lplan_right λb5 A ar s H vs Q E hr h=>?_;obtain⟨a,l,Ae,c,r,k,zs,rfl,PI,w0,w1,N,aj,pk,dp,b1,q⟩:=h;have t:=hr.units0;refine⟨_,(qA4 (qI7 (qAR ad hr rfl (qA0 (pv 0) (qA0 (pv 3) (qA0 (pv 2) qA3)))) (qG4 rfl (qAV (qAN (i:=4) sc_Lplan_right.nd rfl (E1 rfl)) (qAV (qAN (i:=5) sc_Lplan_right.nd rfl (E1 rfl)) qD2)))) (qA4 (qBP (PW.pt (qM5 (qDY (qMB (pv 5))) (qM5 (qAM (qPI t) (qB5 qCF (pv 4) (qKH qG1 qA7) (λ_ _=>rfl)) (qB7 (qA0 (pv 1) qA3)) (qAS _)) (qKY (qAM qNL (qA9 (qK8 rfl) rfl as qS7 (qA0 (qC4 rfl (lcs (own:=["_law_stand"]) (fv:=[]) (by kernel_rfl)) (qBW (pv 4)) (λz1=>qBR 0) (λz1=>qAY) (λz1=>(qA9 (qOE (K:=K) rfl) rfl am qBD (qA0 (pv 0) qA3)))) qA3)) (pv 3) (qAS _)))))) (qA5 (qAG qEX)) qAL) (qA5 (qAG (qD3 (qPK t) (qA9 (qIC rfl) rfl qBQ qD0 (qA0 (qC4 rfl (lcs (own:=["_law_move"]) (fv:=[]) (by kernel_rfl)) (qBW (pv 2)) (λz2=>qBR 0) (λz2=>(qEJ (qAM qED (qB5 (qEK (K:=K) rfl) (pv 0) qA7 (λ_ _=>rfl)) qBO (qAS _)))) (λz2=>(qB5 (qEK (K:=K) rfl) (pv 0) qA7 (λ_ _=>rfl)))) qA3)) (qAR ah hr rfl (qA0 (pv 0) (qA0 (qB7 (qA0 (pv 1) qA3)) qA3))) (qAS _)))))),?_⟩
 try dsimp only[Cx.nox,Cx.wish,cxOf]
 obtain⟨hN,wf,ax,PL,_,ab,_,_⟩:=id PI;obtain⟨aw,P0,an,ak,_⟩:=aj.play .nil;have lz:=N.1.len;refine cut λN0 aq=>?_;refine⟨_,rfl,_,rfl,_,rfl,a,l,Ae,k,r,rfl,PI,λT ls ag v H1 s1 P gT b0 SA av=>?_⟩;obtain⟨rfl,rfl⟩:=P.one ab P0;refine⟨T,_,rfl,SqT.of gT,rfl,_,_,rfl,_,_,rfl,rfl,?_⟩;clear gT;refine aq _ _ (cut λN1 ac=>?_);obtain⟨ks,aa,NK⟩:=id SA;have ae:=B6 NK;obtain⟨ss,r',ek,gr⟩:=qVR NK;rw[an] at gr;refine⟨_,rfl,_,rfl,?_⟩;rw[decide_eq_true (rfl:V.non=V.non)];refine iteF ?_;refine⟨_,rfl,_,rfl,ls,_,_,_,rfl,rfl,SqL.of aa,by rw[ek,B0];exact qIZ _ _,?_⟩
 refine⟨_,rfl,(by show 1<=B14;decide),λtp ai=>?_⟩
 have s2:=qA2 ai (.tup [.int c]);have a0:(Ag H1 tp (.tup [.int c])) tp=some (.tup ([c].map V.int)):=qA1;generalize Ag H1 tp (.tup [.int c])=H2 at s2 a0 ⊢;refine⟨r',tp,[c],rfl,rfl,SqT.of (s2 _ _ gr),SqT.of a0,?_⟩;refine⟨_,rfl,?_⟩;refine iteF ?_;have n:=s2 _ _ aa;refine⟨_,rfl,ls,rfl,⟨_,SqL.of n⟩,λp hp=>?_⟩;refine qDO (p:=p) (a:=ls) (xs:=ks.map V.ref) (λi σ j=>∃(v:Option V),σ=[v]/\Same H2 j/\j p=some (.lst ((lens (([]::ag).take i)).map V.int))) ?_ ?_ ?_ ?_
 ·exact⟨none,rfl,qA2 hp _,qA1⟩
 ·rintro i σ j hi ⟨v,rfl,sm,_⟩;exact SqL.of (sm _ _ n)
 ·refineλi x σ j hx u=>opq λb4 a2=>?_;obtain⟨v,rfl,sm,d⟩:=u;obtain⟨rr,al,rfl⟩:=qBZ hx;obtain⟨z,ez,g⟩:=qAQ NK al;refine a2 ?_;have hi:=(A3.mp ez).1;rw[C3] at hi;refine⟨_,rfl,rr,_,rfl,.inr (SqT.of (sm _ _ (s2 _ _ g))),_,d,qAW (by unfold lens;rw[A0,A0,C4];lia),_,rfl,qAB sm hp,?_⟩
  rw[qA1];refine congrArg (λl=>some (HO.lst l)) ?_;rw[qJ6 ez];unfold lens;rw[B0,B0,A0]
  rfl
 refineλσ H3 a6=>opq λay a4=>?_;obtain⟨v,rfl,s3,d⟩:=a6;refine a4 ?_;rw[A0,ae,qAT (by rw[C3])] at d
 refine⟨p,_,r,rfl,SqL.of d,by rw[ak];exact congrArg some pk,?_⟩
 refine⟨_,rfl,rfl,_,rfl,?_⟩;rw[decide_eq_true (rfl:V.int r=V.int r)];refine iteF ?_;have S3:=s1.trans (s2.trans s3);obtain⟨rs,hl,M⟩:=PL.same S3;have ap:=B6 M;refine ac _ _ ?_;refine⟨_,rfl,l,rfl,⟨_,SqL.of hl⟩,λp2 a1=>?_⟩;refine qDO (p:=p2) (a:=l) (xs:=rs.map V.ref) (λi σ j=>∃(v:Option V),σ=[v]/\Same H3 j/\j p2=some (.lst ((qBA (k.take i)).map V.int))) ?_ ?_ ?_ ?_
 ·exact⟨none,rfl,qA2 a1 _,qA1⟩
 ·rintro i σ j hi ⟨v,rfl,sm,_⟩;exact SqL.of (sm _ _ hl)
 ·refineλi x σ j hx a9=>opq λb3 a5=>?_;obtain⟨v,rfl,sm,d⟩:=a9;obtain⟨mr,ao,rfl⟩:=qBZ hx;obtain⟨⟨Ac,wk⟩,hm,hH⟩:=qAQ M ao;refine a5 ?_;dsimp only at hH;have hi:=(A3.mp hm).1;have ld:(qBA (k.take i)).length<=i:=F2 (O8 _ _) (by rw[C4];lia)
  have es:qBA (k.take (i+1))=qBA (k.take i)++qBA [(Ac,wk)]:=by rw[qJ6 hm,qO5]
  refine⟨_,rfl,mr,_,_,_,rfl,rfl,SqT.of (sm _ _ hH),rfl,rfl,_,rfl,?_⟩;rw[es];refine ite2 (λck=>?_) (λck=>?_)
  ·have hd:Ac=B9 "do":=V.str.inj (of_decide_eq_true ck)
   refine⟨_,rfl,mr,_,_,_,rfl,rfl,SqT.of (sm _ _ hH),rfl,_,d,qAW (by rw[A0];lia),_,rfl,qAB sm a1,?_⟩
   rw[qA1,show qBA [(Ac,wk)]=[wk] from by rw[hd];rfl,B0]
   rfl
  ·have hd:¬Ac=B9 "do":=λe=>ck (decide_eq_true (congrArg V.str e))
   refine⟨_,rfl,sm,?_⟩;rw[show qBA [(Ac,wk)]=[] from by unfold qBA;simp[hd],K0]
   exact d
 refineλσ H4 a7=>opq λb2 y=>?_;obtain⟨v,rfl,s4,m⟩:=a7;refine y ?_;rw[A0,ap,qAT rfl] at m;have ld:(qBA k).length<=k.length:=O8 _ _;refine⟨p2,qBA k,rfl,.inl (SqL.of m),by lia,λb o hb au hs=>?_⟩
 have ey:o=zs:=qHK (au.trans dp) hs (N.1.up.imp λh=>m5 h);subst ey;have s5:=qA2 hb (.lst (o.map V.int));have gb:(Ag H4 b (.lst (o.map V.int))) b=some (.lst (o.map V.int)):=qA1;generalize Ag H4 b (.lst (o.map V.int))=H5 at s5 gb ⊢;refine⟨_,rfl,_,rfl,(by show 1<=B14;decide),λtq af=>?_⟩
 have s6:=qA2 af (.tup [.int c]);have a8:qI2 (Ag H5 tq (.tup [.int c])) tq Ae [c]:=⟨qA1,⟨P4 _ _,λx hx=>by rw[A5.mp hx];exact⟨w0,w1⟩⟩⟩
 generalize Ag H5 tq (.tup [.int c])=H6 at s6 a8 ⊢;have S6:=S3.trans (s4.trans (s5.trans s6));refine⟨a,tq,Ae,[c],rfl,hN.same S6,wf,by lia,a8,λl2 z2 H7 s7 az a3 N2=>?_⟩
 rw[qC8 N2 N] at a3;exact⟨b,l2,o,rfl,rfl,SqL.of (s7 _ _ (s6 _ _ gb)),SqL.of a3,q H7 (S6.trans s7)⟩
theorem sc_Lright:FnScope ["_law_net_here","_law_work","_law_own_here","_law_some","_law_due","_law_plan","_law_one","_law_number","_law_part","_law_rooms","_law_other"] ["_law_net_here","_law_work"] (qAA qIS):=qBK
theorem ok_Lright (F:Fun K "_law_right" "_law_right" qIS f fd) (ak:Clb P w K mg base 2 qWL qcC "_law_own" ["_law_net_here","_law_work"] qU1) (bs:Clb P w K mg base 1 qFG qHU "_law_needed" ["_law_net_here","_law_asked"] qIO) (au:Clb P w K mg base 2 qE8 qK1 "_law_first_rooms" ["_law_own_here","_law_work"] qN9) (cc:Clb P w K mg base 1 qQB qZM "_law_same" ["_law_found","_law_due"] qTY) (c5:Clb P w K mg base 5 qFE qMK "tree_rooms" ["net","work"] qI4) (bg:Clb P w K mg base 5 qDQ qO0 "tree_plan" ["net","work"] (qJ8 Po)) (ag:Clb P w K mg base 3 qQC qZN "_law_does" ["_law_net_here","_law_rooms","_law_plan","_law_asked"] qU4) (c3:Clb P w K mg base 3 qEQ qKO "_law_plan_right" ["_law_net_here","_law_work","_law_plan","_law_rooms"] qN7) (bp:Clb P w K mg base 4 qK3 qTE "most_of" ["net","plan"] qU2) (b8:Clb P w K mg base 1 qHV qQ4 "steps_of" ["plan"] qTX) (c1:Clb P w K mg base 4 qWK qcB "does" ["net","rooms","plan","asked"] qU5) (qBS:Clb P w K mg base 4 qC9 qDH "numbers_of" ["net","work"] qFM) (bq:Clb P w K mg base 5 qMM qWH "fewest" ["net","asked"] (qa4 Pt)) (v:mg "len" = none):FnOk P w K mg base CX0 6 f fd ["_law_net_here","_law_work"] (qN6 Pt Po):=by
 refine F.okA sc_Lright λcu A cd s H vs Q E j h=>?_;obtain⟨a,d,c,rfl,ai,bz,TG,y,z9,q⟩:=h;refine⟨_,(qA4 (qAE (i:=2) sc_Lright.nd rfl (E1 rfl) (qAR ak j rfl (qA0 (pv 0) (qA0 (pv 1) qA3)))) (qA4 (qAE (i:=3) sc_Lright.nd rfl (E1 rfl) (qAR bs j rfl (qA0 (pv 0) (qA0 (qB7 (qA0 (pv 1) qA3)) qA3)))) (qA4 (qAE (i:=4) sc_Lright.nd rfl (E1 rfl) (qAR au j rfl (qA0 (pv 2) (qA0 (qAO qDN (qA9 qAC rfl v qBD (qA0 (pv 2) qA3)) qA7) qA3)))) (qA4 (qBP (qG3 (qD6 (qAR cc j rfl (qA0 (qAR c5 j rfl (qA0 (pv 0) (qA0 (pv 1) qA3))) (qA0 (pv 4) qA3))))) (qA5 (qAG qEX)) qAL) (qA4 (qAE (i:=5) sc_Lright.nd rfl (E1 rfl) (qAR bg j rfl (qA0 (pv 0) (qA0 (pv 1) qA3)))) (qA4 (qBP (PW.pt (qM5 (qG3 (qD6 (qAR ag j rfl (qA0 (pv 0) (qA0 (pv 4) (qA0 (pv 5) (qA0 (qB7 (qA0 (pv 1) qA3)) qA3))))))) (qKY (qG3 (qD6 (qAR c3 j rfl (qA0 (pv 0) (qA0 (pv 1) (qA0 (pv 5) (qA0 (pv 4) qA3)))))))))) (qA5 (qAG qEX)) qAL) (qA4 (qBP (PW.pt (qM5 (qAM qNL (qAR bp j rfl (qA0 (pv 0) (qA0 (pv 5) qA3))) (pv 4) (qAS _)) (qM5 (qAM qNL (qAR b8 j rfl (qA0 (pv 5) qA3)) (qA9 qAC rfl v qBD (qA0 (pv 3) qA3)) (qAS _)) (qKY (qAM qV0 (qAR c1 j rfl (qA0 (pv 0) (qA0 (qAO qC7 (pv 4) qA7) (qA0 (pv 5) (qA0 (qB7 (qA0 (pv 1) qA3)) qA3))))) qEX (qAS _)))))) (qA5 (qAG qEX)) qAL) (qA4 (qBU D3 rfl (qBW (qAR qBS j rfl (qA0 (pv 0) (qA0 (pv 1) qA3)))) (qG4 rfl (qAV (qAN (i:=6) sc_Lright.nd rfl (E1 rfl)) (qAV (qAN (i:=7) sc_Lright.nd rfl (E1 rfl)) qD2))) (qA4 (qAE (i:=8) sc_Lright.nd rfl (E1 rfl) (qAR ak j rfl (qA0 (pv 0) (qA0 (pv 6) qA3)))) (qA5 (qBP (qAM qNL (pv 7) (qAR au j rfl (qA0 (pv 8) (qA0 (qAO qDN (qA9 qAC rfl v qBD (qA0 (pv 8) qA3)) qA7) qA3))) (qAS _)) (qA5 (qAG qEX)) qAL)))) (qA4 (qBP (qAM qbT (qA9 qAC rfl v qBD (qA0 (pv 0) qA3)) qA7 (qAS _)) (qA5 (qAG qEX)) qAL) (qA4 (qI7 (qAR bq j rfl (qA0 (pv 0) (qA0 (qB7 (qA0 (pv 1) qA3)) qA3))) (qG4 rfl (qAV (qAN (i:=9) sc_Lright.nd rfl (E1 rfl)) (qAV (qAN (i:=10) sc_Lright.nd rfl (E1 rfl)) qD2)))) (qA5 (qAG (qI8 (qD3 qED (pv 9) (pv 4) (qAS _)) (qI8 (qAR ag j rfl (qA0 (pv 0) (qA0 (pv 9) (qA0 (pv 10) (qA0 (qB7 (qA0 (pv 1) qA3)) qA3))))) (qNI (qD3 qV2 (qAR b8 j rfl (qA0 (pv 10) qA3)) (qA9 qAC rfl v qBD (qA0 (pv 3) qA3)) (qAS _))))))))))))))))),?_⟩
 try dsimp only[Cx.nox,Cx.wish,cxOf]
 obtain⟨hN,k,_,w0,w1,hT⟩:=id TG;have rA:Rise (d.length:Int) [c]:=⟨P4 _ _,λx hx=>by rw[A5.mp hx];exact⟨w0,w1⟩⟩
 obtain⟨n,N⟩:=qV8 k rA;have l9:=z9 n N;have T:=TG.tin N;obtain⟨r,LR,cm⟩:=qYU k N (A7 1);have FW:=qNZ k N rA LR;have r1:=FW.1;have lz:=N.1.len;refine cut λN0 ca=>?_;refine⟨_,rfl,_,rfl,a,d,c,rfl,hN,k,y,w0,w1,λb ws H1 s1 NW hB=>?_⟩;obtain rfl:n=ws:=qC8 N NW;obtain⟨zl,FO⟩:=qUS N k w0 w1 FW;have lo:=qBV d n;refine ca _ _ (cut λN1 bc=>?_);refine⟨_,rfl,_,rfl,(by show 1<=B14;decide),λt ht=>?_⟩
 have s2:=s1.trans (qA2 ht (.tup [.int c]));have gt:qI2 (Ag H1 t (.tup [.int c])) t d [c]:=⟨qA1,rA⟩;have b6:=hB.same (qA2 ht (.tup [.int c]));generalize Ag H1 t (.tup [.int c])=H2 at s2 gt b6 ⊢;refine⟨a,t,d,[c],rfl,hN.same s2,k,by lia,gt,λl z2 H3 s3 fl gl NZ=>?_⟩
 rw[qC8 NZ N] at gl;have S3:=s2.trans s3;have ap:=b6.same s3;obtain⟨rb,bm,NB⟩:=id ap;have c9:(((rb.map V.ref).length:Nat):Int)=(n.length:Int):=by rw[A0,B6 NB,lo]
 refine bc _ _ (cut λN2 bd=>?_);refine⟨_,rfl,_,rfl,b,_,rfl,.inr (SqT.of bm),_,_,rfl,rfl,?_⟩;dsimp only;rw[c9];refine⟨b,qBY d n,(n.length:Int)-1,r,rfl,ap,qCL k N.1,by lia,by lia,by lia,FO,λH4 s4=>?_⟩
 have S4:=S3.trans s4;refine bd _ _ (cut λN3 bx=>?_);refine⟨_,rfl,_,rfl,a,d,c,rfl,TG.same S4,λzz f H5 s5 N5 NO=>?_⟩;obtain rfl:n=zz:=qC8 N N5;have ef:f c=r:=(qLN T NO).one FW;rw[ef];refine⟨_,rfl,r,rfl,λH6 s6=>?_⟩;refine⟨_,rfl,?_⟩;refine iteF ?_;have S6:=S4.trans (s5.trans s6);refine bx _ _ (cut λN4 bu=>?_);refine⟨_,rfl,_,rfl,a,d,c,rfl,S6 _ _ bz,TG.same S6,λlp bo f2 Pl H7 s7 cn N7 a9 PO PL=>?_⟩;obtain rfl:n=bo:=qC8 N N7;have S7:=S6.trans s7;have hw:=qBT N;have b1:f2 c=r:=(qLN T a9).one FW;have a0:=qKU T PO;have am:=a0.length_eq;have ce:=(qLO T PO _ _ rfl hw).2.2;have ta:=qQY T a9 PO (qV7 a9 hw);obtain⟨st,run,pm,o⟩:=ta.lets (Int.le_of_eq b1) (λx hx=>N.1.in_ x (a0.mem_iff.mp hx)) n6 (λx hx=>nomatch hx) (.zero) (.refl _);obtain rfl:st=[c]:=List.perm_singleton.mp pm;have pk:peak 0 (Pl c)=r:=by
  have e:=ta.peak (L7 _);have g:=qM9 0 (Pl c);rw[b1] at e;show peak ((([]:List Int).length:Nat):Int) _=r;show peak 0 _=r;have e:r=max 0 (peak 0 (Pl c)):=e
  lia
 generalize hms:Pl c=ms at PL run o pk ce a0 am;clear ta PO;have a4:∀x∈[c],x∈[c]:=λ_ h=>h;have aw:PlayIn2 H7 a lp d ms r:=⟨hN.same S7,k,y,PL,by lia,o,by lia,by lia⟩
 refine bu _ _ (cut λN5 bt=>?_);refine⟨_,rfl,_,rfl,_,rfl,_,rfl,(by show 1<=B14;decide),λt8 bk=>?_⟩
 have s8:=qA2 bk (.tup [.int c]);have an:(Ag H7 t8 (.tup [.int c])) t8=some (.tup ([c].map V.int)):=qA1;generalize Ag H7 t8 (.tup [.int c])=H8 at s8 an ⊢;refine⟨a,lp,t8,d,ms,r,[c],[c],rfl,aw.same s8,run,an,by rw[B3];decide,a4,λH9 s9=>?_⟩
 have ae:=s8.trans s9;refine⟨_,rfl,?_⟩;refine iteF ?_;refine⟨_,rfl,_,rfl,_,rfl,_,rfl,a,lp,d,c,r,ms,n,rfl,aw.same ae,w0,w1,N,run,pk,a0,by lia,λHa sa=>?_⟩
 refine⟨_,rfl,?_⟩;refine iteF ?_;have a3:=ae.trans sa;have Sa:=S7.trans a3;have RN:r<=(d.length:Int):=by lia
 have a7:=qR9 run RN;have rm:=qY4 o a7;obtain⟨az,cb,_⟩:=a7.play .nil;have ba:=hN.same Sa;have aa:=PL.same a3;have br:qSB Ha a lp d ms (d.length:Int):=⟨ba,k,by lia,aa,by lia,o,by lia,by lia⟩
 refine bt _ _ (cut λN6 bh=>?_);refine⟨_,rfl,_,rfl,a,lp,d,ms,az,rfl,br,cb,λbn m Hb sb P6 e6=>?_⟩;rw[rm.1 bn m P6 e6,pk];refine⟨_,rfl,rfl,_,rfl,?_⟩;rw[decide_eq_true (rfl:V.int r=V.int r)];refine iteF ?_;refine⟨_,rfl,lp,ms,rfl,aa.same sb,by lia,λHc sc=>?_⟩
 rw[qWS,am];have a1:=sb.trans sc;have c2:=(s4.trans (s5.trans (s6.trans (s7.trans (a3.trans a1))))) _ _ gl;refine⟨_,rfl,l,_,rfl,.inl (SqL.of c2),rfl,_,rfl,?_⟩;rw[A0,decide_eq_true (rfl:V.int (n.length:Int)=V.int (n.length:Int))];refine iteF ?_;refine⟨_,rfl,_,rfl,_,_,rfl,rfl,_,rfl,_,rfl,(by show 1<=B14;decide),λtd bl=>?_⟩
 have sd:=qA2 bl (.tup [.int c]);have ax:(Ag Hc td (.tup [.int c])) td=some (.tup ([c].map V.int)):=qA1;generalize Ag Hc td (.tup [.int c])=Hd at sd ax ⊢;have al:=qR9 run (show r<=r+3 by lia)
 refine⟨a,lp,td,d,ms,r+3,[c],[c],rfl,⟨ba.same (a1.trans sd),k,by lia,aa.same (a1.trans sd),by lia,o,by lia,by lia⟩,al,ax,by rw[B3];decide,a4,λHe se=>?_⟩
 refine⟨_,_,rfl,rfl,_,rfl,?_⟩;refine iteF ?_;have as:=a1.trans (sd.trans se);have Se:=Sa.trans as;refine bh _ _ (cut λN7 cj=>?_);refine⟨_,rfl,_,rfl,a,d,c,rfl,TG.same Se,λln rs be f3 Hf sf cr N3 ch b3 PN=>?_⟩;obtain rfl:n=be:=qC8 N N3;have Sf:=Se.trans sf;have bj:=(s4.trans (s5.trans (s6.trans (s7.trans (a3.trans (as.trans sf)))))) _ _ gl;refine⟨ln,rfl,⟨_,SqL.of b3⟩,qFW (a:=ln) (xs:=rs.map V.ref) (λi σ Hg=>∃(v6 v7 v8:Option V),σ=[some (.ref a),some (.int c),some (.ref b),some (.ref l),some (.int r),some (.ref lp),v6,v7,v8,none,none]/\Same Hf Hg)
  ⟨none,none,none,rfl,.refl _⟩ (λi σ Hg _ hP=>by obtain⟨_,_,_,_,sm⟩:=hP;exact SqL.of (sm _ _ b3)) ?_ ?_⟩
 ·refineλi x σ Hg hx b9=>opq λcp av=>?_;obtain⟨v6,v7,v8,rfl,sg⟩:=b9;obtain⟨rr,c4,rfl⟩:=qBZ hx;obtain⟨z,ez,g⟩:=qAQ PN c4;refine av ?_;have hz:=B1 ez;have zb:=N.1.in_ z hz;refine⟨rr,_,rfl,SqT.of (sg _ _ g),rfl,_,_,rfl,_,_,rfl,rfl,?_⟩;have Sg:=Sf.trans sg;refine cut λM0 ci=>?_;refine⟨_,rfl,_,rfl,a,d,z,rfl,hN.same Sg,k,y,zb.1,zb.2,λb2 p Hh sh a2 ad=>?_⟩;obtain⟨T4,a6⟩:=T.of hz a2;have F4:Few d [z] (f3 z):=qLN T4 λx hx=>ch x (a6 x hx);have l4:p.length<=n.length:=qHJ a2.1.nodup a6;obtain⟨cs,cg⟩:=qUS a2 k zb.1 zb.2 F4;have bw:=qBV d p;obtain⟨c6,b4,cf⟩:=id ad;have b0:(((c6.map V.ref).length:Nat):Int)=(p.length:Int):=by rw[A0,B6 cf,bw]
  refine ci _ _ ?_;refine⟨_,rfl,_,rfl,_,rfl,b2,_,rfl,.inr (SqT.of b4),_,_,rfl,rfl,?_⟩;dsimp only;rw[b0];refine⟨b2,qBY d p,(p.length:Int)-1,f3 z,rfl,ad,qCL k a2.1,by lia,by lia,by lia,cg,λHi si=>?_⟩
  refine⟨rfl,_,rfl,?_⟩;rw[decide_eq_true (rfl:V.int (f3 z)=V.int (f3 z))];refine iteF ?_;exact⟨_,_,_,rfl,sg.trans (sh.trans si)⟩
 refineλσ Hg af=>opq λct ao=>?_;obtain⟨v6,v7,v8,rfl,sg⟩:=af;refine ao ?_;have Sg:=Sf.trans sg;have ac:=hN.same Sg;obtain⟨ra,hA,NL⟩:=id ac;have co:=B6 NL;refine cj _ _ (cut λN8 bv=>?_);refine⟨_,rfl,a,_,rfl,.inr (SqT.of hA),_,_,rfl,rfl,_,rfl,?_⟩;refine ite2 (λay=>?_) (λay=>?_)
 ·exact q Hg Sg
 have cl:d.length<=10:=by
  have:=of_decide_eq_false (F5.mpr ay);rw[A0] at this
  lia
 refine bv _ _ (cut λN9 bb=>?_);refine⟨_,rfl,_,rfl,(by show 1<=B14;decide),λtf bf=>?_⟩
 have sh:=qA2 bf (.tup [.int c]);have b5:qI2 (Ag Hg tf (.tup [.int c])) tf d [c]:=⟨qA1,rA⟩;generalize Ag Hg tf (.tup [.int c])=Hh at sh b5 ⊢;refine⟨a,tf,d,[c],rfl,(Sg.trans sh) _ _ ai,ac.same sh,k,by lia,b5,A7 _,λT2 l2 r2 ab Hi si ar cq ah c7=>?_⟩
 have bi:=ar.lr N;obtain⟨a8,a5,u,c8,ck⟩:=ar.run k rA (by lia)
 obtain rfl:r2=r:=(qNZ k N rA bi).one FW;refine⟨T2,_,rfl,SqT.of c7,rfl,_,_,rfl,_,_,rfl,rfl,?_⟩;refine bb _ _ ?_;refine⟨_,rfl,_,rfl,rfl,?_⟩;refine⟨_,rfl,?_⟩;rw[if_pos (decide_eq_true (rfl:V.int r2=V.int r2))];refine⟨_,rfl,_,rfl,_,rfl,_,rfl,(by show 1<=B14;decide),λtj c0=>?_⟩
 have sj:=qA2 c0 (.tup [.int c]);have b7:(Ag Hi tj (.tup [.int c])) tj=some (.tup ([c].map V.int)):=qA1;generalize Ag Hi tj (.tup [.int c])=Hj at sj b7 ⊢;have aq:=sh.trans (si.trans sj);refine⟨a,l2,tj,d,ab,r2,[c],a8,rfl,⟨ac.same aq,k,y,ah.same sj,by lia,c8,by lia,by lia⟩,a5,b7,by rw[B3];decide,u,λHk sk=>?_⟩
 refine⟨_,rfl,?_⟩;rw[if_pos rfl];refine⟨_,rfl,l2,ab,rfl,ah.same (sj.trans sk),by lia,λHl sl=>?_⟩
 rw[qWS];have aj:=sg.trans (aq.trans (sk.trans sl));refine⟨_,rfl,l,_,rfl,.inl (SqL.of (aj _ _ bj)),_,_,rfl,rfl,?_⟩;have da:=qHJ N.1.nodup (qcH a5 u N);dsimp only;rw[A0,decide_eq_true (show(n.length:Int)<=((qBA ab).length:Int) by lia)]
 exact q Hl (Sf.trans aj)
theorem qdR {x k:Int}(a:0<=k)(c:k<4)(b:1<=x)(d:x<=6):∃n:Int,atI [V.int x,V.int 7,V.int 8,V.int 9] k=some (.int n)/\1<=n/\n<=9:=by
 obtain rfl|rfl|rfl|rfl:k=0\/k=1\/k=2\/k=3:=by lia
 ·exact⟨x,rfl,by lia,by lia⟩
 ·exact⟨7,rfl,by decide,by decide⟩
 ·exact⟨8,rfl,by decide,by decide⟩
 ·exact⟨9,rfl,by decide,by decide⟩
theorem sc_law:FnScope ["_law_script","_law_state","_law_turn","_law_net_here","_law_work"] ["_law_script"] (qAA qKG):=qBK
theorem ok_law (F:Fun K "law" "law" qKG f fd) (qJ2:Clb P w K mg base 1 qMO qWJ "_law_begin" ["_law_script"] (qU6 K)) (qBN:Clb P w K mg base 1 qGE qH4 "_law_take" ["_law_state","_law_many"] qKW) (qHF:Clb P w K mg base 4 qK5 qTG "_law_ground" ["_law_state","_law_many"] qR3) (qJ1:Clb P w K mg base 6 qMN qWI "_law_right" ["_law_net_here","_law_work"] (qN6 Pt Po)) (qB4:mg "range" = none):FnOk P w K mg base CX0 7 f fd ["_law_script"] (qLT K Pt Po):=by
 refine F.okA sc_law λan A ad s H vs Q E j h=>?_;obtain⟨o,a9,sc,ns,rfl,hS,a7,q⟩:=h;refine⟨_,(qA4 (qAE (i:=1) sc_law.nd rfl (E1 rfl) (qAR qJ2 j rfl (qA0 (pv 0) qA3))) (qA4 (qBU D3 rfl (qBH rfl qB4 (qA0 (qAO qC7 qA7 (qAR qBN j rfl (qA0 (pv 1) (qA0 qA7 qA3)))) qA3)) (qAN (i:=2) sc_law.nd rfl (E1 rfl)) (qA4 (qI7 (qAR qHF j rfl (qA0 (pv 1) (qA0 (qB5 qCF (qBX (qA0 (qAO qC7 qA7 (qAR qBN j rfl (qA0 (pv 1) (qA0 qA7 qA3)))) (qA0 qA7 (qA0 qA7 (qA0 qA7 qA3))))) (qAR qBN j rfl (qA0 (pv 1) (qA0 qA7 qA3))) (λ_ _=>rfl)) qA3))) (qG4 rfl (qAV (qAN (i:=3) sc_law.nd rfl (E1 rfl)) (qAV (qAN (i:=4) sc_law.nd rfl (E1 rfl)) qD2)))) (qA5 (qBP (qG3 (qD6 (qAR qJ1 j rfl (qA0 (pv 3) (qA0 (pv 4) qA3))))) (qA5 (qAG qEX)) qAL)))) (qA5 (qAG qEX)))),?_⟩
 try dsimp only[Cx.nox,Cx.wish,cxOf]
 refine cut λN0 ab=>?_;refine⟨_,rfl,sc,ns,rfl,hS,a7,λd c g H1 l r ak al=>?_⟩;have e:TabB H1 Pt:=r _ _ o;have a3:Pt≠d:=qCC e l.dict (by intro z;cases z)
 have a8:Pt≠c:=qCC e l.list (by intro z;cases z)
 have b:TabT H1 Po:=r _ _ a9;have ae:Po≠d:=qCC b l.dict (by intro z;cases z)
 have a4:Po≠c:=qCC b l.list (by intro z;cases z)
 refine ab _ _ (cut λN1 a6=>?_);refine⟨_,rfl,d,c,0,g,2,rfl,l,(by show(0:Int)<=1000000000;decide),by decide,by decide,λk1 ag H2 a0 a1 S2 K2=>⟨_,_,rfl,rfl,?_⟩⟩
 refine⟨1+k1,rfl,by lia,by lia,qFB (lo:=0) (n:=(1+k1).toNat) (λi σ x=>∃(t:Int) (g:List Int) (v2 v3 v4:Option V),σ=[some (.ref sc),some (.ref d),v2,v3,v4]/\StAt x d c t g/\t<=1+300*i/\Keep d c H1 x)
  ⟨0+1,ag,none,none,none,rfl,S2,by lia,K2⟩ ?_ ?_⟩
 ·refineλi σ x hi a2=>opq λaj v=>?_;obtain⟨t,g,v2,v3,v4,rfl,S,tb,Kc⟩:=a2;refine v ?_;refine cut λM0 af=>?_;refine⟨_,rfl,_,rfl,d,c,t,g,6,rfl,S,(by show t<=1000000000;lia),by decide,by decide,λk ac H3 b0 b1 S3 K3=>⟨_,_,rfl,rfl,(by show 4<=B14;decide),λp hp=>?_⟩⟩
  dsimp only;have S4:=S3.new hp (.lst [.int (1+k),.int 7,.int 8,.int 9]);have K4:=qDG (d:=d) (c:=c) hp (.lst [.int (1+k),.int 7,.int 8,.int 9]);have g4:(Ag H3 p (.lst [.int (1+k),.int 7,.int 8,.int 9])) p=some (.lst [.int (1+k),.int 7,.int 8,.int 9]):=qA1;have np:p≠d/\p≠c:=⟨(qA6 S3.dict hp).symm,(qA6 S3.list hp).symm⟩;generalize Ag H3 p (.lst [.int (1+k),.int 7,.int 8,.int 9])=H4 at S4 K4 g4 ⊢;refine⟨_,rfl,d,c,t+1,ac,4,rfl,S4,(by show t+1<=1000000000;lia),by decide,by decide,λk3 aa H5 c0 c1 S5 K5=>?_⟩
  obtain⟨n,hn,n1,n9⟩:=qdR c0 c1 (show 1<=1+k by lia) (by lia)
  refine⟨p,_,_,_,rfl,rfl,SqL.of (K5 _ _ g4 np.1 np.2),hn,?_⟩;refine⟨d,c,t+1+1,aa,n,rfl,S5,(by show t+1+1<=1000000000-20000;lia),by lia,by lia,λT a Ae y t6 ai H6 S6 e0 e1 K6 NI ah it a5 gT=>?_⟩
  have K7:=Kc.trans (K3.trans (K4.trans (K5.trans K6)));obtain⟨hN,wf,n4,w0,w1⟩:=NI;refine⟨T,_,rfl,SqT.of gT,rfl,_,_,rfl,_,_,rfl,rfl,?_⟩;refine af _ _ ?_;refine⟨_,rfl,_,rfl,a,Ae,y,rfl,K7 _ _ e a3 a8,K7 _ _ b ae a4,⟨hN,wf,n4,w0,w1,it⟩,by lia,λzs N=>by have:=a5 zs N;lia,λH8 s8=>⟨_,rfl,?_⟩⟩
  exact⟨_,_,_,_,_,rfl,S6.same s8,by lia,K7.trans (.of_same s8)⟩
 ·refineλσ x m=>opq λam u=>?_;obtain⟨t,g,v2,v3,v4,rfl,S,tb,Kc⟩:=m;refine u ?_;exact a6 _ _ (q x)
end
theorem all_mk {l:PySem.W.OpenLaw} {w:World} {K:PySem.W.Frag} {h:Heap} {mg:Str->Option Value} {fa ay c0 t u af c3 a4 y ag d be a8 ap bj aa bp bh bi ah az f ae a5 bu bm b8 b0 b3 b4 ak ac ai b5 ad bw al aj b1 ar av a0 aq i:Addr} (X:K.In h) (G:h.Ns B24 mg) (bs:mg "law" = some (.ref fa))
  {b9 bq r au a3 o:Option Addr} {b7 as bo:Array (Option Value)} {bn p ao bf bb bg q bk c1 br ba k m j g n:Value}
  {qER qGF qE1 qFJ:Addr}
  (T_all_needed:Tf K "all_needed" qDX ay)
  (T_use_counts:Tf K "use_counts" qDT c0)
  (T_renumbered:Tf K "renumbered" qDV t)
  (T_part_net:Tf K "part_net" qFO u)
  (T_is_tree:Tf K "is_tree" qGK af)
  (T_demand_tree:Tf K "demand_tree" qDA c3)
  (T_number_over:Tf K "number_over" qD8 a4)
  (T_numbers_of:Tf K "numbers_of" qDW y)
  (T_tree_rooms:Tf K "tree_rooms" qDU ag)
  (ab:d3 K B24 "tree_plan" = some (some (.ref d))) (bv:K.lookup d=some ⟨bn,b9,.func (Q8 "tree_plan" "tree_plan" (qE9 qC3) (qBC qC3) (qAA qC3) .none p ao bf bq (.ref qE1) bb),b7⟩) (a1:X9 K (.ref qE1) "tree_plan" = true) (a2:Q3 K (.ref d)=true)
  (T_fault_of_do:Tf K "fault_of_do" qD9 be)
  (T_fault_of:Tf K "fault_of" qFQ a8)
  (T_stand_behind:Tf K "stand_behind" qCP ap)
  (T_has_all:Tf K "has_all" qGL bj)
  (T_moves_of:Tf K "moves_of" qFP aa)
  (T_played:Tf K "played" qIQ bp)
  (T_steps_of:Tf K "steps_of" qFN bh)
  (T_most_of:Tf K "most_of" qGJ bi)
  (T_does:Tf K "does" qR5 ah)
  (T_stands_reached:Tf K "stands_reached" qAJ az)
  (am:d3 K B24 "best_end" = some (some (.ref f))) (a7:K.lookup f=some ⟨bg,r,.func (Q8 "best_end" "best_end" (qE9 qCK) (qBC qCK) (qAA qCK) .none q bk c1 au (.ref qER) br),as⟩) (a6:X9 K (.ref qER) "best_end" = true) (bz:Q3 K (.ref f)=true)
  (T_plan_to:Tf K "plan_to" qGI ae)
  (T_part_numbers:Tf K "part_numbers" qCQ a5)
  (T_fewest:Tf K "fewest" qIR bu)
  (T_Lbegin:Tf K "_law_begin" qIT bm)
  (T_Ltake:Tf K "_law_take" qM0 b8)
  (T_Lsame:Tf K "_law_same" qM1 b0)
  (T_Lsome_needs:Tf K "_law_some_needs" qDB b3)
  (T_Ltree_net:Tf K "_law_tree_net" qEI b4)
  (T_Lnet:Tf K "_law_net" qR7 ak)
  (T_Lneeded:Tf K "_law_needed" qGN ac)
  (T_Lground:Tf K "_law_ground" qGO ai)
  (T_Lword:Tf K "_law_word" qLZ b5)
  (T_Lbehind:Tf K "_law_behind" qGP ad)
  (T_Lplayed:Tf K "_law_played" qGM bw)
  (T_Ldoes:Tf K "_law_does" qM2 al)
  (T_Lis_move:Tf K "_law_is_move" qFR aj)
  (T_Lcome:Tf K "_law_come" qM3 b1)
  (T_Lown:Tf K "_law_own" qR6 ar)
  (T_Lfirst_rooms:Tf K "_law_first_rooms" qCR av)
  (T_Lplan_right:Tf K "_law_plan_right" qDC a0)
  (T_Lright:Tf K "_law_right" qIS aq)
  (c2:d3 K B24 "law" = some (some (.ref i))) (b2:K.lookup i=some ⟨ba,a3,.func (Q8 "law" "law" (qE9 qKG) (qBC qKG) (qAA qKG) .none k m j o g n),bo⟩) (bx:X9 K g "law" = true) (bd:Q3 K (.ref i)=true)
  (qEL:hdIn K qER qGF=true)
  (qE0:hdIn K qE1 qFJ=true)
  (Z:Zs K ["all","any","bool","dict","divmod","enumerate","int","isinstance","len","list","max","min","range","set","sorted","str","sum","tuple"])
  : ∃fd:B27,(∀(s:Shared) (v:Value),BindsTo s fd ⟨[v],[]⟩ [("_law_script",v)])/\∀base:Heap,K.In base->base.Ns B24 mg->BM mg base->FnOk l.prog w K mg base CX0 7 fa fd ["_law_script"] (qLT K qGF qFJ):=by
 have e:=bs.symm.trans (u9 X G c2);cases e;have a:=fun_mk (st:=qC3) bv a1 a2;have bc:=a.binds (ps:=["net","work"]) λ_ _ _ _ _ _ us z=>us2 us z (λ_ _=>rfl);have a9:=u9 X G ab;have b:=fun_mk (st:=qCK) a7 a6 bz;have bt:=b.binds (ps:=["reached","asked"]) λ_ _ _ _ _ _ us z=>us2 us z (λ_ _=>rfl);have ax:=u9 X G am;have bl:=fun_mk (st:=qKG) b2 bx bd;obtain⟨cw,cb,cy,b6,ca,cr,cx,d4,d9,cz,dc,an,x,ch,aw,c6,cj,cu,_⟩:=Z.mg X G;refine⟨Q8 "law" "law" (qE9 qKG) (qBC qKG) (qAA qKG) .none k m j o g n,λs v=>.of_eq rfl,λbase _ _ hBM=>?_⟩;have B:Bs l.prog w base:=⟨rfl,rfl,rfl⟩;obtain⟨_,di⟩:=T_all_needed.c X G B λ_ F=>by apply ok_all_needed<;>assumption
 obtain⟨_,c9⟩:=T_use_counts.c X G B λ_ F=>by apply ok_use_counts<;>assumption
 obtain⟨_,de⟩:=T_renumbered.c X G B λ_ F=>by apply ok_renumbered<;>assumption
 obtain⟨_,d2⟩:=T_part_net.c X G B λ_ F=>by apply ok_part_net<;>assumption
 obtain⟨_,cq⟩:=T_is_tree.c X G B λ_ F=>by apply ok_is_tree<;>assumption
 obtain⟨_,df⟩:=T_demand_tree.c X G B λ_ F=>by apply ok_demand_tree<;>assumption
 obtain⟨_,d1⟩:=T_number_over.c X G B λ_ F=>by apply ok_number_over<;>assumption
 obtain⟨_,qBS⟩:=T_numbers_of.c X G B λ_ F=>by apply ok_numbers_of<;>assumption
 obtain⟨_,cv⟩:=T_tree_rooms.c X G B λ_ F=>by apply ok_tree_rooms<;>assumption
 have c8:=Clb.mk (ok_tree_plan (P:=l.prog) (w:=w) (mg:=mg) (base:=base) (F:=a) (qBS:=qBS) (qQU:=b6) (qBQ:=aw) (hcd:=rfl) (hBM:=hBM) (qE0:=qE0)) bc a.kp a9;obtain⟨_,cm⟩:=T_fault_of_do.c X G B λ_ F=>by apply ok_fault_of_do<;>assumption
 obtain⟨_,dd⟩:=T_fault_of.c X G B λ_ F=>by apply ok_fault_of<;>assumption
 obtain⟨_,db⟩:=T_stand_behind.c X G B λ_ F=>by apply ok_stand_behind<;>assumption
 obtain⟨_,qEG⟩:=T_has_all.c X G B λ_ F=>by apply ok_has_all<;>assumption
 obtain⟨_,cl⟩:=T_moves_of.c X G B λ_ F=>by apply ok_moves_of<;>assumption
 obtain⟨_,c4⟩:=T_played.c X G B λ_ F=>by apply ok_played<;>assumption
 obtain⟨_,dg⟩:=T_steps_of.c X G B λ_ F=>by apply ok_steps_of<;>assumption
 obtain⟨_,cd⟩:=T_most_of.c X G B λ_ F=>by apply ok_most_of<;>assumption
 obtain⟨_,cp⟩:=T_does.c X G B λ_ F=>by apply ok_does<;>assumption
 obtain⟨_,ct⟩:=T_stands_reached.c X G B λ_ F=>by apply ok_stands_reached<;>assumption
 have ci:=Clb.mk (ok_best_end (P:=l.prog) (w:=w) (mg:=mg) (base:=base) (F:=b) (qEG:=qEG) (qSE:=an) (hcd:=rfl) (hBM:=hBM) (qEL:=qEL)) bt b.kp ax;obtain⟨_,cc⟩:=T_plan_to.c X G B λ_ F=>by apply ok_plan_to<;>assumption
 obtain⟨_,ck⟩:=T_part_numbers.c X G B λ_ F=>by apply ok_part_numbers<;>assumption
 obtain⟨_,ce⟩:=T_fewest.c X G B λ_ F=>by apply ok_fewest<;>assumption
 obtain⟨_,qJ2⟩:=T_Lbegin.c X G B λ_ F=>by apply ok_Lbegin<;>assumption
 obtain⟨_,qBN⟩:=T_Ltake.c X G B λ_ F=>by apply ok_Ltake<;>assumption
 obtain⟨_,d7⟩:=T_Lsame.c X G B λ_ F=>by apply ok_Lsame<;>assumption
 obtain⟨_,co⟩:=T_Lsome_needs.c X G B λ_ F=>by apply ok_Lsome_needs<;>assumption
 obtain⟨_,d5⟩:=T_Ltree_net.c X G B λ_ F=>by apply ok_Ltree_net<;>assumption
 obtain⟨_,d0⟩:=T_Lnet.c X G B λ_ F=>by apply ok_Lnet<;>assumption
 obtain⟨_,cg⟩:=T_Lneeded.c X G B λ_ F=>by apply ok_Lneeded<;>assumption
 obtain⟨_,qHF⟩:=T_Lground.c X G B λ_ F=>by apply ok_Lground<;>assumption
 obtain⟨_,dh⟩:=T_Lword.c X G B λ_ F=>by apply ok_Lword<;>assumption
 obtain⟨_,d8⟩:=T_Lbehind.c X G B λ_ F=>by apply ok_Lbehind<;>assumption
 obtain⟨_,c5⟩:=T_Lplayed.c X G B λ_ F=>by apply ok_Lplayed<;>assumption
 obtain⟨_,d6⟩:=T_Lis_move.c X G B λ_ F=>by apply ok_Lis_move<;>assumption
 obtain⟨_,c7⟩:=T_Ldoes.c X G B λ_ F=>by apply ok_Ldoes<;>assumption
 obtain⟨_,da⟩:=T_Lcome.c X G B λ_ F=>by apply ok_Lcome<;>assumption
 obtain⟨_,cf⟩:=T_Lown.c X G B λ_ F=>by apply ok_Lown<;>assumption
 obtain⟨_,cn⟩:=T_Lfirst_rooms.c X G B λ_ F=>by apply ok_Lfirst_rooms<;>assumption
 obtain⟨_,cs⟩:=T_Lplan_right.c X G B λ_ F=>by apply ok_Lplan_right<;>assumption
 obtain⟨_,qJ1⟩:=T_Lright.c X G B λ_ F=>by apply ok_Lright<;>assumption
 exact ok_law (P:=l.prog) (w:=w) (mg:=mg) (base:=base) (F:=bl) (qJ2:=qJ2) (qBN:=qBN) (qHF:=qHF) (qJ1:=qJ1) (qB4:=x)
noncomputable def tabsL:List LTab:=[⟨"best_end",180,178,"best_end.<locals>.<lambda>"⟩,⟨"tree_plan",115,113,"tree_plan.<locals>.<lambda>"⟩]
theorem walk {l:PySem.W.OpenLaw}{q:B15}{b:List Str}{XP:(Str->Option Value)->Heap->Prop}{YP:World->Heap->Prop}{d:DefRec}{K:Params->PySem.W.Frag}(y:l.most=some 63)(j:d.params.defaults=[])
  (z:∀(w:World) (h:Heap),YP w h->(K w.params).In h)
  (i:∀t∈tabsL,((PyProof.Rows.recsOf q).find? λe=>e.name==t.x).isSome=true) (g:∀(w:World),∀t∈tabsL,B01 (K w.params) t.x=some (t.c,t.P)) (v:∀w:World,A27 (K w.params)=true)
  (F:∀ (w:World) (mg:Str->Option Value) (fa:Addr) (h:Heap),(K w.params).In h->h.Ns B24 mg->mg d.name=some (.ref fa)->
   ∃fd:B27,(∀(s:Shared) (u:Value),BindsTo s fd ⟨[u],[]⟩ [("_law_script",u)])/\∀base:Heap,(K w.params).In base->base.Ns B24 mg->BM mg base->FnOk l.prog w (K w.params) mg base CX0 7 fa fd ["_law_script"] (qLT (K w.params) 178 113)):
  PySem.W.WalkO q b XP YP l.row.toRowW d [] (λf vs=>A92 f vs):=
 L2.walk_ofT (n:=63) (k:=7) (x:="_law_script") (sp:=λw=>qLT (K w.params) 178 113) tabsL y (by decide) j ⟨rfl,by decide,by decide,rfl⟩ z i g v (λt h t' m _=>by simp only[tabsL,B7,L8,or_false] at h m;rcases h with rfl|rfl<;>rcases m with rfl|rfl<;>first|rfl|(rename_i q;exact absurd q (by decide))) F λ_ _ a ns r o p=>⟨o _ C5,o _ (A9 _ C5),a,ns,rfl,p,r,λ_=>rfl⟩
end Fw
open PySem PySem.W PyProof.Rows
set_option maxRecDepth 100000 in
set_option maxHeartbeats 0 in
theorem PySem.Challenge.cw_fewrooms_k91_whole_trees_by_all_stands_holds : PySem.Challenge.rw_fewrooms_k91_whole_trees_by_all_stands.Holds := by
 w_on;refine holds_law Fw.hpSaid λsaid=>?_
 refine holds_open (q:=Fw.hpQ) (Xt:=Fw.hpX) (XP:=XL Fw.hpQ []) (YP:=(kHook Fw.hpK Fw.hpA Fw.hpE).says)
  Fw.hpLeft (kHook Fw.hpK Fw.hpA Fw.hpE).of (kHook Fw.hpK Fw.hpA Fw.hpE).keeps (λs e=>xl_of s (A23.mp e).1) XL.keeps
  (by rfl) (by rfl) (by rfl) (λs e=>recFacts_of (A23.mp e).2) (by rfl)
  (by first|assumption|decide +kernel) (by decide +kernel) ⟨rfl,rfl,rfl,rfl,rfl,by decide +kernel⟩ ?hw ?hc
 case hw=>w_witness2
 k_fill
 refine Fw.walk (l:=PySem.Challenge.rw_fewrooms_k91_whole_trees_by_all_stands) rfl rfl (λw h Y=>PySem.W.kIn_of Y) ?hrec ?htab ?hK ?F
 case hrec=>intro t ht;simp only[Fw.tabsL,B7,L8,or_false] at ht;rcases ht with rfl|rfl<;>kernel_rfl
 case htab=>intro w t ht;simp only[Fw.tabsL,B7,L8,or_false] at ht;rcases ht with rfl|rfl<;>kernel_rfl
 case hK=>intro w;kernel_rfl
 case F=>
  intro w mg fa h KX G hmg;refine' Fw.all_mk (qER:=180) (qGF:=178) (qE1:=115) (qFJ:=113) KX G hmg ?_ ?_ ?_ ?_ ?_ ?_ ?_ ?_ ?_ ?_ ?_ ?_ ?_ ?_ ?_ ?_ ?_ ?_ ?_ ?_ ?_ ?_ ?_ ?_ ?_ ?_ ?_ ?_ ?_ ?_ ?_ ?_ ?_ ?_ ?_ ?_ ?_ ?_ ?_ ?_ ?_ ?_ ?_ ?_ ?_ ?_ ?_ ?_ ?_ ?_ ?_ ?_ ?_ ?_ ?_
  any_goals first|exact⟨by k_is,_,L2.fun_mk (by k_is) (by k_is) (by k_is)⟩|k_is|kernel_rfl
  any_goals (repeat (refine⟨by k_is,?_⟩))
  any_goals exact trivial

