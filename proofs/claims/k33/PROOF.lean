import PyProof.Rows.All
import Wide.All
import OpenK.AllK
import Wide.FinOn
import Lean
import PyProof.EqAt
import PyProof.EqKinds
import PyProof.TupleCall
import PySem.Challenge.RW_fewrooms_k33_papers_of_parts
noncomputable section
open PyProof.Rows renaming wpS_bind→B19,wpS_pure→B21,pendingOf→B22,IntsAre→B25,wpS_forRange→B31,wpS_modify→B34,wpS_mono→B44,SortKind→B47,pairsOf→B51,wpS_get→B63,reverseSlice'_eq→B85
open PySem renaming wpAny_bind→B16,wpAny_pure→B17,sizeLine→B18,Program→B20,bootBuiltins→B23,starEach→B24,wpAny_mono→B26,wpAny_holding→B27,sizeLine_eq→B28,wpAny_newObj_type→B29,mainGlobals→B30,wpAny_call_entry→B32,wpAny_truthy_bool→B33,compareOp→B35,codeAny_builtin→B36,FuncData→B37,cellsFrom→B38,sysModules→B39,wpAny_pyIter_list→B40,wpAny_setState_of→B41,plainId_quiet→B42,binaryOp→B43,Arguments→B45,wpAny_typeNameOfWhole_keyiter→B46,wpAny_tryCatch→B48,wpAny_passesOwn→B49,codeAny→B50,behindInMarks→B52,NameKind→B53,foldedSetIterable→B54,wpAny_pyIter_enum→B55,wpAny_rule→B56,hashInt→B57,relabel→B58,wpAny_setField→B59,codeAny_mono→B60,wpAny_typeNameOf_keyiter→B61,holding→B62,SetTable→B64,intKind→B65,firstArgMember→B66,wpAny_seqItems→B67,pushCells→B68,builtinsNs→B69,assignEach→B70,wpAny_askSetting→B71,wpAny_standAt→B72,sliceBounds→B73,wpAny_of_eq→B74,GenState→B75,bindArgs→B76,wpAny_Call_Name_kw→B77,tupleKind_room_in1→B78,Keyword→B79,call_meets→B80,wpAny_pyNext_list_item→B81,keywordEach→B82,attributeBase→B83,wpAny_attempt→B84,tupleKind→B86,wpAny_pyNext_list_end→B87,builtinLookup_eq_fast→B88,wpAny_execs_nil→B89,letOwnedTupleGo→B90,wpAny_loadPart'→B91,wpAny_ite_false→B92,wpAny_pyIter_keyiter→B93
open Array renaming getElem?_eq_getElem→B9,length_toList→C8,toList_append→E1,getElem?_toList→E5,getD_eq_getD_getElem?→F7,toList_reverse→T4,toList_push→U1,perm_iff_toList_perm→W7,toList_setIfInBounds→m7,getElem_toList→A22,toList→A63,toList_zip→A70,toList_map→A71
open Bool renaming false_ne_true→B1,eq_false_iff→G4,false_eq_true→G9,eq_iff_iff→J4,and_eq_true→L6,or_eq_true→P9,and_false→d0,true_and→j8,false_and→o8,and_eq_true_iff→A27,not_true→A43,not_eq_true'→A62,false_or→A99,and_true→B05
open Classical renaming byContradiction→F0,choose→A74
open Eq renaming symm→B14
open False renaming elim→V2
open ForInStep renaming yield→O1,done→d5
open Int renaming toNat_natCast→B8,le_refl→P6,natCast_nonneg→R5,emod_lt_of_pos→R7,emod_nonneg→V8,fdiv_eq_ediv_of_nonneg→W6,zero_add→Y5,fmod_eq_emod_of_nonneg→m6,le_of_lt→n6,negSucc→A00,natCast_pow→A85
open List renaming length_map→A0,getElem?_eq_getElem→A3,getElem?_eq_some_iff→A4,mem_singleton→A6,mem_append→A8,length_append→A9,mem_of_getElem?→B0,map_append→B3,mem_cons_of_mem→B5,getElem?_map→B6,mem_cons→C0,size_toArray→C1,length_singleton→C2,length_take→C4,take_add_one→C5,take_of_length_le→C7,mem_filter→C9,map_cons→D0,length_cons→D6,mem_map→D8,mem_append_right→E4,mem_cons_self→E7,replicate→E9,getElem?_append_right→F4,range→F6,getElem?_of_mem→F9,mem_range→G1,pairwise_iff_getElem→G2,getElem?_append_left→G6,length_drop→G7,getElem?_eq_none→J1,length_filter_le→J2,all_eq_true→J5,drop_eq_getElem_cons→J6,getElem_of_mem→L5,filter_cons→L8,length_eq_zero_iff→M6,pairwise_append→M7,length_nil→N9,take_length→O3,filterMap_cons→O4,pairwise_map→O5,length_filterMap_le→O6,nodup_cons→O8,pairwise_cons→P0,mem_of_mem_take→P1,getD_eq_getElem?_getD→P3,replicate_succ→P4,append_assoc→P5,lookup_cons_self→P8,getElem?_take_of_lt→Q2,append_nil→Q9,map_congr_left→R1,take_append_drop→R8,filterMap_append→T0,mem_of_mem_drop→T3,take_sublist→T6,find?_cons→T9,drop_sublist→U0,length→U4,any_cons→U5,reverse_append→U8,pairwise_singleton→U9,lookup_cons→V1,getElem?_set_self→V3,length_pos_of_mem→V4,foldl_cons→V7,pairwise_reverse→W2,flatten_cons→W3,length_range→W5,mem_iff_getElem→W8,not_mem_nil→X4,getElem_mem→X5,any_eq_true→X7,mem_map_of_mem→X8,filter_eq_self→X9,map_map→Y3,mem_filterMap→Y6,range_succ→Z0,drop_eq_nil_of_le→Z7,reverse_cons→b7,nodup_append→c8,perm_append_comm→g8,mem_reverse→i8,mem_append_left→j4,getElem?_set_ne→j6,sum_cons→k9,nil_append→l6,length_pos_iff→m5,perm_ext_iff_of_nodup→m8,zip_cons_cons→n0,map_nil→n4,filter_append→o5,map_singleton→o6,drop_drop→p6,drop_zero→p8,mem_of_find?_eq_some→p9,getElem?_zip_eq_some→q9,getElem_take→t7,getElem_drop→t8,reverse_perm→u8,ext_getElem?→u9,filter_congr→w5,take_nil→z8,cons_append→A01,drop_of_length_le→A03,pairwise_lt_range→A05,of_mem_zip→A07,length_replicate→A08,length_set→A09,length_zip→A11,reverse_reverse→A23,getElem_toArray→A25,length_reverse→A32,getElem?_drop→A46,map_drop→A48,map_take→A49,foldl_append→A56,mapM_toArray→A60,flatMap_cons→A61,map_set→A66,drop_length→A73,forIn_cons→A81,find?_some→A84,foldl_nil→A87,drop_take→A88,mapM_cons→A90,foldl→A92,all_cons→A98,findIdx?→B00,take_add→B02,map→B04,drop_nil→B06
open List.Nodup renaming length_le_of_subset→U3
open List.Pairwise renaming nil→b8
open List.Perm renaming append_left→d8
open Nat renaming le_refl→A7,ne_of_lt→D2,lt_of_lt_of_le→D4,zero_le→E8,le_trans→F3,not_lt_zero→G8,pow_le_pow_right→J7,lt_irrefl→O2,eq_of_testBit_eq→P2,lt_succ_of_lt→Q6,le_succ→R0,testBit_two_pow→R3,lt_of_le_of_lt→R6,le_of_lt→U2,le_of_not_lt→V0,ne_of_gt→V5,le_of_succ_le→W4,succ_ne_self→X6,lt_trans→Y2,testBit_and→Z1,lt_trichotomy→c6,testBit_or→d6,lt_pow_two_of_testBit→q5,sub_self→A10,min_eq_left→A13,mod_lt→A16,pow_lt_pow_right→A26,add_sub_cancel→A44,add_assoc→A45,sub_zero→A65
open Ne renaming symm→J3
open Option renaming toList_some→C6,map_some→O9,isSome_iff_exists→Q1,getD_some→X3,isSome_map→b9,isSome_some→A40,getD_none→A68,none→B13
open Option.some renaming inj→D5,injEq→A55
open Or renaming inl→E6,inr→d7
open PyProof renaming noPylong_small→Z2
open PyProof.Rows renaming callWith_type1→K9
open PyProof.Rows.IntsAre renaming int_at→A83
open PySem renaming mem_of_lookup→F1,call→A93
open PySem.Around renaming under_plainId→G3,frames_deeper→A18
open PySem.AutoSeq1 renaming sub_tuple_tuple→t5
open PySem.Builtin renaming bitAnd→M9,bitNot→T1,bitOr→A37
open PySem.Builtin.Builtins renaming bindParams→m4
open PySem.Builtin.Dict renaming updateFrom→z9,pairItems→A04
open PySem.Builtin.Dict_items renaming ownsTuple→k7
open PySem.Builtin.Frozenset renaming updateFrom→A75,newClass→A86,sizeOf→A94,slot0→B01
open PySem.Builtin.List renaming listTooLong→Y1,listLengthHint→l7
open PySem.Builtin.Range renaming rangeSize→Q3,small→A33
open PySem.Builtin.SmallTypes renaming calledThroughType→X1,newRecord→k6,nextOf→o9,ownedTupleFields→A34
open PySem.Builtin.Tuple renaming tupleCompareSizes→a9,tupleExact→u7
open PySem.Calls renaming call_function_entry→X0,callWith_builtin→Z6,evalArgs_plain→A20
open PySem.Data renaming fields→A31,cell→A77
open PySem.F renaming plainAttrs_list→G5,slot_list_append→J8,type_list_append→J9,plain_min_loop→M8,slot_dict_keyiterator_next→O7,slot_tuple_iterator_next→R4,slot_tuple_lt→V6,called_set→V9,args_tuple_add_2→Y0,slot_list_getattribute→Y4,args_tuple_lt_2→Y7,entry_tuple_add→Y8,entry_tuple_lt→Z4,slot_tuple_add→Z5,entry_min_loop→Z8,args_dict_keyiterator_next_1→i0,entry_dict_keyiterator_next→i9,args_tuple_iterator_next_1→k5,entry_tuple_iterator_next→l9,plainAttrs_tuple→w6,slot_tuple_index→y4,type_tuple_index→y7,plain_list_iadd→y9,args_object_init_2→A21,called_tuple→A29,plain_tuple_new→A58,slot_dict_iter→A69
open PySem.Heap renaming get?_push_of_some→A5,get?_push_size→B4,lt_size→B7,get?_update_other→F5,get?_update_self→L4,size_push→L7,get?_push_ne→A59,size_update→A72
open PySem.Heap.DictOf renaming new→A80
open PySem.Heap.IsSliceOf renaming new→B15
open PySem.Heap.SameBut renaming update→U7
open PySem.IsRange renaming new→B12
open PySem.NameKind renaming free→G0,cell→j7
open PySem.Obj renaming data_mapFields→R9,mapSeq→T8,isFreed_of_fields→d9,mapFields→j9,cls_mapFields→t9
open PySem.Paired renaming length→C3,snoc→U6
open PySem.PassesOwn renaming never→D9
open PySem.SeqAt.EqAt renaming int_int→m9,int_str→A35,str_int→A36,same→A79
open PySem.SeqAt.RcNeAt renaming lists_lengths→A50,lists→A95
open PySem.SetTable renaming below→E2,insertAt→F2,bits→Y9,fits→A41,fill→A42,runEnd→A82,has→B09
open PySem.SetTable.below renaming go→c5
open PySem.SetTable.probe renaming go→Q7
open PySem.Str renaming ofString→D3,empty→O0
open PySem.Value renaming ref→D7,none→Q0,int→Q8,type→a8,isInt→y8,bool→A15,notImplemented→A19,isInt_shape→A51,str→A76,isStrOf→A97
open PySem.W renaming kia_one→L0,findIn→P7,keepIn→Q4,fnOf→Q5,kitOne→W9,kla_fn→X2,cellsFrom_some→Z3,codeIn→c9,kdu_collect→l8,nsIn→n8,methodObj→r8,specialIn→t0,instObj→A06,kat_nil→A12,kas_first_eq→A24,lookIn→A28,noTabs→A30,mroIn→A38,kitx_tuple→A39,mg_of→A47,hasDictIn→A52,kitx_list→A53,kitx_dict→A54,plainGet→A67,takesIn→A78,tabObj→A89,kHook→A96,tabIn→B03,isFn→B08
open PySem.W.Looks renaming here→n9,ld→A02
open PySem.W.OpenLaw renaming wellSaid→A91,row→B10
open PySem.W.OpenRow renaming toRowW→B07
open PySem.Walks renaming list→A57
open PySem.pickOrder renaming go→A64
open Std.Legacy.Range renaming size→A14,forIn_eq_forIn_range'→A17
open Sum renaming inl→E3,inr→L9
open Sum.inl renaming inj→Z9
open Sum.inr renaming inj→B11
open True renaming intro→T5
set_option Elab.async false
set_option linter.all false
set_option maxRecDepth 100000
set_option maxHeartbeats 0
namespace Fw
open PySem
noncomputable def top (i:Nat):Stmt:=PySem.Challenge.pw_fewrooms_k33_papers_of_parts.main.body.getD i (.Pass ⟨0,0,0,0⟩)
abbrev qEH:Stmt:=top 1
abbrev qFW:Stmt:=top 2
abbrev qEG:Stmt:=top 3
abbrev qGP:Stmt:=top 4
abbrev qFV:Stmt:=top 5
noncomputable abbrev qD2:Stmt:=top 7
noncomputable abbrev qFX:Stmt:=top 8
noncomputable abbrev qCJ:Stmt:=top 9
noncomputable abbrev qGQ:Stmt:=top 10
noncomputable abbrev qFU:Stmt:=top 11
noncomputable abbrev qDP:Stmt:=top 13
noncomputable abbrev qDN:Stmt:=top 14
noncomputable abbrev qFT:Stmt:=top 15
abbrev qDO:Stmt:=top 17
abbrev qCA:Stmt:=top 18
abbrev qD0:Stmt:=top 19
noncomputable abbrev qAG:Stmt:=top 21
noncomputable abbrev qCG:Stmt:=top 22
noncomputable abbrev qGO:Stmt:=top 23
noncomputable abbrev qCK:Stmt:=top 25
noncomputable abbrev qIM:Stmt:=top 26
noncomputable abbrev qD1:Stmt:=top 27
noncomputable abbrev qIO:Stmt:=top 29
noncomputable abbrev qLM:Stmt:=top 30
noncomputable abbrev qD3:Stmt:=top 32
noncomputable abbrev qEI:Stmt:=top 33
noncomputable abbrev qQ9:Stmt:=top 34
noncomputable abbrev qIP:Stmt:=top 35
abbrev qGR:Stmt:=top 36
noncomputable abbrev qLO:Stmt:=top 37
noncomputable abbrev qLN:Stmt:=top 38
noncomputable abbrev qLP:Stmt:=top 39
abbrev qQA:Stmt:=top 40
abbrev qIN:Stmt:=top 41
abbrev qDQ:Stmt:=top 42
abbrev qDR:Stmt:=top 43
noncomputable abbrev qK6:Stmt:=top 44
noncomputable def dA (s:Stmt):B45:=match s with
 |.FunctionDef _ a _ _ _ _ _ _ _ _=>a
 |_=>{posonlyargs:=[],args:=[],vararg:=none,kwonlyargs:=[],kw_defaults:=[],kwarg:=none,defaults:=[]}
noncomputable def dB (s:Stmt):List Stmt:=match s with
 |.FunctionDef _ _ b _ _ _ _ _ _ _=>b
 |_=>[]
noncomputable def dS (s:Stmt):Scope:=match s with
 |.FunctionDef _ _ _ _ _ _ sc _ _ _=>sc
 |_=>{kind:=.function,names:=[],isGenerator:=false,isCoroutine:=false}
noncomputable abbrev so (s:String):Str:=PySem.Str.ofString s
noncomputable abbrev kh (P:Params)(s:Str):Int:=PySem.PyData.keyHash P s
noncomputable abbrev hde (P:Params)(s:String)(n:Nat)(v:Value):DictEntry:=⟨kh P (so s),.str (so s) n,v⟩
noncomputable abbrev hvs (s:String)(n:Nat):Value:=.str (so s) n
noncomputable abbrev hcut (n:Nat):Value:=hvs "/claim/cut.py" n
noncomputable abbrev hfd (x q:String)(s:Stmt)(a b c d:Value)(e:Option Addr)(f g:Value)(i:Addr):B37:=⟨so x,so q,dA s,.stmts (dB s),dS s,3,[],a,b,c,d,e,f,g,i⟩
noncomputable abbrev htp (d:Data) (s:Array (Option Value)):Obj:=⟨.type "tuple",none,d,s⟩
noncomputable abbrev hcd (d:Data) (s:Array (Option Value)):Obj:=⟨.type "code",none,d,s⟩
noncomputable abbrev hfn (d:Data) (s:Array (Option Value)):Obj:=⟨.type "function",none,d,s⟩
noncomputable abbrev ht0:Obj:=htp (.seq #[]) #[]
noncomputable def hvl:List String->Nat->List Value
 |[],_=>[]
 |x::r,n=>hvs x n::hvl r (n+1)
noncomputable abbrev hts (l:List String)(n:Nat):Obj:=htp (.seq (hvl l n).toArray) #[]
noncomputable abbrev hco (x:String)(t:Nat)(ln ac fl:Int)(b:Nat)(md e:Int)(n:Nat):Obj:=hcd (.fields #[hvs x t,hvs x (t+1),hcut (t+2),.int ln 0,.int ac 0,.int 0 0,.int 0 0,.int fl 0,.ref b,.bool .true,.int md 0,.ref (b+1),.none,.ref (b+2),.ref (b+3),.ref (b+4),.int e 0,.int ln 0,hcut n]) #[]
noncomputable abbrev hcp (x:String)(t:Nat)(ln ac:Int)(b:Nat)(md e:Int):Obj:=hcd (.fields #[hvs x t,hvs x (t+1),hcut (t+2),.int ln 0,.int ac 0,.int 0 0,.int 0 0,.int 3 0,.ref b,.bool .true,.int md 0,.ref (b+1),.none,.none,.none,.ref (b+2),.int e 0,.int ln 0,hcut (t+4)]) #[]
noncomputable abbrev hfo (x:String)(s:Stmt)(m:String)(t c:Nat):Obj:=hfn (.func (hfd x x s .none .none .none (hvs m t) .none (.ref c) .none 0)) #[]
noncomputable def hpK:Params->PySem.W.Frag:=λP=>
 (nat_lit 2,Obj.mk .none .none (.dict #[]) #[])::
 (nat_lit 3,Obj.mk (.type "dict") .none (.dict #[hde P "__name__" 165 (hvs "law_fewrooms_k33_papers_of_parts" 381),hde P "__doc__" 166 .none,hde P "__package__" 167 .none,hde P "__loader__" 168 (.builtin "__main__.__loader__#opaque"),hde P "__spec__" 169 .none,hde P "__annotations__" 170 (.ref 6),hde P "__builtins__" 171 (.ref 4),hde P "__file__" 173 (hcut 172),hde P "__cached__" 174 .none,hde P "is_number" 195 (.ref 21),hde P "is_below" 203 (.ref 28),hde P "is_rising" 213 (.ref 35),hde P "is_pair" 220 (.ref 42),hde P "is_stand" 229 (.ref 49),hde P "fault_of_do" 244 (.ref 56),hde P "fault_of" 254 (.ref 63),hde P "stand_behind" 260 (.ref 68),hde P "has_all" 266 (.ref 73),hde P "moves_of" 272 (.ref 78),hde P "all_needed" 285 (.ref 85),hde P "renumbered" 291 (.ref 90),hde P "part_net" 297 (.ref 95),hde P "are_closed" 311 (.ref 102),hde P "never_come_to" 317 (.ref 107),hde P "shows_never" 323 (.ref 112),hde P "stands_reached" 340 (.ref 119),hde P "best_end" 346 (.ref 124),hde P "plan_to" 355 (.ref 131),hde P "part_numbers" 363 (.ref 136),hde P "fewest" 369 (.ref 141),hde P "never_paper" 380 (.ref 148),hde P "_law_begin" 390 (.ref 155),hde P "_law_take" 403 (.ref 162),hde P "_law_same" 409 (.ref 167),hde P "_law_some_needs" 420 (.ref 174),hde P "_law_tree_net" 432 (.ref 181),hde P "_law_net" 438 (.ref 186),hde P "_law_asked" 448 (.ref 193),hde P "_law_needed" 454 (.ref 198),hde P "_law_come" 460 (.ref 203),hde P "_law_part" 466 (.ref 208),hde P "_law_bits" 472 (.ref 213),hde P "_law_few" 479 (.ref 220),hde P "_law_works" 485 (.ref 225),hde P "_law_stands_of" 491 (.ref 230),hde P "_law_one_right" 497 (.ref 235),hde P "law" 503 (.ref 240)] 47) #[])::
 (nat_lit 15,ht0)::
 (nat_lit 17,hts ["thing"] 192)::
 (nat_lit 18,ht0)::
 (nat_lit 20,hco "is_number" 189 2 1 3 15 181 193 194)::
 (nat_lit 21,hfo "is_number" qEH "fewrooms.kinds" 187 20)::
 (nat_lit 22,ht0)::
 (nat_lit 24,hts ["thing","end"] 199)::
 (nat_lit 25,ht0)::
 (nat_lit 27,hco "is_below" 196 4 2 3 22 181 201 202)::
 (nat_lit 28,hfo "is_below" qFW "fewrooms.kinds" 187 27)::
 (nat_lit 29,ht0)::
 (nat_lit 31,hts ["thing","end","least","number"] 207)::
 (nat_lit 32,ht0)::
 (nat_lit 34,hco "is_rising" 204 6 2 3 29 181 211 212)::
 (nat_lit 35,hfo "is_rising" qEG "fewrooms.kinds" 187 34)::
 (nat_lit 36,ht0)::
 (nat_lit 38,hts ["thing"] 217)::
 (nat_lit 39,ht0)::
 (nat_lit 41,hco "is_pair" 214 15 1 3 36 181 218 219)::
 (nat_lit 42,hfo "is_pair" qGP "fewrooms.kinds" 187 41)::
 (nat_lit 43,ht0)::
 (nat_lit 45,hts ["net","rooms","thing"] 224)::
 (nat_lit 46,ht0)::
 (nat_lit 48,hco "is_stand" 221 17 3 3 43 181 227 228)::
 (nat_lit 49,hfo "is_stand" qFV "fewrooms.kinds" 187 48)::
 (nat_lit 50,ht0)::
 (nat_lit 52,hts ["net","rooms","stand","work","there","result","need"] 235)::
 (nat_lit 53,ht0)::
 (nat_lit 55,hco "fault_of_do" 232 20 4 3 50 181 242 243)::
 (nat_lit 56,hfo "fault_of_do" qD2 "fewrooms.moves" 230 55)::
 (nat_lit 57,ht0)::
 (nat_lit 59,hts ["net","rooms","stand","move"] 248)::
 (nat_lit 60,ht0)::
 (nat_lit 62,hco "fault_of" 245 32 4 3 57 181 252 253)::
 (nat_lit 63,hfo "fault_of" qFX "fewrooms.moves" 230 62)::
 (nat_lit 64,ht0)::
 (nat_lit 67,hcp "stand_behind" 255 38 2 64 181 258)::
 (nat_lit 68,hfo "stand_behind" qCJ "fewrooms.moves" 230 67)::
 (nat_lit 69,ht0)::
 (nat_lit 72,hcp "has_all" 261 42 2 69 181 264)::
 (nat_lit 73,hfo "has_all" qGQ "fewrooms.moves" 230 72)::
 (nat_lit 74,ht0)::
 (nat_lit 77,hcp "moves_of" 267 44 3 74 181 270)::
 (nat_lit 78,hfo "moves_of" qFU "fewrooms.moves" 230 77)::
 (nat_lit 79,ht0)::
 (nat_lit 81,hts ["net","asked","wanted","work","need"] 278)::
 (nat_lit 82,ht0)::
 (nat_lit 84,hco "all_needed" 275 49 2 3 79 181 283 284)::
 (nat_lit 85,hfo "all_needed" qDP "fewrooms.nets" 273 84)::
 (nat_lit 86,ht0)::
 (nat_lit 89,hcp "renumbered" 286 58 2 86 181 289)::
 (nat_lit 90,hfo "renumbered" qDN "fewrooms.nets" 273 89)::
 (nat_lit 91,ht0)::
 (nat_lit 94,hcp "part_net" 292 60 2 91 181 295)::
 (nat_lit 95,hfo "part_net" qFT "fewrooms.nets" 273 94)::
 (nat_lit 96,ht0)::
 (nat_lit 98,hts ["net","rooms","stands","known","stand","move"] 303)::
 (nat_lit 99,ht0)::
 (nat_lit 101,hco "are_closed" 300 66 3 3 96 181 309 310)::
 (nat_lit 102,hfo "are_closed" qDO "fewrooms.nevercheck" 298 101)::
 (nat_lit 103,ht0)::
 (nat_lit 106,hcp "never_come_to" 312 75 4 103 181 315)::
 (nat_lit 107,hfo "never_come_to" qCA "fewrooms.nevercheck" 298 106)::
 (nat_lit 108,ht0)::
 (nat_lit 111,hcp "shows_never" 318 81 4 108 181 321)::
 (nat_lit 112,hfo "shows_never" qD0 "fewrooms.nevercheck" 298 111)::
 (nat_lit 113,ht0)::
 (nat_lit 115,hts ["net","rooms","reached","due","later","stand","move","further","steps"] 329)::
 (nat_lit 116,ht0)::
 (nat_lit 118,hco "stands_reached" 326 88 2 3 113 181 338 339)::
 (nat_lit 119,hfo "stands_reached" qAG "fewrooms.stairs" 324 118)::
 (nat_lit 120,ht0)::
 (nat_lit 123,hcp "best_end" 341 102 2 120 181 344)::
 (nat_lit 124,hfo "best_end" qCG "fewrooms.stairs" 324 123)::
 (nat_lit 125,ht0)::
 (nat_lit 127,hts ["reached","stand","plan"] 350)::
 (nat_lit 128,ht0)::
 (nat_lit 130,hco "plan_to" 347 105 2 3 125 181 353 354)::
 (nat_lit 131,hfo "plan_to" qGO "fewrooms.stairs" 324 130)::
 (nat_lit 132,ht0)::
 (nat_lit 135,hcp "part_numbers" 358 113 2 132 181 361)::
 (nat_lit 136,hfo "part_numbers" qCK "fewrooms.trying" 356 135)::
 (nat_lit 137,ht0)::
 (nat_lit 140,hcp "fewest" 364 115 2 137 181 367)::
 (nat_lit 141,hfo "fewest" qIM "fewrooms.trying" 356 140)::
 (nat_lit 142,ht0)::
 (nat_lit 144,hts ["net","asked","rooms","works","reached"] 373)::
 (nat_lit 145,ht0)::
 (nat_lit 147,hco "never_paper" 370 126 3 3 142 181 378 379)::
 (nat_lit 148,hfo "never_paper" qD1 "fewrooms.trying" 356 147)::
 (nat_lit 149,ht0)::
 (nat_lit 151,hts ["_law_script","_law_cells"] 386)::
 (nat_lit 152,ht0)::
 (nat_lit 154,hco "_law_begin" 383 133 1 3 149 181 388 389)::
 (nat_lit 155,hfo "_law_begin" qIO "law_fewrooms_k33_papers_of_parts" 381 154)::
 (nat_lit 156,ht0)::
 (nat_lit 158,hts ["_law_state","_law_many","_law_turn","_law_place","_law_cell","_law_digit","_law_mixed"] 394)::
 (nat_lit 159,ht0)::
 (nat_lit 161,hco "_law_take" 391 138 2 3 156 181 401 402)::
 (nat_lit 162,hfo "_law_take" qLM "law_fewrooms_k33_papers_of_parts" 381 161)::
 (nat_lit 168,ht0)::
 (nat_lit 170,hts ["_law_state","_law_k","_law_found","_law_turn","_law_far"] 413)::
 (nat_lit 171,ht0)::
 (nat_lit 173,hco "_law_some_needs" 410 161 2 3 168 181 418 419)::
 (nat_lit 174,hfo "_law_some_needs" qD3 "law_fewrooms_k33_papers_of_parts" 381 173)::
 (nat_lit 175,ht0)::
 (nat_lit 177,hts ["_law_state","_law_many","_law_open_ones","_law_found","_law_k","_law_so_many"] 424)::
 (nat_lit 178,ht0)::
 (nat_lit 180,hco "_law_tree_net" 421 168 2 3 175 181 430 431)::
 (nat_lit 181,hfo "_law_tree_net" qEI "law_fewrooms_k33_papers_of_parts" 381 180)::
 (nat_lit 182,ht0)::
 (nat_lit 185,hcp "_law_net" 433 176 2 182 181 436)::
 (nat_lit 186,hfo "_law_net" qQ9 "law_fewrooms_k33_papers_of_parts" 381 185)::
 (nat_lit 187,ht0)::
 (nat_lit 189,hts ["_law_state","_law_net_here","_law_found","_law_turn"] 442)::
 (nat_lit 190,ht0)::
 (nat_lit 192,hco "_law_asked" 439 191 2 3 187 181 446 447)::
 (nat_lit 193,hfo "_law_asked" qIP "law_fewrooms_k33_papers_of_parts" 381 192)::
 (nat_lit 194,ht0)::
 (nat_lit 197,hcp "_law_needed" 449 196 2 194 181 452)::
 (nat_lit 198,hfo "_law_needed" qGR "law_fewrooms_k33_papers_of_parts" 381 197)::
 (nat_lit 199,ht0)::
 (nat_lit 202,hcp "_law_come" 455 205 2 199 181 458)::
 (nat_lit 203,hfo "_law_come" qLO "law_fewrooms_k33_papers_of_parts" 381 202)::
 (nat_lit 204,ht0)::
 (nat_lit 207,hcp "_law_part" 461 230 2 204 181 464)::
 (nat_lit 208,hfo "_law_part" qLN "law_fewrooms_k33_papers_of_parts" 381 207)::
 (nat_lit 209,ht0)::
 (nat_lit 212,hcp "_law_bits" 467 233 1 209 181 470)::
 (nat_lit 213,hfo "_law_bits" qLP "law_fewrooms_k33_papers_of_parts" 381 212)::
 (nat_lit 214,ht0)::
 (nat_lit 216,hts ["_law_state"] 476)::
 (nat_lit 217,ht0)::
 (nat_lit 219,hco "_law_few" 473 235 1 3 214 181 477 478)::
 (nat_lit 220,hfo "_law_few" qQA "law_fewrooms_k33_papers_of_parts" 381 219)::
 (nat_lit 221,ht0)::
 (nat_lit 224,hcp "_law_works" 480 237 3 221 181 483)::
 (nat_lit 225,hfo "_law_works" qIN "law_fewrooms_k33_papers_of_parts" 381 224)::
 (nat_lit 226,ht0)::
 (nat_lit 229,hcp "_law_stands_of" 486 245 3 226 181 489)::
 (nat_lit 230,hfo "_law_stands_of" qDQ "law_fewrooms_k33_papers_of_parts" 381 229)::
 (nat_lit 231,ht0)::
 (nat_lit 234,hcp "_law_one_right" 492 251 4 231 181 495)::
 (nat_lit 235,hfo "_law_one_right" qDR "law_fewrooms_k33_papers_of_parts" 381 234)::
 (nat_lit 236,ht0)::
 (nat_lit 239,hcp "law" 498 261 1 236 181 501)::
 (nat_lit 240,hfo "law" qK6 "law_fewrooms_k33_papers_of_parts" 381 239)::
 []
noncomputable def hpA:List Addr:=[2,3,15,17,18,20,21,22,24,25,27,28,29,31,32,34,35,36,38,39,41,42,43,45,46,48,49,50,52,53,55,56,57,59,60,62,63,64,67,68,69,72,73,74,77,78,79,81,82,84,85,86,89,90,91,94,95,96,98,99,101,102,103,106,107,108,111,112,113,115,116,118,119,120,123,124,125,127,128,130,131,132,135,136,137,140,141,142,144,145,147,148,149,151,152,154,155,156,158,159,161,162,168,170,171,173,174,175,177,178,180,181,182,185,186,187,189,190,192,193,194,197,198,199,202,203,204,207,208,209,212,213,214,216,217,219,220,221,224,225,226,229,230,231,234,235,236,239,240]
noncomputable def hpQ:B20:=PySem.W.view PySem.Challenge.pw_fewrooms_k33_papers_of_parts [1,2,3,4,5,7,8,9,10,11,13,14,15,17,18,19,21,22,23,25,26,27,29,30,31,32,33,34,35,36,37,38,39,40,41,42,43,44]
def hpN:Nat:=2450
theorem hpE (P:Params):hpA=(hpK P).map (·.1):=by kernel_rfl
noncomputable def hpX (s:Shared):Bool:=PySem.W.xlAt hpQ [] s&&PySem.W.recOk (PySem.W.RowW.records (B07 (B10 PySem.Challenge.rw_fewrooms_k33_papers_of_parts))) s
theorem hpLeft:PySem.W.LeftO PySem.Challenge.pw_fewrooms_k33_papers_of_parts hpQ [] hpX (A96 hpK hpA hpE).obs (A96 hpK hpA hpE).val hpN:=λw=>by kernel_rfl
theorem hpSaid:A91 PySem.Challenge.rw_fewrooms_k33_papers_of_parts=true:=by kernel_rfl
end Fw
namespace L2
open PySem PySem.Spec PyProof.Rows
abbrev Key:=Sum Int Str
noncomputable def qNH:Key->Value->Bool
 |.inl k,v=>y8 k v
 |.inr x,v=>A97 x v
noncomputable def keyH (w:World):Key->Int
 |.inl k=>B57 k
 |.inr x=>hashStr w x
theorem qBG:∀{k:Key} {v:Value},qNH k v=true->(∃i t,k=E3 i/\v=Q8 i t)\/(∃x t,k=L9 x/\v=A76 x t)
 |.inl i,v,h=>by
  obtain⟨t,e⟩:=A51 (k:=i) (v:=v) h;exact .inl ⟨i,t,rfl,e⟩
 |.inr x,v,h=>by
  obtain⟨t,e⟩:=Value.isStrOf_shape (x:=x) (v:=v) h;exact .inr ⟨x,t,rfl,e⟩
theorem qNG (i:Int)(t:Tok):qNH (.inl i) (.int i t)=true:=by simp[qNH,y8]
theorem qUF (x:Str)(t:Tok):qNH (.inr x) (.str x t)=true:=by simp[qNH,A97]
theorem qbY (a b:Int):decide ((E3 a:Key)=E3 b)=(a==b):=by
 by_cases e:a=b
 ·subst e;simp
 ·have h:¬(E3 a:Key)=E3 b:=λq=>e (Z9 q);rw[decide_eq_false h];exact(beq_eq_false_iff_ne.mpr e).symm
theorem qbV (a b:Str):decide ((L9 a:Key)=L9 b)=decide (a=b):=by
 by_cases e:a=b
 ·subst e;simp
 ·have h:¬(L9 a:Key)=L9 b:=λq=>e (B11 q);rw[decide_eq_false h,decide_eq_false e]
theorem qbX (a:Int)(b:Str):decide ((E3 a:Key)=L9 b)=false:=decide_eq_false (λq=>nomatch q)
theorem qbW (a:Str)(b:Int):decide ((L9 a:Key)=E3 b)=false:=decide_eq_false (λq=>nomatch q)
noncomputable def qB3 (prog:B20)(w:World):PySem.KeyKind prog w Key where
 is:=qNH
 hash:=keyH w
 inj:=λv a b g d=>by
  rcases qBG g with⟨i,t,rfl,rfl⟩|⟨x,t,rfl,rfl⟩
  ·rcases qBG d with⟨j,u,rfl,e⟩|⟨y,u,rfl,e⟩
   ·injection e with e1 _;rw[e1]
   ·exact nomatch e
  ·rcases qBG d with⟨j,u,rfl,e⟩|⟨y,u,rfl,e⟩
   ·exact nomatch e
   ·injection e with e1 _;rw[e1]
 byValue:=λk v h=>by
  rcases qBG h with⟨i,t,rfl,rfl⟩|⟨x,t,rfl,rfl⟩<;>rfl
 pyHash:=λc h=>by
  rcases qBG c with⟨i,t,rfl,rfl⟩|⟨x,t,rfl,rfl⟩
  ·exact wpAny_pyHash_int h
  ·exact wpAny_pyHash_str h
 eqBool:=λf c h=>by
  rcases qBG f with⟨i,t,rfl,rfl⟩|⟨x,t,rfl,rfl⟩
  ·rcases qBG c with⟨j,u,rfl,rfl⟩|⟨y,u,rfl,rfl⟩
   ·rw[qbY] at h;exact wpAny_eqBool_int h
   ·rw[qbX] at h;exact A35 i t y u _ _ _ _ h
  ·rcases qBG c with⟨j,u,rfl,rfl⟩|⟨y,u,rfl,rfl⟩
   ·rw[qbW] at h;exact A36 x t j u _ _ _ _ h
   ·rw[qbV] at h;exact wpAny_eqBool_str h
 «strs»:=λk x t v h=>by
  rcases qBG h with⟨i,u,rfl,e⟩|⟨y,u,rfl,e⟩
  ·exact nomatch e
  ·injection e with e1 _
   subst e1;cases v<;>rfl
theorem qRZ (prog:B20)(w:World)(k:Key)(v:Value):(qB3 prog w).is k v=qNH k v:=rfl
theorem qP7 (prog:B20)(w:World)(i:Int)(t:Tok):(qB3 prog w).is (.inl i) (.int i t)=true:=qNG i t
theorem qP6 (prog:B20)(w:World)(x:Str)(t:Tok):(qB3 prog w).is (.inr x) (.str x t)=true:=qUF x t
inductive V where
 |non|bl (b:Bool)|int (i:Int)|str (x:Str)|byt (b:Array UInt8)|flt (b:UInt64)|ref (a:Addr)|ty (n:String)
 deriving DecidableEq
def RelV:V->Value->Prop
 |.non,u=>u=Q0
 |.bl b,u=>u=A15 b
 |.int i,u=>∃t,u=Q8 i t
 |.str x,u=>∃t,u=A76 x t
 |.byt b,u=>∃t,u=Value.bytes b t
 |.flt b,u=>∃t,u=Value.float b t
 |.ref a,u=>u=D7 a
 |.ty n,u=>u=a8 n
abbrev Vals:List V->List Value->Prop:=Paired RelV
theorem Vals.length {xs:List V}{a:List Value}(r:Vals xs a):xs.length=a.length:=C3 r
theorem Vals.get:∀{xs:List V} {us:List Value} {i:Nat} {x:V},Vals xs us->xs[i]?=some x->∃u,us[i]?=some u/\RelV x u
 |_,_,_,_,.nil,e=>by simp at e
 |_,_,0,_,.cons r _,e=>by simp at e;subst e;exact⟨_,rfl,r⟩
 |_,_,i+1,x,.cons _ t,e=>by
  obtain⟨u,h1,h2⟩:=Vals.get (i:=i) (x:=x) t (by simpa using e)
  exact⟨u,by simpa using h1,h2⟩
theorem Vals.set {x:V}{u:Value}(r:RelV x u):∀{xs:List V} {us:List Value} (i:Nat),Vals xs us->Vals (xs.set i x) (us.set i u)
 |_,_,_,.nil=>.nil
 |_,_,0,.cons _ t=>.cons r t
 |_,_,i+1,.cons q t=>.cons q (Vals.set r i t)
theorem Vals.append:∀{xs ys:List V} {us ws:List Value},Vals xs us->Vals ys ws->Vals (xs++ys) (us++ws)
 |_,_,_,_,.nil,s=>s
 |_,_,_,_,.cons r t,s=>.cons r (Vals.append t s)
theorem Vals.take:∀{xs:List V} {us:List Value} (n:Nat),Vals xs us->Vals (xs.take n) (us.take n)
 |_,_,0,_=>.nil
 |_,_,_+1,.nil=>.nil
 |_,_,n+1,.cons r t=>.cons r (Vals.take n t)
theorem Vals.drop:∀{xs:List V} {us:List Value} (n:Nat),Vals xs us->Vals (xs.drop n) (us.drop n)
 |_,_,0,r=>r
 |_,_,_+1,.nil=>.nil
 |_,_,n+1,.cons _ t=>Vals.drop n t
def RelO:Option V->Option Value->Prop
 |some v,some u=>RelV v u
 |none,none=>True
 |_,_=>False
def KV {κ:Type}:List (κ×V)->List (κ×Value)->Prop:=Paired λ(p:κ×V) (q:κ×Value)=>p.1=q.1/\RelV p.2 q.2
inductive CTb where
 |tab (q:Str)
 |cod (q:Str)
noncomputable def kV:Key->V
 |.inl i=>.int i
 |.inr x=>.str x
inductive HO where
 |lst (xs:List V)
 |tup (xs:List V)
 |dK (Af:List (Key×V))|dT (Af:List (List Key×V))
 |set (S:Int->Bool) (n:Nat)
 |ins (C dx:Addr) (fs:List (Str×V))
 |own (x:Addr)
 |xd (fs:List (Str×V))
 |met (f x:Addr)
 |rng (lo hi:Int)
 |frz (o:Obj) (u:HO)
 |tbl (t:CTb)
 |ext (φ:Heap->Prop)
abbrev Hp:=Addr->Option HO
noncomputable def Ag (H:Hp)(a:Addr)(o:HO):Hp:=λb=>if b=a then some o else H b
theorem qA1 {H:Hp}{a:Addr}{o:HO}:Ag H a o a=some o:=by unfold Ag;rw[if_pos rfl]
theorem qAA {H:Hp}{a b:Addr}{o:HO}(h:b≠a):Ag H a o b=H b:=by unfold Ag;rw[if_neg h]
theorem qIY {H:Hp}{a:Addr}{o u:HO}:Ag (Ag H a o) a u=Ag H a u:=by
 funext b;unfold Ag;split<;>rfl
theorem qCB {H:Hp}{a b:Addr}{o u:HO}(h:H a=some o)(h':H b=some u)(d:o≠u):a≠b:=by
 intro e;subst e;rw[h] at h';exact d (D5 h')
theorem qA5 {H:Hp}{a b:Addr}{o:HO}(h:H a=some o)(h':H b=none):a≠b:=by
 intro e;subst e;rw[h] at h';cases h'
section
variable(P:B20)(w:World)
def ObjOk (H:Hp)(h:Heap)(a:Addr):HO->Prop
 |.lst xs=>xs.length<=B18/\∃(its:List Value) (n:Nat),Vals xs its/\h.get? a=some {cls:=.type "list",data:=.seq its.toArray n}
 |.tup xs=>xs.length<=B18/\∃its:List Value,Vals xs its/\IsTup h a its.toArray
 |.dK Af=>Af.length<=B18/\(a==B39)=false/\∃vs,KV Af vs/\h.DictOf (qB3 P w) a vs
 |.dT Af=>Af.length<=B18/\(a==B39)=false/\∃xs:List (List Key×Addr×Value),
   Paired (λ(p:List Key×V) (q:List Key×Addr×Value)=>p.1=q.1/\H q.2.1=some (.tup (p.1.map kV))/\RelV p.2 q.2.2) Af xs/\
   ∃o es ep,h.get? a=some o/\o.ExactDict/\o.data=.dict es ep/\es.toList=xs.map (entryOfKey (B86 (qB3 P w)))/\(xs.map (·.1)).Nodup
 |.set S n=>h.SetOf (B65 P w) a S n
 |.ins C dx fs=>H dx=some (.own a)/\fs.length<=1000/\dx≠a/\h.get? a=some (A06 C dx)/\
   ∃mA,h.Ns1 dx mA/\(∀f,RelO (fs.lookup f) (mA f))/\PySem.Within mA (fs.map (·.1))
 |.own _=>∃o,h.get? a=some o
 |.xd fs=>∃mA,h.Ns1 a mA/\∀f,RelO (fs.lookup f) (mA f)
 |.rng lo hi=>∃t u v,h.get? a=some {cls:=.type "range",data:=.fields #[.int lo t,.int hi u,.int 1 v]}
 |.frz o u=>h.get? a=some o/\ObjOk H h a u
 |.tbl (.tab q)=>∃more:Array Value,h.get? a=some {cls:=.none,data:=.fields more}/\TriplesOk more.toList/\∀pos cv,codeAmong pos more.toList=some cv->∃c,cv=.ref c/\H c=some (.tbl (.cod q))
 |.tbl (.cod q)=>h.CodeRec (.ref a) q
 |.met f x=>h.get? a=some (r8 (.ref f) (.ref x))
 |.ext φ=>φ h/\(∃o,h.get? a=some o)/\∀h1 h2:Heap,φ h1->(∀o,h1.get? a=some o->h2.get? a=some o)->φ h2
def HOk (H:Hp)(h:Heap):Prop:=∀a o,H a=some o->ObjOk P w H h a o
end
section
variable{P:B20}{w:World}{H H':Hp}{h h':Heap}{a:Addr}{o:HO}
theorem ObjOk.lt (x:ObjOk P w H h a o):a<h.objs.size:=by
 cases o with
 |lst xs=>obtain⟨_,_,_,_,e⟩:=x;exact B7 e
 |tup xs=>obtain⟨_,_,_,p⟩:=x;exact p.lt
 |dK Af=>obtain⟨_,_,_,_,o,_,_,e,_⟩:=x;exact B7 e
 |dT Af=>obtain⟨_,_,_,_,o,_,_,e,_⟩:=x;exact B7 e
 |set S n=>obtain⟨o,_,_,_,e,_⟩:=x;exact B7 e
 |ins C dx fs=>obtain⟨_,_,_,e,_⟩:=x;exact B7 e
 |own y=>obtain⟨_,e⟩:=x;exact B7 e
 |xd fs=>obtain⟨_,⟨_,_,_,e,_⟩,_⟩:=x;exact B7 e
 |rng lo hi=>obtain⟨_,_,_,e⟩:=x;exact B7 e
 |frz ob u=>obtain⟨e,_⟩:=x;exact B7 e
 |tbl t=>
  cases t with
  |tab q=>obtain⟨_,e,_⟩:=x;exact B7 e
  |cod q=>obtain⟨c,o,_,_,e,g,_⟩:=x;cases e;exact B7 g
 |met f y=>exact B7 (show h.get? a=some _ from x)
 |ext φ=>obtain⟨_,⟨_,e⟩,_⟩:=x;exact B7 e
theorem Paired.mapP {α β:Type}{F G:α->β->Prop}:∀{l₁:List α} {l₂:List β},Paired F l₁ l₂->(∀a b,F a b->G a b)->Paired G l₁ l₂
 |_,_,.nil,_=>.nil
 |_,_,.cons r t,f=>.cons (f _ _ r) (Paired.mapP t f)
theorem ObjOk.stay (x:ObjOk P w H h a o)(k:∀b u,(b=a\/H b=some (.own a))->h.get? b=some u->h'.get? b=some u)
  (ho:∀b,H b=some (.own a)->H' b=some (.own a)) (ht:∀b xs,H b=some (.tup xs)->H' b=some (.tup xs)) (hb:∀b t,H b=some (.tbl t)->H' b=some (.tbl t):=by exactλ_ _ q=>q):ObjOk P w H' h' a o:=by
 induction o with
 |lst xs=>obtain⟨z,s,n,r,e⟩:=x;exact⟨z,s,n,r,k _ _ (.inl rfl) e⟩
 |tup xs=>obtain⟨z,s,r,i,e,c⟩:=x;exact⟨z,s,r,i,k _ _ (.inl rfl) e,c⟩
 |dK Af=>obtain⟨z,y,vs,r,i,j,l,e,c⟩:=x;exact⟨z,y,vs,r,i,j,l,k _ _ (.inl rfl) e,c⟩
 |dT Af=>
  obtain⟨z,y,xs,r,i,j,l,e,c⟩:=x;exact⟨z,y,xs,Paired.mapP r λp q z=>⟨z.1,ht _ _ z.2.1,z.2.2⟩,i,j,l,k _ _ (.inl rfl) e,c⟩
 |set S n=>obtain⟨i,j,l,t,e,c⟩:=x;exact⟨i,j,l,t,k _ _ (.inl rfl) e,c⟩
 |ins C dx fs=>
  obtain⟨d,z,ne,e,mA,⟨od,j,l,e2,c⟩,r⟩:=x;exact⟨ho _ d,z,ne,k _ _ (.inl rfl) e,mA,⟨od,j,l,k _ _ (.inr d) e2,c⟩,r⟩
 |own y=>obtain⟨i,e⟩:=x;exact⟨i,k _ _ (.inl rfl) e⟩
 |xd fs=>obtain⟨mA,⟨od,j,l,e,c⟩,r⟩:=x;exact⟨mA,⟨od,j,l,k _ _ (.inl rfl) e,c⟩,r⟩
 |rng lo hi=>obtain⟨t,u,v,e⟩:=x;exact⟨t,u,v,k _ _ (.inl rfl) e⟩
 |frz i u ih=>obtain⟨e,q⟩:=x;exact⟨k _ _ (.inl rfl) e,ih q⟩
 |tbl t=>
  cases t with
  |tab q=>obtain⟨m,e,tr,c⟩:=x;exact⟨m,k a _ (.inl rfl) e,tr,λa0 cv z=>let⟨c',e1,e2⟩:=c a0 cv z;⟨c',e1,hb _ _ e2⟩⟩
  |cod q=>obtain⟨c,o,vs,t,e,g,r⟩:=x;cases e;exact⟨a,o,vs,t,rfl,k a _ (.inl rfl) g,r⟩
 |met f y=>
  have e:h.get? a=some (r8 (.ref f) (.ref y)):=x;show h'.get? a=some (r8 (.ref f) (.ref y));exact k a _ (.inl rfl) e
 |ext φ=>obtain⟨p,⟨o,e⟩,st⟩:=x;exact⟨st _ _ p λo q=>k _ _ (.inl rfl) q,⟨o,k _ _ (.inl rfl) e⟩,st⟩
theorem HOk.lt (x:HOk P w H h)(e:H a=some o):a<h.objs.size:=(x a o e).lt
theorem HOk.fresh (x:HOk P w H h)(e:h.objs.size<=a):H a=none:=by
 cases q:H a with
 |none=>rfl
 |some u=>exact absurd (D4 (x.lt q) e) (O2 _)
theorem HOk.kept (x:HOk P w H h)(k:∀b u,h.get? b=some u->h'.get? b=some u):HOk P w H h':=λa o e=>
 (x a o e).stay (λb u _ q=>k b u q) (λ_ q=>q) λ_ _ q=>q
theorem HOk.laid (x:HOk P w H h)(k:∀b u,h.get? b=some u->h'.get? b=some u)(i:h.objs.size<=a)(d:ObjOk P w (Ag H a o) h' a o):HOk P w (Ag H a o) h':=λb u e=>by
 have f:=x.fresh i;by_cases g:b=a
 ·subst g;rw[qA1] at e;cases e;exact d
 ·rw[qAA g] at e;exact(x b u e).stay (λc v _ q=>k c v q) (λc q=>by rw[qAA (qA5 q f)];exact q) (λc j q=>by rw[qAA (qA5 q f)];exact q) λc t q=>by rw[qAA (qA5 q f)];exact q
end
def Rd (H:Hp)(a:Addr)(u:HO):Prop:=H a=some u\/∃o,H a=some (.frz o u)
theorem Rd.ok {P:B20}{w:World}{H:Hp}{h:Heap}{a:Addr}{u:HO}(r:Rd H a u)(x:HOk P w H h):ObjOk P w H h a u:=by
 rcases r with r|⟨o,r⟩
 ·exact x a u r
 ·obtain⟨_,q⟩:=x a _ r;exact q
def Mut:Option HO->Prop
 |some (.lst _)=>True
 |some (.dK _)=>True
 |some (.dT _)=>True
 |some (.set _ _)=>True
 |some (.ins _ _ _)=>True
 |some (.ext _)=>True
 |_=>False
section
variable{P:B20}{w:World}{H:Hp}{h h':Heap}{x e:Addr}{o':HO}
theorem HOk.write (p:HOk P w H h)(f:Mut (H x))(n:e=x\/H e=some (.own x))(k:∀b u,b≠e->h.get? b=some u->h'.get? b=some u)(l:∃u,h'.get? e=some u)
  (j:ObjOk P w (Ag H x o') h' x o'):HOk P w (Ag H x o') h':=λb u q=>by
 have d:∀c y,H c=some (.own y)->c≠x:=λc y r z=>by subst z;rw[r] at f;exact f
 have g:∀c xs,H c=some (.tup xs)->c≠x:=λc xs r z=>by subst z;rw[r] at f;exact f
 by_cases i:b=x
 ·subst i;rw[qA1] at q;cases q;exact j
 ·rw[qAA i] at q;by_cases a:b=e
  ·have m:H b=some (.own x):=by
    rcases n with z|z
    ·exact absurd (a.trans z) i
    ·rw[a];exact z
   rw[q] at m;cases m;obtain⟨v,o⟩:=l;exact⟨v,by rw[a];exact o⟩
  ·refine(p b u q).stay (λc v hc r=>k c v ?_ r) (λc r=>by rw[qAA (d c b r)];exact r) (λc xs r=>by rw[qAA (g c xs r)];exact r) λc t r=>by rw[qAA (λz=>by subst z;rw[r] at f;exact f)];exact r
   rcases hc with rfl|hc
   ·exact a
   ·rintro rfl;rcases n with z|z
    ·exact d c b hc z
    ·rw[hc] at z;cases z;exact i rfl
end
structure Un (fs ex:List Addr)(H H':Hp)(h h':Heap):Prop where
 keep:∀b o,h.get? b=some o->H b=none->b∉fs->b∉ex->h'.get? b=some o
 slot:∀b o,h.get? b=some o->H b=none->b∈fs->b∉ex->∃sl,h'.get? b=some {o with slots:=sl}
 free:∀b o,h.get? b=some o->H b=none->b∉ex->H' b=none
 there:∀b o,h.get? b=some o->b∉ex->∃o',h'.get? b=some o'
 tups:∀b xs,H b=some (.tup xs)->H' b=some (.tup xs)
 frzs:∀b o u,H b=some (.frz o u)->H' b=some (.frz o u)
 tbls:∀b ps,H b=some (.tbl ps)->H' b=some (.tbl ps)
section
variable{fs fs' ex ex':List Addr}{H H1 H2:Hp}{h h1 h2 h':Heap}{a x e:Addr}{o:HO}
theorem Un.any (u:Un fs ex H H1 h h1){b:Addr}{a:Obj}(q:h.get? b=some a)(n:H b=none)(c:b∉ex):∃sl,h1.get? b=some {a with slots:=sl}:=by
 by_cases d:b∈fs
 ·exact u.slot b a q n d c
 ·exact⟨a.slots,u.keep b a q n d c⟩
theorem Un.kept (k:∀b u,h.get? b=some u->h'.get? b=some u):Un fs ex H H h h':=
 ⟨λb a q _ _ _=>k b a q,λb a q _ _ _=>⟨a.slots,k b a q⟩,λ_ _ _ n _=>n,λb a q _=>⟨a,k b a q⟩,λ_ _ q=>q,λ_ _ _ q=>q,λ_ _ q=>q⟩
theorem Un.refl:Un fs ex H H h h:=Un.kept λ_ _ q=>q
theorem Un.laid (k:∀b u,h.get? b=some u->h'.get? b=some u)(d:h.objs.size<=a)(c:H a=none):Un fs ex H (Ag H a o) h h' where
 keep:=λb u q _ _ _=>k b u q
 slot:=λb u q _ _ _=>⟨u.slots,k b u q⟩
 free:=λb u q n _=>by rw[qAA (D2 (D4 (B7 q) d))];exact n
 there:=λb u q _=>⟨u,k b u q⟩
 tups:=λb e q=>by rw[qAA (qA5 q c)];exact q
 frzs:=λb u e q=>by rw[qAA (qA5 q c)];exact q
 tbls:=λb f q=>by rw[qAA (qA5 q c)];exact q
theorem Un.write (c:Mut (H x))(l:e=x\/H e=some (.own x))(k:∀b u,b≠e->h.get? b=some u->h'.get? b=some u)(f:∃u,h'.get? e=some u):Un fs ex H (Ag H x o) h h':=by
 have i:∀b,H b=none->b≠x:=λb n z=>by subst z;rw[n] at c;exact c
 have g:∀b,H b=none->b≠e:=λb n z=>by
  subst z;rcases l with r|r
  ·exact i b n r
  ·rw[n] at r;cases r
 have d:∀b u,H b=some u->¬Mut (some u)->b≠x:=λb u q j z=>by subst z;rw[q] at c;exact j c
 refine⟨λb u q n _ _=>k b u (g b n) q,λb u q n _ _=>⟨u.slots,k b u (g b n) q⟩,λb u q n _=>by rw[qAA (i b n)];exact n,λb u q _=>?_,
  λb m q=>by rw[qAA (d b _ q λz=>z)];exact q,λb u m q=>by rw[qAA (d b _ q λz=>z)];exact q,λb p q=>by rw[qAA (d b _ q λz=>z)];exact q⟩
 by_cases a:b=e
 ·subst a;exact f
 ·exact⟨u,k b u a q⟩
end
noncomputable def trk (h:Heap)(H:Hp):List Addr:=(F6 h.objs.size).filter λa=>(H a).isSome
noncomputable def hidT (h:Heap)(H:Hp):Heap:=PySem.W.hideAll h (trk h H)
theorem qUM (h:Heap)(H:Hp):(hidT h H).objs.size=h.objs.size:=PySem.W.hideAll_size _ _
theorem qX0 {h:Heap}{H:Hp}{b:Addr}{o:Obj}(e:h.get? b=some o)(n:H b=none):(hidT h H).get? b=some o:=
 PySem.W.hideAll_get _ e λa=>by
  have q:(H b).isSome=true:=(C9.mp a).2;rw[n] at q;simp at q
theorem qZH {h:Heap}{H:Hp}{b:Addr}{o:Obj}(e:(hidT h H).get? b=some o):h.get? b=some o/\H b=none:=by
 have c:h.get? b=some o:=PySem.W.of_hideAll (trk h H) e;refine⟨c,?_⟩;cases q:H b with
 |none=>rfl
 |some x=>
  have f:b∈trk h H:=C9.mpr ⟨G1.mpr (B7 c),by simp[q]⟩
  have z:(hidT h H).get? b=none:=PySem.W.hideAll_none (trk h H) f;rw[z] at e;cases e
noncomputable def qaH (g h:Heap)(L:Addr):List (Addr×Obj):=(F6 h.objs.size).filterMap λa=>if a=L\/(g.get? a).isSome=true then none else(h.get? a).map λo=>(a,o)
noncomputable def rest (g h:Heap)(L d:Addr):List (Addr×Obj):=(qaH g h L).filter λp=>decide (p.1≠d)
structure Mod (K:PySem.W.Frag)(mg:Str->Option Value)(base:Heap):Prop where
 kin:K.In base
 glob:base.Ns B30 mg
 blt:∃mb,base.Ns B69 mb/\∀x:Str,x ≠ "__name__"->mb x=B23 x
 nolimit:base.NoLimit
structure Cx where
 prog:B20
 w:World
 K:PySem.W.Frag
 mg:Str->Option Value
 base:Heap
 A:Around
 N:List Str
 s₀:Shared
 H₀:Hp
 env:Env
 outer:List Env
 stack:List Env
 ex:List Addr
 fn:Str->Bool
 calm:Bool
 pn:List (Addr×Obj)
 xe:Value->Shared->Prop
noncomputable def frs (l:List Env):List Addr:=l.filterMap (·.frame)
noncomputable abbrev Cx.fs (X:Cx):List Addr:=frs X.outer
def Vis (sc:Scope)(x:Str):Prop:=sc.names.lookup x=some .local\/sc.names.lookup x=some .cell\/sc.names.lookup x=some .free
def Loc (sc:Scope)(x:Str):Prop:=sc.names.lookup x=some .local\/sc.names.lookup x=some .cell
def Look (env:Env)(h:Heap)(m:Str->Option Value)(x:Str)(u:Value):Prop:=
 (env.kindOf x=some .local/\m x=some u)\/((env.kindOf x=some .cell\/env.kindOf x=some .free)/\∃c,env.cells.lookup x=some c/\h.IsCell c (some u))
structure Cx.Ok (X:Cx):Prop where
 mod:Mod X.K X.mg X.base
 kind:X.env.scope.kind=.function
 glob:X.env.globals=B30
 blt:X.env.builtins=B69
 above:X.s₀.heap.objs.size<=X.env.locals
 inj:∀x y c,X.env.cells.lookup x=some c->X.env.cells.lookup y=some c->x=y
 has:∀x,(X.env.kindOf x=some .cell\/X.env.kindOf x=some .free)->∃c,X.env.cells.lookup x=some c
 cab:∀x c,X.fn x=true->X.env.cells.lookup x=some c->X.s₀.heap.objs.size<=c
 hd:X.calm=true->X.A.handled=none
 frames:X.A.frames=some X.stack
 stk:X.stack=X.outer\/(X.stack=X.env::X.outer/\X.env.frame=some X.env.locals)
 exf:∀b∈X.ex,b≠X.env.locals/\∀x c,X.env.cells.lookup x=some c->c≠b
 bs:∀b o,X.base.get? b=some o->X.s₀.heap.get? b=some o/\X.H₀ b=none
 bsz:X.base.objs.size<=X.s₀.heap.objs.size
 noex:∀b o,X.base.get? b=some o->b∉X.ex
 exfs:∀b∈X.ex,b∉X.fs
 funs:X.s₀.heap.FunFrames X.base X.outer
 frf:∀b∈X.fs,X.H₀ b=none
structure Inv (X:Cx)(Ab:List (Addr×Obj))(σ:List (Option V))(H:Hp)(s:Shared):Prop where
 ok:X.Ok
 os:s.os=X.s₀.os
 bare:AllBare s.gens
 base:Un X.fs X.ex X.H₀ H X.s₀.heap s.heap
 loc:∃m,s.heap.Ns X.env.locals m/\∀(i:Nat) (x:Str) (v:V),X.N[i]?=some x->σ[i]?=some (some v)->Vis X.env.scope x->∃u,RelV v u/\Look X.env s.heap m x u
 cell:∀x c,X.env.cells.lookup x=some c->∃v,s.heap.IsCell c v
 free:H X.env.locals=none
 freeC:∀x c,X.env.cells.lookup x=some c->H c=none
 pin:∀p∈X.pn++Ab,s.heap.get? p.1=some p.2/\H p.1=none/\p.1≠X.env.locals/\p.1∉X.fs/\∀v,p.2.data≠.cell v
 hok:HOk X.prog X.w H s.heap
 len:σ.length=X.N.length
section
variable{X:Cx}{Ab:List (Addr×Obj)}{σ:List (Option V)}{H H':Hp}{s:Shared}{h':Heap}
theorem Cx.Ok.nofr (c:X.Ok){b:Addr}{o:Obj}(e:X.base.get? b=some o):b∉X.fs:=λa=>by
 have:=(c.funs.mem a).1;rw[e] at this;cases this
theorem Inv.bs (I:Inv X Ab σ H s):∀b o,X.base.get? b=some o->s.heap.get? b=some o/\H b=none:=λb o e=>
 ⟨I.base.keep b o (I.ok.bs b o e).1 (I.ok.bs b o e).2 (I.ok.nofr e) (I.ok.noex b o e),I.base.free b o (I.ok.bs b o e).1 (I.ok.bs b o e).2 (I.ok.noex b o e)⟩
theorem Inv.bk (I:Inv X Ab σ H s):∀b o,X.base.get? b=some o->s.heap.get? b=some o:=λb o e=>(I.bs b o e).1
theorem Inv.mod (I:Inv X Ab σ H s):Mod X.K X.mg X.base:=I.ok.mod
theorem Inv.kIn (I:Inv X Ab σ H s):X.K.In s.heap:=I.ok.mod.kin.keeps I.bk
theorem Inv.nolimit (I:Inv X Ab σ H s):s.heap.NoLimit:=I.ok.mod.nolimit.keeps I.bk
theorem Inv.lt (I:Inv X Ab σ H s):X.env.locals<s.heap.objs.size:=let⟨_,hn,_⟩:=I.loc;hn.lt
theorem Inv.sz (I:Inv X Ab σ H s):X.s₀.heap.objs.size<=s.heap.objs.size:=F3 I.ok.above (U2 I.lt)
theorem Inv.nofs (I:Inv X Ab σ H s){a:Addr}(h:s.heap.objs.size<=a):a∉X.fs:=λb=>by
 obtain⟨_,o,c,_⟩:=I.ok.funs.mem b;exact absurd (D4 (B7 c) (F3 I.sz h)) (O2 _)
theorem Inv.cne (I:Inv X Ab σ H s):∀x c,X.env.cells.lookup x=some c->c≠X.env.locals:=λx c e z=>by
 obtain⟨v,o,f,d⟩:=I.cell x c e;obtain⟨m,⟨i,g,h,a,b,_⟩,_⟩:=I.loc;rw[z,a] at f;cases f;rw[b] at d;cases d
theorem Inv.funs (I:Inv X Ab σ H s):s.heap.FunFrames X.base X.outer:=by
 have f:∀(l:List Env),(∀b∈frs l,b∈X.fs)->X.s₀.heap.FunFrames X.base l->s.heap.FunFrames X.base l:=by
  intro l
  induction l with
  |nil=>intro _ _;trivial
  |cons env r ih=>
   intro g j;obtain⟨n,⟨L,o,d,m,k,h⟩,i⟩:=j;have a:L∈X.fs:=g L (by unfold frs;rw[O4,d];exact E7)
   obtain⟨p,e⟩:=I.base.slot L o k (I.ok.frf L a) a λz=>I.ok.exfs L z a;exact⟨n,⟨L,_,d,m,e,h⟩,ih (λb c=>g b (by unfold frs;rw[O4,d];exact B5 _ c)) i⟩
 exact f X.outer (λ_ c=>c) I.ok.funs
theorem Inv.stack (I:Inv X Ab σ H s):s.heap.FunFrames X.base X.stack:=by
 rcases I.ok.stk with e|⟨e,hf⟩
 ·rw[e];exact I.funs
 ·rw[e];obtain⟨m,a,_⟩:=I.loc;refine .cons (by rw[I.ok.kind];decide) hf a ?_ I.funs
  exact Heap.get?_none_of_le (F3 I.ok.bsz I.ok.above)
theorem Inv.stkSub (I:Inv X Ab σ H s):∀b∈frs X.stack,b∈X.env.locals::X.fs:=λb a=>by
 rcases I.ok.stk with e|⟨e,hf⟩
 ·rw[e] at a;exact B5 _ a
 ·rw[e] at a;unfold frs at a;rw[O4,hf] at a;exact a
theorem Inv.stkFree (I:Inv X Ab σ H s):∀b∈frs X.stack,H b=none:=λb hb=>by
 rcases C0.mp (I.stkSub b hb) with e|hb
 ·rw[e];exact I.free
 ·obtain⟨_,o,a,_⟩:=I.ok.funs.mem hb;exact I.base.free b o a (I.ok.frf b hb) λz=>I.ok.exfs b z hb
theorem Inv.step {g':Array B75}{t':Nat}{d':Drawn}{ch:List Addr}(I:Inv X Ab σ H s)
  (h:∀b∈ch,(b∈X.ex\/X.s₀.heap.objs.size<=b)/\b≠X.env.locals/\(∀x c,X.env.cells.lookup x=some c->c≠b)/\∀p∈X.pn++Ab,p.1≠b)
  (keep:∀b o,b≠X.env.locals->b∉X.fs->b∉ch->s.heap.get? b=some o->H b=none->h'.get? b=some o)
  (slot:∀b o,b≠X.env.locals->b∈X.fs->b∉ch->s.heap.get? b=some o->H b=none->∃sl,h'.get? b=some {o with slots:=sl}) (free:∀b o,b∉ch->s.heap.get? b=some o->H b=none->H' b=none)
  (there:∀b o,b∉ch->s.heap.get? b=some o->∃o',h'.get? b=some o')
  (tups:∀b xs,H b=some (.tup xs)->H' b=some (.tup xs)) (frzs:∀b o u,H b=some (.frz o u)->H' b=some (.frz o u)) (tbls:∀b ps,H b=some (.tbl ps)->H' b=some (.tbl ps))
  (ns:∀m,s.heap.Ns X.env.locals m->h'.Ns X.env.locals m) (a2:HOk X.prog X.w H' h') (hg:AllBare g'):
  Inv X Ab σ H' {s with heap:=h',gens:=g',drawn:=d',toks:=t'}:=by
 have a0:∀b o,X.s₀.heap.get? b=some o->b≠X.env.locals:=λb o e=>D2 (D4 (B7 e) I.ok.above);have j:∀b o,X.s₀.heap.get? b=some o->b∉X.ex->b∉ch:=λb o e a y=>by
  rcases(h b y).1 with z|z
  ·exact a z
  ·exact absurd (D4 (B7 e) z) (O2 _)
 have g:∀x c,X.env.cells.lookup x=some c->∀v,s.heap.IsCell c v->h'.IsCell c v:=λx c e v ⟨o,ho,hd⟩=>by
  have f:c∉ch:=λz=>(h c z).2.2.1 x c e rfl;by_cases hc:c∈X.fs
  ·obtain⟨sl,q⟩:=slot c o (I.cne x c e) hc f ho (I.freeC x c e);exact⟨_,q,hd⟩
  ·exact⟨o,keep c o (I.cne x c e) hc f ho (I.freeC x c e),hd⟩
 refine⟨I.ok,I.os,hg,⟨λb o e n y a=>?_,λb o e n y a=>?_,λb o e n a=>?_,λb o e a=>?_,λb xs e=>tups b xs (I.base.tups b xs e),λb o xs e=>frzs b o xs (I.base.frzs b o xs e),λb ps e=>?_⟩,?_,λx c e=>?_,?_,λx c e=>?_,λp hp=>?_,a2,I.len⟩
 ·exact keep b o (a0 b o e) y (j b o e a) (I.base.keep b o e n y a) (I.base.free b o e n a)
 ·obtain⟨sl,t⟩:=I.base.slot b o e n y a;obtain⟨a1,e2⟩:=slot b _ (a0 b o e) y (j b o e a) t (I.base.free b o e n a);exact⟨a1,e2⟩
 ·obtain⟨o',t⟩:=I.base.there b o e a;exact free b o' (j b o e a) t (I.base.free b o e n a)
 ·obtain⟨o',t⟩:=I.base.there b o e a;exact there b o' (j b o e a) t
 ·exact tbls b ps (I.base.tbls b ps e)
 ·obtain⟨m,hn,hl⟩:=I.loc;refine⟨m,ns m hn,λi x v t e2 e3=>?_⟩;obtain⟨u,r,l⟩:=hl i x v t e2 e3;refine⟨u,r,?_⟩;rcases l with l|⟨k,c,e,z⟩
  ·exact .inl l
  ·exact .inr ⟨k,c,e,g x c e _ z⟩
 ·obtain⟨v,z⟩:=I.cell x c e;exact⟨v,g x c e v z⟩
 ·obtain⟨m,⟨o,_,_,ho,_⟩,_⟩:=I.loc;exact free _ o (λz=>(h _ z).2.1 rfl) ho I.free
 ·obtain⟨v,o,ho,hd⟩:=I.cell x c e;exact free c o (λz=>(h c z).2.2.1 x c e rfl) ho (I.freeC x c e)
 ·obtain⟨e,n,ne,nf,d⟩:=I.pin p hp;have f:p.1∉ch:=λz=>(h p.1 z).2.2.2 p hp rfl;exact⟨keep p.1 p.2 ne nf f e n,free p.1 p.2 f e n,ne,nf,d⟩
theorem Inv.un {t':Nat}(I:Inv X Ab σ H s)(u:Un X.fs [] H H' s.heap h')(f:HOk X.prog X.w H' h'):Inv X Ab σ H' {s with heap:=h',toks:=t'}:=by
 obtain⟨m,⟨o,p,q,h,r⟩,_⟩:=id I.loc;obtain⟨v,i⟩:=u.any h I.free (by simp)
 exact I.step (g':=s.gens) (d':=s.drawn) (ch:=[]) (fun _ z=>nomatch z) (fun b o _ c _ e n=>u.keep b o e n c (by simp)) (fun b o _ c _ e n=>u.slot b o e n c (by simp)) (fun b o _ e n=>u.free b o e n (by simp)) (fun b o _ e=>u.there b o e (by simp)) u.tups u.frzs u.tbls (fun l k=>by
  obtain⟨t,g,d,a,j⟩:=k;rw[h] at a;cases a;exact⟨_,g,d,i,j⟩) f I.bare
theorem Inv.call {g':Array B75}{t':Nat}{d':Drawn}{ch:List Addr}(I:Inv X Ab σ H s)(u:Un (frs X.stack) ch H H' s.heap h')(i:HOk X.prog X.w H' h')(l:AllBare g')
  (f:∀b∈ch,(b∈X.ex\/X.s₀.heap.objs.size<=b)/\b≠X.env.locals/\(∀x c,X.env.cells.lookup x=some c->c≠b)/\∀p∈X.pn++Ab,p.1≠b):
  Inv X Ab σ H' {s with heap:=h',gens:=g',drawn:=d',toks:=t'}:=by
 obtain ⟨m,⟨o,es,ep,k,r⟩,_⟩:=id I.loc;obtain ⟨sl,g⟩:=u.any k I.free fun z=>(f _ z).2.1 rfl;exact I.step (ch:=ch) f (fun b o g t a e n=>u.keep b o e n (fun z=>(C0.mp (I.stkSub b z)).elim g t) a) (fun b o _ _ a e n=>u.any e n a) (fun b o a e n=>u.free b o e n a) (fun b o a e=>u.there b o e a) u.tups u.frzs u.tbls (fun y v=>by
  obtain⟨o',j,h,d,q⟩:=v;rw[k] at d;cases d;exact⟨_,j,h,g,q⟩) i l
theorem Inv.turned {t':Nat}{a:Addr}(I:Inv X Ab σ H s)(k:∀b o,b≠a->s.heap.get? b=some o->h'.get? b=some o)(hn:H a=none)(g:a≠X.env.locals)
  (h1:a∈X.ex\/X.s₀.heap.objs.size<=a) (l:∀x c,X.env.cells.lookup x=some c->c≠a) (w:∀p∈X.pn++Ab,p.1≠a):Inv X Ab σ H {s with heap:=h',toks:=t'}:=by
 have f:∀b u,H b=some u->b≠a:=λb u e z=>by rw[z,hn] at e;cases e
 refine I.step (g':=s.gens) (d':=s.drawn) (ch:=[a]) (λb i=>?_) (λb o _ _ d e _=>k b o (λz=>d (by simp[z])) e) (λb o _ _ d e _=>⟨o.slots,k b o (λz=>d (by simp[z])) e⟩) (λ_ _ _ _ n=>n)
  (λb o d e=>⟨o,k b o (λz=>d (by simp[z])) e⟩) (λ_ _ e=>e) (λ_ _ _ e=>e) (λ_ _ e=>e) (λm j=>?_) (λb u e=>?_) I.bare
 ·have e:b=a:=by simpa using i
  subst e;exact⟨h1,g,l,w⟩
 ·obtain⟨o,h,y,t,r⟩:=j;exact⟨o,h,y,k _ o (J3 g) t,r⟩
 ·refine(I.hok b u e).stay (λc v d q=>k c v ?_ q) (λ_ q=>q) λ_ _ q=>q;rcases d with z|z
  ·rw[z];exact f b u e
  ·exact f c _ z
theorem Inv.tok (I:Inv X Ab σ H s)(t:Nat):Inv X Ab σ H {s with toks:=t}:=I.un (h':=s.heap) (t':=t) Un.refl I.hok
theorem Inv.kept {t':Nat}(I:Inv X Ab σ H s)(k:∀b u,s.heap.get? b=some u->h'.get? b=some u):Inv X Ab σ H {s with heap:=h',toks:=t'}:=I.un (Un.kept k) (I.hok.kept k)
theorem Inv.laid {a:Addr}{o:HO}{t':Nat}(I:Inv X Ab σ H s)(k:∀b u,s.heap.get? b=some u->h'.get? b=some u)(c:s.heap.objs.size<=a)(d:ObjOk X.prog X.w (Ag H a o) h' a o):
  Inv X Ab σ (Ag H a o) {s with heap:=h',toks:=t'}:=I.un (Un.laid k c (I.hok.fresh c)) (I.hok.laid k c d)
theorem Inv.write {x e:Addr}{o:HO}{t':Nat}(I:Inv X Ab σ H s)(f:Mut (H x))(d:e=x\/H e=some (.own x))(k:∀b u,b≠e->s.heap.get? b=some u->h'.get? b=some u)(a:∃u,h'.get? e=some u)
  (c:ObjOk X.prog X.w (Ag H x o) h' x o):Inv X Ab σ (Ag H x o) {s with heap:=h',toks:=t'}:=I.un (Un.write f d k a) (I.hok.write f d k a c)
theorem Inv.pins_of {a:List (Addr×Obj)}(I:Inv X Ab σ H s)(h:∀p∈a,s.heap.get? p.1=some p.2/\H p.1=none/\p.1≠X.env.locals/\p.1∉X.fs/\∀v,p.2.data≠.cell v):Inv X a σ H s:=
 ⟨I.ok,I.os,I.bare,I.base,I.loc,I.cell,I.free,I.freeC,λp b=>(A8.mp b).elim (λz=>I.pin p (j4 _ z)) (h p),I.hok,I.len⟩
theorem qQU {N:List Str}(c:N.Nodup){i j:Nat}{x:Str}(a:N[i]?=some x)(b:N[j]?=some x):i=j:=by
 obtain⟨g,d⟩:=A4.mp a;obtain⟨f,e⟩:=A4.mp b;exact(List.getElem_inj c).mp (d.trans e.symm)
theorem qJ1 {M:Model}{A:Around}{E:Value->Shared->Prop}{i:Nat}{x:Str}{v:V}{u:Value}{Q:Unit->Shared->Prop}(I:Inv X Ab σ H s)(hN:X.N.Nodup)(hi:X.N[i]?=some x)(t:Loc X.env.scope x)(r:RelV v u)
  (h:∀s',Inv X Ab (σ.set i (some v)) H s'->(∃a,Heap.SameBut a s.heap s'.heap/\(a=X.env.locals\/X.env.cells.lookup x=some a))->Q () s') (hf:X.fn x=true\/X.env.scope.names.lookup x=some .local:=by first|exact .inl rfl|exact .inr rfl|assumption):wpAny M A (storeName X.env x u) Q E s:=by
 obtain⟨m,hn,hl⟩:=id I.loc;have a4:(X.env.scope.kind == .class||(X.env.scope.kind == .module&&X.env.locals != X.env.globals))=false:=by rw[I.ok.kind];rfl
 have a3:i<σ.length:=by rw[I.len];exact(A4.mp hi).1
 have cne:=I.cne;have l:∀{a:Addr} {h':Heap},(∃o,s.heap.get? a=some o/\H a=none)->Heap.SameBut a s.heap h'->HOk X.prog X.w H h':=λ{a h'} ha f b ob e=>by
  obtain⟨_,_,a0⟩:=ha;refine(I.hok b ob e).stay (λc w' hc q=>(f.2 c ?_).trans q) (λ_ q=>q) λ_ _ q=>q;rintro rfl;rcases hc with rfl|hc
  ·rw[a0] at e;cases e
  ·rw[a0] at hc;cases hc
 rcases t with hk|hk
 ·refine wpAny_storeName_local hk hn (λh' a8 f=>?_) a4;obtain⟨oL,_,_,a9,_⟩:=id hn;refine h _ ⟨I.ok,I.os,I.bare,⟨λb o e n hb t=>?_,λb o e n hb t=>?_,I.base.free,λb o e t=>?_,I.base.tups,I.base.frzs,I.base.tbls⟩,⟨_,a8,λj y v' g e2 e3=>?_⟩,λy c e=>?_,I.free,I.freeC,λp hp=>?_,l ⟨oL,a9,I.free⟩ f,by simpa using I.len⟩ ⟨_,f,.inl rfl⟩
  ·exact(f.2 b (D2 (D4 (B7 e) I.ok.above))).trans (I.base.keep b o e n hb t)
  ·obtain⟨sl,g⟩:=I.base.slot b o e n hb t;exact⟨sl,(f.2 b (D2 (D4 (B7 e) I.ok.above))).trans g⟩
  ·obtain⟨o',g⟩:=I.base.there b o e t;exact⟨o',(f.2 b (D2 (D4 (B7 e) I.ok.above))).trans g⟩
  ·by_cases hj:j=i
   ·subst hj;rw[hi] at g;cases g;rw[V3 a3] at e2;cases e2;exact⟨u,r,.inl ⟨hk,by simp⟩⟩
   ·rw[j6 (J3 hj)] at e2;obtain⟨u',r',q⟩:=hl j y v' g e2 e3;refine⟨u',r',?_⟩;rcases q with⟨k,e⟩|⟨k,c,e,z⟩
    ·refine .inl ⟨k,?_⟩;have:y≠x:=λe=>hj (qQU hN g (e▸hi));simp[this,e]
    ·exact .inr ⟨k,c,e,z.sameBut f (cne y c e)⟩
  ·obtain⟨w',z⟩:=I.cell y c e;exact⟨w',z.sameBut f (cne y c e)⟩
  ·obtain⟨e,n,ne,nf,d⟩:=I.pin p hp;exact⟨(f.2 p.1 ne).trans e,n,ne,nf,d⟩
 ·have a1:X.fn x=true:=by
   rcases hf with z|z
   ·exact z
   ·rw[z] at hk;cases hk
  obtain⟨c,hc⟩:=I.ok.has x (.inl hk);obtain⟨w',z⟩:=I.cell x c hc;refine wpAny_storeName_cell I.ok.kind hk hc z (λh' a6 f=>?_);obtain⟨oc,a5,a7⟩:=id z;refine h {s with heap:=h'} ⟨I.ok,I.os,I.bare,⟨λb o e n hb t=>?_,λb o e n hb t=>?_,I.base.free,λb o e t=>?_,I.base.tups,I.base.frzs,I.base.tbls⟩,⟨m,hn.sameBut f (J3 (cne x c hc)),λj y v' g e2 e3=>?_⟩,λy c' e=>?_,I.free,I.freeC,λp hp=>?_,l ⟨oc,a5,I.freeC x c hc⟩ f,by simpa using I.len⟩ ⟨c,f,.inr hc⟩
  ·exact(f.2 b (D2 (D4 (B7 e) (I.ok.cab x c a1 hc)))).trans (I.base.keep b o e n hb t)
  ·obtain⟨sl,g⟩:=I.base.slot b o e n hb t;exact⟨sl,(f.2 b (D2 (D4 (B7 e) (I.ok.cab x c a1 hc)))).trans g⟩
  ·obtain⟨o',g⟩:=I.base.there b o e t;exact⟨o',(f.2 b (D2 (D4 (B7 e) (I.ok.cab x c a1 hc)))).trans g⟩
  ·by_cases hj:j=i
   ·subst hj;rw[hi] at g;cases g;rw[V3 a3] at e2;cases e2;exact⟨u,r,.inr ⟨.inl hk,c,hc,a6⟩⟩
   ·rw[j6 (J3 hj)] at e2;obtain⟨u',r',q⟩:=hl j y v' g e2 e3;refine⟨u',r',?_⟩;rcases q with q|⟨k,c',e,z'⟩
    ·exact .inl q
    ·refine .inr ⟨k,c',e,z'.sameBut f ?_⟩;rintro rfl;exact hj (qQU hN g (I.ok.inj _ _ _ e hc▸hi))
  ·by_cases a2:c'=c
   ·subst a2;exact⟨_,a6⟩
   ·obtain⟨w2,z2⟩:=I.cell y c' e;exact⟨w2,z2.sameBut f a2⟩
  ·obtain⟨e,n,ne,nf,d⟩:=I.pin p hp;refine⟨(f.2 p.1 ?_).trans e,n,ne,nf,d⟩;intro q;rw[q,a5] at e;have q':oc=p.2:=D5 e;exact d w' (by rw[<- q'];exact a7)
theorem qLD {M:Model}{A:Around}{E:Value->Shared->Prop}{i:Nat}{x:Str}{v:V}{u:Value}{Q:Unit->Shared->Prop}(I:Inv X Ab σ H s)(d:X.N.Nodup)(hi:X.N[i]?=some x)(b:Loc X.env.scope x)(r:RelV v u)
  (h:∀s',Inv X Ab (σ.set i (some v)) H s'->Q () s') (c:X.fn x=true\/X.env.scope.names.lookup x=some .local:=by first|exact .inl rfl|exact .inr rfl|assumption):wpAny M A (storeName X.env x u) Q E s:=
 qJ1 I d hi b r (λs' a _=>h s' a) c
theorem Inv.call' {a:Shared}{ch:List Addr}(I:Inv X Ab σ H s)(h:a.os=s.os)(u:Un (frs X.stack) ch H H' s.heap a.heap)(f:HOk X.prog X.w H' a.heap)(g:AllBare a.gens)
  (d:∀b∈ch,(b∈X.ex\/X.s₀.heap.objs.size<=b)/\b≠X.env.locals/\(∀x c,X.env.cells.lookup x=some c->c≠b)/\∀p∈X.pn++Ab,p.1≠b):Inv X Ab σ H' a:=by
 obtain⟨j,g',d',t',i⟩:=a;have e:i=s.os:=h;subst e;exact I.call (g':=g') (t':=t') (d':=d') u f g d
end
abbrev XK:=Value->Option Addr->Hp->Prop
abbrev St:=List (Option V)
abbrev VK:=V->Hp->Prop
abbrev TE:=St->Hp->VK->Prop
abbrev TT:=St->Hp->(Bool->Hp->Prop)->Prop
abbrev TA:=St->Hp->(List V->Hp->Prop)->Prop
structure Ends where
 nx:St->Hp->Prop
 rt:VK
 bk:St->Hp->Prop:=λ_ _=>False
 ct:St->Hp->Prop:=λ_ _=>False
abbrev TS:=Ends->St->Hp->Prop
def EP (X:Cx)(Ab:List (Addr×Obj))(σ:St)(Q:VK)(u:Value)(s':Shared):Prop:=∃v H',Inv X Ab σ H' s'/\RelV v u/\Q v H'
def TP (X:Cx)(Ab:List (Addr×Obj))(σ:St)(Q:Bool->Hp->Prop)(b:Bool)(s':Shared):Prop:=∃H',Inv X Ab σ H' s'/\Q b H'
def AP (X:Cx)(Ab:List (Addr×Obj))(σ:St)(Q:List V->Hp->Prop)(us:List Value)(s':Shared):Prop:=∃vs H',Inv X Ab σ H' s'/\Vals vs us/\Q vs H'
def SP (X:Cx)(Ab:List (Addr×Obj))(D:Ends)(f:Flow)(s':Shared):Prop:=
 match f with
 |.next=>∃σ' H',Inv X Ab σ' H' s'/\D.nx σ' H'
 |.brk=>∃σ' H',Inv X Ab σ' H' s'/\D.bk σ' H'
 |.cont=>∃σ' H',Inv X Ab σ' H' s'/\D.ct σ' H'
 |.ret u=>∃v σ' H',Inv X Ab σ' H' s'/\RelV v u/\D.rt v H'
def PE (X:Cx)(e:Expr)(t:TE):Prop:=
 ∀(Ab:List (Addr×Obj)) (s:Shared) (σ:St) (H:Hp) (Q:VK),Inv X Ab σ H s->t σ H Q->wpAny (model X.prog X.w) X.A (eval e X.env) (EP X Ab σ Q) X.xe s
def PT (X:Cx)(e:Expr)(t:TT):Prop:=
 ∀(Ab:List (Addr×Obj)) (s:Shared) (σ:St) (H:Hp) (Q:Bool->Hp->Prop),Inv X Ab σ H s->t σ H Q->wpAny (model X.prog X.w) X.A (isTrue e X.env (eval e X.env)) (TP X Ab σ Q) X.xe s
def PW (X:Cx)(e:Expr)(t:TT):Prop:=
 ∀(whole:Sem Value) (Ab:List (Addr×Obj)) (s:Shared) (σ:St) (H:Hp) (Q:Bool->Hp->Prop),Inv X Ab σ H s->t σ H Q->wpAny (model X.prog X.w) X.A (isTrue e X.env whole) (TP X Ab σ Q) X.xe s
theorem PW.pt {X:Cx}{e:Expr}{t:TT}(h:PW X e t):PT X e t:=h _
def PA (X:Cx)(es:List Expr)(t:TA):Prop:=
 ∀(pos:Pos) (Ab:List (Addr×Obj)) (s:Shared) (σ:St) (H:Hp) (Q:List V->Hp->Prop),Inv X Ab σ H s->t σ H Q->wpAny (model X.prog X.w) X.A (spliced (backTo pos (B24 es X.env))) (AP X Ab σ Q) X.xe s
def PS (X:Cx)(st:Stmt)(t:TS):Prop:=
 ∀(Ab:List (Addr×Obj)) (s:Shared) (σ:St) (H:Hp) (D:Ends),Inv X Ab σ H s->t D σ H->wpAny (model X.prog X.w) X.A (exec st X.env) (SP X Ab D) X.xe s
def PSs (X:Cx)(st:List Stmt)(t:TS):Prop:=
 ∀(Ab:List (Addr×Obj)) (s:Shared) (σ:St) (H:Hp) (D:Ends),Inv X Ab σ H s->t D σ H->wpAny (model X.prog X.w) X.A (execs st X.env) (SP X Ab D) X.xe s
theorem thn {α:Type}{t:Sem α}{Q Q':α->Shared->Prop}{M:Model}{A:Around}{E:Value->Shared->Prop}{s:Shared}(h:wpAny M A t Q E s)(b:∀a s,Q a s->Q' a s):wpAny M A t Q' E s:=B26 h b λ_ _ x=>x
section
variable{X:Cx}
theorem bin {a b:Expr}{c d:TE}(i:PE X a c)(e:PE X b d){Ab:List (Addr×Obj)}{s:Shared}{σ:St}{H:Hp}{R:V->V->Hp->Prop}(I:Inv X Ab σ H s)(h:c σ H λx H1=>d σ H1 λy H2=>R x y H2)
  {α:Type} {Q:α->Shared->Prop} {f:Value->Value->Sem α}
  (g:∀v u s2 x y H2,Inv X Ab σ H2 s2->RelV x v->RelV y u->R x y H2->wpAny (model X.prog X.w) X.A (f v u) Q X.xe s2):
  wpAny (model X.prog X.w) X.A (eval a X.env) (λv s₁=>wpAny (model X.prog X.w) X.A (eval b X.env) (λu s₂=>wpAny (model X.prog X.w) X.A (f v u) Q X.xe s₂) X.xe s₁) X.xe s:=by
 refine thn (i Ab s σ H _ I h) λv s1 ⟨x,H1,I1,r1,q1⟩=>?_;refine thn (e Ab s1 σ H1 _ I1 q1) λu s2 ⟨y,H2,I2,r2,q2⟩=>?_;exact g v u s2 x y H2 I2 r1 r2 q2
def tVar (i:Nat):TE:=λσ H Q=>∃v,σ[i]?=some (some v)/\Q v H
def tC (v:V):TE:=λ_ H Q=>Q v H
theorem qbG {i:Nat} {x:Str} {pos:Pos} (k:X.N[i]?=some x) (g:Vis X.env.scope x) (d:(x==("__debug__" : Str))=false:=by decide) (hcd:(x==("__classdict__" : Str))=false:=by decide):PE X (.Name x pos) (tVar i):=by
 intro j s σ H Q I h;obtain⟨v,e,h⟩:=h;obtain⟨m,p,o⟩:=I.loc;obtain⟨u,r,l⟩:=o i x v k e g;have b:EP X j σ Q u s:=⟨v,H,I,r,h⟩;rcases l with⟨hk,n⟩|⟨hk,c,f,a⟩
 ·exact wpAny_Name (wpAny_loadName_local I.ok.kind hk p n b) d
 ·rcases hk with hk|hk
  ·exact wpAny_Name (wpAny_loadName_cell I.ok.kind hk f a b) d
  ·exact wpAny_Name (wpAny_loadName_free I.ok.kind hk f a b hcd) d
theorem qA7 {i j pos}:PE X (.Constant (.int i) j pos) (tC (.int i)):=λ_ _ _ H _ I h=>wpAny_Constant_int ⟨.int i,H,I.tok _,⟨_,rfl⟩,h⟩
theorem qF3 {b j pos}:PE X (.Constant (.bool b) j pos) (tC (.bl b)):=λ_ _ _ H _ I h=>Constant_bool ⟨.bl b,H,I,rfl,h⟩
theorem qJC {j pos}:PE X (.Constant .none j pos) (tC .non):=λ_ _ _ H _ I h=>Constant_none ⟨.non,H,I,rfl,h⟩
theorem qCY {x j pos}:PE X (.Constant (.str x) j pos) (tC (.str x)):=λ_ _ _ H _ I h=>Calls.Constant_str ⟨.str x,H,I.tok _,⟨_,rfl⟩,h⟩
def Gl (X:Cx)(x:Str):Prop:=X.env.kindOf x=some .globalImplicit
theorem qZQ {E:Value->Shared->Prop}{Ab:List (Addr×Obj)}{s:Shared}{σ:St}{H:Hp}{x:Str}{u:Value}{pos:Pos}{Q:Value->Shared->Prop}(I:Inv X Ab σ H s)(a:Gl X x)(b:X.mg x=some u)(h:Q u s)
  (c:(x==("__debug__" : Str))=false:=by decide):wpAny (model X.prog X.w) X.A (eval (.Name x pos) X.env) Q E s:=
 Calls.Name_function_global I.ok.kind a (Calls.loadGlobal_global (by rw[I.ok.glob];exact I.mod.glob.keeps I.bk) b h) c
theorem qGZ {E:Value->Shared->Prop}{Ab:List (Addr×Obj)}{s:Shared}{σ:St}{H:Hp}{x:Str}{u:Value}{pos:Pos}{Q:Value->Shared->Prop}(I:Inv X Ab σ H s)(b:Gl X x)(d:X.mg x=none)(a:B23 x=some u)(h:Q u s)
  (g:x ≠ "__name__":=by decide) (c:(x==("__debug__" : Str))=false:=by decide):wpAny (model X.prog X.w) X.A (eval (.Name x pos) X.env) Q E s:=by
 obtain⟨i,f,e⟩:=I.mod.blt;exact Calls.Name_function_global I.ok.kind b (Calls.loadGlobal_builtin (by rw[I.ok.glob];exact I.mod.glob.keeps I.bk) d (by rw[I.ok.blt];exact f.keeps I.bk) ((e x g).trans a) h) c
theorem qGB {x:Str} {v:V} {u:Value} {pos:Pos} (b:Gl X x) (d:X.mg x=none) (a:B23 x=some u) (r:RelV v u) (e:x ≠ "__name__":=by decide) (c:(x==("__debug__" : Str))=false:=by decide):PE X (.Name x pos) (tC v):=
 λ_ _ _ H _ I h=>qGZ I b d a ⟨v,H,I,r,h⟩ e c
variable{a b:Expr}{ta tb:TE}{pos:Pos}
def PC (X:Cx)(op:CmpOp)(a b:Expr)(t:TE):Prop:=
 ∀(Ab:List (Addr×Obj)) (s:Shared) (σ:St) (H:Hp) (Q:VK),Inv X Ab σ H s->t σ H Q->
  wpAny (model X.prog X.w) X.A (eval a X.env) (λv s₁=>wpAny (model X.prog X.w) X.A (eval b X.env) (λu s₂=>wpAny (model X.prog X.w) X.A (B35 op v u) (EP X Ab σ Q) X.xe s₂) X.xe s₁) X.xe s
theorem qQV (b:Expr){op:CmpOp}(h:op≠.In)(a:op≠.NotIn):B52 op b=false:=by
 have d:(op==CmpOp.In)=false:=by cases op<;>first|rfl|exact absurd rfl h
 have c:(op==CmpOp.NotIn)=false:=by cases op<;>first|rfl|exact absurd rfl a
 cases b<;>simp[B52,d,c]
def tIsN (ta:TE):TE:=λσ H Q=>ta σ H λx H1=>Q (.bl (decide (x=.non))) H1
def qcM (ta:TE):TE:=λσ H Q=>ta σ H λx H1=>Q (.bl (!decide (x=.non))) H1
theorem RelV.none_iff {x:V}{v:Value}(r:RelV x v):(v==Q0)=decide (x=.non):=by
 cases x with
 |non=>cases r;rfl
 |bl _=>cases r;rfl
 |int _=>obtain⟨t,rfl⟩:=r;rfl
 |str _=>obtain⟨t,rfl⟩:=r;rfl
 |byt _=>obtain⟨t,rfl⟩:=r;rfl
 |flt _=>obtain⟨t,rfl⟩:=r;rfl
 |ref _=>cases r;rfl
 |ty _=>cases r;rfl
theorem qXY {j pos'}(c:PE X a ta):PC X .Is a (.Constant .none j pos') (tIsN ta):=by
 intro b s σ H Q I h;refine thn (c b s σ H _ I h) λv s1 ⟨x,H1,I1,r1,q1⟩=>?_;exact Constant_none (is_none_gen ⟨.bl _,H1,I1,by rw[r1.none_iff];rfl,q1⟩)
theorem qOZ {j pos'}(c:PE X a ta):PC X .IsNot a (.Constant .none j pos') (qcM ta):=by
 intro b s σ H Q I h;refine thn (c b s σ H _ I h) λv s1 ⟨x,H1,I1,r1,q1⟩=>?_;exact Constant_none (isnot_none_gen ⟨.bl _,H1,I1,by rw[r1.none_iff];rfl,q1⟩)
def tB (t:TE):TT:=λσ H Q=>t σ H λx H1=>∃c,x=.bl c/\Q c H1
theorem qbJ {op:CmpOp}{t:TE}(h:PC X op a b t)(c:B52 op b=false:=by first|exact qQV _ (by decide) (by decide)|rfl):PE X (.Compare a [op] [b] pos) t:=λd s σ H Q I e=>wpAny_Compare1 (h d s σ H Q I e) c
theorem qE4 {op:CmpOp}{t:TE}(h:PC X op a b t)(e:B52 op b=false:=by first|exact qQV _ (by decide) (by decide)|rfl):PT X (.Compare a [op] [b] pos) (tB t):=by
 intro f s σ H Q I i;refine wpAny_isTrue_Compare1 (thn (h f s σ H _ I i) λv k e=>thn e λu j g=>thn g λc s3 ⟨x,H1,I1,r1,q1⟩=>?_) e;obtain⟨d,rfl,q⟩:=q1;cases r1;exact B33 ⟨H1,I1,q⟩
theorem qF1 {e:Expr}{t:TE}(h:PE X e t)(c:∀whole,isTrue e X.env whole=(do let v <- whole;standAt e.pos;B62 [v] (truthy v)):=by intro _;rfl):PT X e (tB t):=by
 intro a s σ H Q I b;refine isTrue_plain (thn (h a s σ H _ I b) λv s1 ⟨x,H1,I1,r1,q1⟩=>?_) (c _);obtain⟨d,rfl,q⟩:=q1;cases r1;exact B33 ⟨H1,I1,q⟩
variable{tA tB':TT}{rest:List Expr}
def tAnd (t u:TT):TT:=λσ H Q=>t σ H λc H1=>if c=true then u σ H1 Q else Q false H1
def tOr (t u:TT):TT:=λσ H Q=>t σ H λc H1=>if c=true then Q true H1 else u σ H1 Q
def tNot (t:TT):TT:=λσ H Q=>t σ H λc H1=>Q (!c) H1
theorem qZ5 (d:PT X a tA):PW X (.BoolOp .And [a] pos) tA:=by
 intro f b s σ H Q I h;refine isTrue_and (thn (d b s σ H Q I h) λc g e=>?_);cases c with
 |true=>exact isTrue_and_nil e
 |false=>exact e
theorem qJ9 (d:PT X a tA):PW X (.BoolOp .Or [a] pos) tA:=by
 intro f b s σ H Q I h;refine isTrue_or (thn (d b s σ H Q I h) λc g e=>?_);cases c with
 |false=>exact isTrue_or_nil e
 |true=>exact e
theorem qbB (g:PT X a tA)(f:PW X (.BoolOp .And (b::rest) pos) tB'):PW X (.BoolOp .And (a::b::rest) pos) (tAnd tA tB'):=by
 intro e d s σ H Q I h;refine isTrue_and (thn (g d s σ H _ I h) λc s1 ⟨H1,I1,q1⟩=>?_);cases c with
 |true=>exact f e d s1 σ H1 Q I1 q1
 |false=>exact⟨H1,I1,q1⟩
theorem qOR (g:PT X a tA)(f:PW X (.BoolOp .Or (b::rest) pos) tB'):PW X (.BoolOp .Or (a::b::rest) pos) (tOr tA tB'):=by
 intro e d s σ H Q I h;refine isTrue_or (thn (g d s σ H _ I h) λc s1 ⟨H1,I1,q1⟩=>?_);cases c with
 |true=>exact⟨H1,I1,q1⟩
 |false=>exact f e d s1 σ H1 Q I1 q1
theorem qGS (e:PT X a tA):PT X (.UnaryOp .Not a pos) (tNot tA):=by
 intro d s σ H Q I h;exact isTrue_not (e d s σ H (λc b=>Q (!c) b) I h)
def qcT (ta tb:TE):TE:=λσ H Q=>ta σ H λx H1=>∃c,x=.bl c/\if c=true then tb σ H1 Q else Q (.bl false) H1
def tOrV (ta tb:TE):TE:=λσ H Q=>ta σ H λx H1=>∃c,x=.bl c/\if c=true then Q (.bl true) H1 else tb σ H1 Q
def qcL (ta:TE):TE:=λσ H Q=>ta σ H λx H1=>∃c,x=.bl c/\Q (.bl (!c)) H1
theorem qI2 {op}{t:TE}(h:PE X a t):PE X (.BoolOp op [a] pos) t:=λb s σ H Q I c=>BoolOp_one (h b s σ H Q I c)
theorem qJD (f:PE X a ta)(e:PE X (.BoolOp .And (b::rest) pos) tb):PE X (.BoolOp .And (a::b::rest) pos) (qcT ta tb):=by
 intro d s σ H Q I h;refine BoolOp_and (thn (f d s σ H _ I h) λv s1 ⟨x,H1,I1,r1,q1⟩=>?_);obtain⟨c,rfl,q1⟩:=q1;cases r1;refine B33 ?_;cases c with
 |true=>exact e d s1 σ H1 Q I1 q1
 |false=>exact⟨.bl false,H1,I1,rfl,q1⟩
theorem qd4 (f:PE X a ta)(e:PE X (.BoolOp .Or (b::rest) pos) tb):PE X (.BoolOp .Or (a::b::rest) pos) (tOrV ta tb):=by
 intro d s σ H Q I h;refine BoolOp_or (thn (f d s σ H _ I h) λv s1 ⟨x,H1,I1,r1,q1⟩=>?_);obtain⟨c,rfl,q1⟩:=q1;cases r1;refine B33 ?_;cases c with
 |false=>exact e d s1 σ H1 Q I1 q1
 |true=>exact⟨.bl true,H1,I1,rfl,q1⟩
theorem qQN (d:PE X a ta):PE X (.UnaryOp .Not a pos) (qcL ta):=by
 intro b s σ H Q I h;refine UnaryOp_ (thn (d b s σ H _ I h) λv s1 ⟨x,H1,I1,r1,q1⟩=>?_);obtain⟨c,rfl,q1⟩:=q1;cases r1;exact not_of (B33 ⟨.bl (!c),H1,I1,rfl,q1⟩)
def tIf (t:TT)(ta tb:TE):TE:=λσ H Q=>t σ H λc H1=>if c=true then ta σ H1 Q else tb σ H1 Q
theorem qLV {c:Expr}(g:PT X c tA)(i:PE X a ta)(f:PE X b tb):PE X (.IfExp c a b pos) (tIf tA ta tb):=by
 intro e s σ H Q I h;refine wpAny_IfExp (thn (g e s σ H _ I h) λd s1 ⟨H1,I1,q1⟩=>?_);cases d with
 |true=>exact i e s1 σ H1 Q I1 q1
 |false=>exact f e s1 σ H1 Q I1 q1
end
def SqL (K:PySem.W.Frag)(H:Hp)(a:Addr)(xs:List V):Prop:=
 Rd H a (.lst xs)\/
  ∃(o:Obj) (its:Array Value) (n:Nat),K.lookup a=some o/\o.cls=.type "list"/\o.dict=none/\o.data=.seq its n/\its.size<=B18/\Vals xs its.toList
def SqT (K:PySem.W.Frag)(H:Hp)(a:Addr)(xs:List V):Prop:=
 Rd H a (.tup xs)\/
  ∃(o:Obj) (its:Array Value) (n:Nat),K.lookup a=some o/\o.cls=.type "tuple"/\o.data=.seq its n/\its.size<=B18/\Vals xs its.toList
noncomputable def absV:Value->Option V
 |.none=>some .non
 |.bool b=>some (.bl b)
 |.int i _=>some (.int i)
 |.str x _=>some (.str x)
 |.bytes b _=>some (.byt b)
 |.float b _=>some (.flt b)
 |.ref a=>some (.ref a)
 |.type n=>some (.ty n)
 |_=>none
theorem RelV.abs {x:V}{u:Value}(r:RelV x u):absV u=some x:=by
 cases x with
 |non=>cases r;rfl
 |bl _=>cases r;rfl
 |int _=>obtain⟨t,rfl⟩:=r;rfl
 |str _=>obtain⟨t,rfl⟩:=r;rfl
 |byt _=>obtain⟨t,rfl⟩:=r;rfl
 |flt _=>obtain⟨t,rfl⟩:=r;rfl
 |ref _=>cases r;rfl
 |ty _=>cases r;rfl
theorem RelV.inj {x y:V}{u:Value}(r:RelV x u)(q:RelV y u):x=y:=D5 (r.abs.symm.trans q.abs)
theorem Vals.inj:∀{xs ys:List V} {us:List Value},Vals xs us->Vals ys us->xs=ys
 |_,_,_,.nil,.nil=>rfl
 |_,_,_,.cons r t,.cons r' t'=>by rw[r.inj r',Vals.inj t t']
section
variable{X:Cx}{Ab:List (Addr×Obj)}{σ:St}{H:Hp}{s:Shared}{a:Addr}{xs ys:List V}
theorem SqL.of {K:PySem.W.Frag}(h:H a=some (.lst xs)):SqL K H a xs:=.inl (.inl h)
theorem SqT.of {K:PySem.W.Frag}(h:H a=some (.tup xs)):SqT K H a xs:=.inl (.inl h)
theorem Inv.list (I:Inv X Ab σ H s)(h:SqL X.K H a xs):∃its:List Value,Vals xs its/\PlainL s.heap a its.toArray/\xs.length<=B18:=by
 rcases h with h|⟨o,its,n,hk,hc,hd,hs,hz,r⟩
 ·obtain⟨z,its,n,r,e⟩:=h.ok I.hok;exact⟨its,r,⟨_,n,e,rfl,rfl,rfl⟩,z⟩
 ·refine⟨its.toList,r,⟨o,n,I.kIn a o hk,hc,hd,by simpa using hs⟩,?_⟩
  have e:=r.length;simp only[C8] at e
  lia
theorem Inv.tuple (I:Inv X Ab σ H s)(h:SqT X.K H a xs):∃its:List Value,Vals xs its/\IsTup s.heap a its.toArray/\xs.length<=B18:=by
 rcases h with h|⟨o,its,n,hk,hc,hs,hz,r⟩
 ·obtain⟨z,its,r,p⟩:=h.ok I.hok;exact⟨its,r,p,z⟩
 ·refine⟨its.toList,r,⟨o,I.kIn a o hk,hc,n,by simpa using hs⟩,?_⟩
  have e:=r.length;simp only[C8] at e
  lia
theorem Inv.list_inj (I:Inv X Ab σ H s)(h:SqL X.K H a xs)(h':SqL X.K H a ys):xs=ys:=by
 obtain⟨c,r,⟨o,n,e,_,_,d⟩,_⟩:=I.list h;obtain⟨b,i,⟨k,j,g,_,_,f⟩,_⟩:=I.list h';rw[e] at g;cases g;rw[d] at f
 injection f with d1 _
 have:c=b:=by simpa using congrArg A63 d1
 subst this;exact r.inj i
theorem Inv.tuple_inj (I:Inv X Ab σ H s)(h:SqT X.K H a xs)(h':SqT X.K H a ys):xs=ys:=by
 obtain⟨c,r,⟨o,e,_,n,d⟩,_⟩:=I.tuple h;obtain⟨b,i,⟨k,g,_,j,f⟩,_⟩:=I.tuple h';rw[e] at g;cases g;rw[d] at f
 injection f with d1 _
 have:c=b:=by simpa using congrArg A63 d1
 subst this;exact r.inj i
end
noncomputable abbrev Cx.wish (X:Cx)(E:Value->Shared->Prop):Cx:={X with xe:=E}
noncomputable abbrev Cx.nox (X:Cx):Cx:=X.wish λ_ _=>False
theorem Cx.Ok.wish {X:Cx}(a:X.Ok)(E:Value->Shared->Prop):(X.wish E).Ok:=
 ⟨a.mod,a.kind,a.glob,a.blt,a.above,a.inj,a.has,a.cab,a.hd,a.frames,a.stk,a.exf,a.bs,a.bsz,a.noex,a.exfs,a.funs,a.frf⟩
theorem Cx.Ok.unwish {X:Cx}{E:Value->Shared->Prop}(a:(X.wish E).Ok):X.Ok:=
 ⟨a.mod,a.kind,a.glob,a.blt,a.above,a.inj,a.has,a.cab,a.hd,a.frames,a.stk,a.exf,a.bs,a.bsz,a.noex,a.exfs,a.funs,a.frf⟩
section
variable{X:Cx}{Ab:List (Addr×Obj)}{σ:St}{H:Hp}{s:Shared}{E:Value->Shared->Prop}
theorem Inv.wish (I:Inv X Ab σ H s)(E:Value->Shared->Prop):Inv (X.wish E) Ab σ H s:=⟨I.ok.wish E,I.os,I.bare,I.base,I.loc,I.cell,I.free,I.freeC,I.pin,I.hok,I.len⟩
theorem Inv.unwish (I:Inv (X.wish E) Ab σ H s):Inv X Ab σ H s:=⟨I.ok.unwish,I.os,I.bare,I.base,I.loc,I.cell,I.free,I.freeC,I.pin,I.hok,I.len⟩
theorem SP.unwish {D:Ends}{f:Flow}{b:Shared}(h:SP (X.wish E) Ab D f b):SP X Ab D f b:=by
 cases f with
 |next=>obtain⟨σ',a,I,q⟩:=h;exact⟨σ',a,I.unwish,q⟩
 |brk=>obtain⟨σ',a,I,q⟩:=h;exact⟨σ',a,I.unwish,q⟩
 |cont=>obtain⟨σ',a,I,q⟩:=h;exact⟨σ',a,I.unwish,q⟩
 |ret u=>obtain⟨v,σ',a,I,r,q⟩:=h;exact⟨v,σ',a,I.unwish,r,q⟩
theorem PSs.nox {st:List Stmt}{t:TS}(h:PSs X.nox st t):PSs X st t:=λa s σ H D I b=>
 B26 (h a s σ H D (I.wish _) b) (λ_ _ q=>q.unwish) λ_ _ z=>V2 z
end
section
variable{X:Cx}{st:Stmt}{rest:List Stmt}{t u:TS}{e:Expr}{te:TE}{pos:Pos}
def qcN:TS:=λD σ H=>D.nx σ H
def tSeq (t u:TS):TS:=λD σ H=>t {D with nx:=u D} σ H
theorem qAR:PSs X [] qcN:=λ_ _ σ H _ I h=>B89 ⟨σ,H,I,h⟩
theorem qA4 (e:PS X st t)(c:PSs X rest u):PSs X (st::rest) (tSeq t u):=by
 intro a s σ H D I h;refine wpAny_execs_cons (thn (e a s σ H {D with nx:=u D} I h) λf g q=>?_);cases f with
 |next=>
  obtain⟨σ',b,d,q⟩:=q;exact c a g σ' b D d q
 |ret v=>exact q
 |brk=>exact q
 |cont=>exact q
theorem qA6 (a:PS X st t):PSs X [st] t:=by
 intro b s σ H D I h;refine wpAny_execs_cons (thn (a b s σ H D I h) λf c q=>?_);cases f with
 |next=>exact B89 q
 |ret v=>exact q
 |brk=>exact q
 |cont=>exact q
theorem Inv.quiet {Ab:List (Addr×Obj)}{σ:St}{H:Hp}{s:Shared}(I:Inv X Ab σ H s):interactive X.env=false:=by simp[interactive,I.ok.kind]
def qcQ (te:TE):TS:=λD σ H=>te σ H λ_ H1=>D.nx σ H1
theorem qEK (c:PE X e te)(a:swapsWith e none pos.line X.env=pure false:=by rfl):PS X (.Expr e pos) (qcQ te):=by
 intro b s σ H D I h;exact wpAny_Expr_any (thn (c b s σ H _ I h) λv s1 ⟨x,H1,I1,r1,q1⟩=>⟨σ,H1,I1,q1⟩) I.quiet a
def tRet (te:TE):TS:=λD σ H=>te σ H D.rt
theorem qAH (b:PE X e te):PS X (.Return (some e) pos) (tRet te):=by
 intro a s σ H D I h;exact wpAny_Return_some (thn (b a s σ H _ I h) λv s1 ⟨x,H1,I1,r1,q1⟩=>⟨x,σ,H1,I1,r1,q1⟩)
def tIfS (c:TT)(t u:TS):TS:=λD σ H=>c σ H λb H1=>if b=true then t D σ H1 else u D σ H1
theorem qC0 {c:Expr}{a b:List Stmt}{f:TT}(i:PT X c f)(j:PSs X a t)(g:PSs X b u):PS X (.If c a b pos) (tIfS f t u):=by
 intro e s σ H D I h;refine wpAny_If (thn (i e s σ H _ I h) λd s1 ⟨H1,I1,q1⟩=>?_);cases d with
 |true=>exact j e s1 σ H1 D I1 q1
 |false=>exact g e s1 σ H1 D I1 q1
end
abbrev TG:=V->St->Hp->(St->Hp->Prop)->Prop
abbrev TGs:=List V->St->Hp->(St->Hp->Prop)->Prop
def PG (X:Cx)(target:Expr)(t:TG):Prop:=
 ∀(Ab:List (Addr×Obj)) (s:Shared) (σ:St) (H:Hp) (v:V) (u:Value) (Q:St->Hp->Prop),Inv X Ab σ H s->RelV v u->t v σ H Q->
  wpAny (model X.prog X.w) X.A (assign target X.env u) (λ_ s'=>∃σ' H',Inv X Ab σ' H' s'/\Q σ' H') X.xe s
def PGs (X:Cx)(ts:List Expr)(t:TGs):Prop:=
 ∀(Ab:List (Addr×Obj)) (s:Shared) (σ:St) (H:Hp) (vs:List V) (us:List Value) (Q:St->Hp->Prop),Inv X Ab σ H s->Vals vs us->t vs σ H Q->
  wpAny (model X.prog X.w) X.A (assignInOrder ((B70 ts X.env).map (·.2)) us) (λ_ s'=>∃σ' H',Inv X Ab σ' H' s'/\Q σ' H') X.xe s
abbrev TSet:=V->V->V->Hp->(Hp->Prop)->Prop
def PSet (X:Cx)(t:TSet):Prop:=
 ∀(Ab:List (Addr×Obj)) (s:Shared) (σ:St) (H:Hp) (o i v:V) (ov iv u:Value) (Q:Hp->Prop),Inv X Ab σ H s->RelV o ov->RelV i iv->RelV v u->t o i v H Q->
  wpAny (model X.prog X.w) X.A (setItem ov iv u) (λ_ s'=>∃H',Inv X Ab σ H' s'/\Q H') X.xe s
abbrev TIp:=V->V->Hp->VK->Prop
def PIp (X:Cx)(op:Operator)(t:TIp):Prop:=
 ∀(Ab:List (Addr×Obj)) (s:Shared) (σ:St) (H:Hp) (x y:V) (v u:Value) (Q:VK),Inv X Ab σ H s->RelV x v->RelV y u->t x y H Q->
  wpAny (model X.prog X.w) X.A (inplaceOp op v u) (EP X Ab σ Q) X.xe s
section
variable{X:Cx}{pos:Pos}
def qSB (i:Nat):TG:=λv σ H Q=>Q (σ.set i (some v)) H
theorem qAZ {i:Nat}{x:Str}(a:X.N.Nodup)(hi:X.N[i]?=some x)(d:Loc X.env.scope x)(b:X.fn x=true\/X.env.scope.names.lookup x=some .local:=by first|exact .inl rfl|exact .inr rfl|assumption):PG X (.Name x pos) (qSB i):=by
 intro e s σ H v u Q I r h;exact wpAny_assign_Name (qLD I a hi d r (λf c=>⟨_,H,c,h⟩) b)
def gNil:TGs:=λvs σ H Q=>vs=[]/\Q σ H
def qdL (t:TG)(u:TGs):TGs:=λvs σ H Q=>∃v r,vs=v::r/\t v σ H λσ' H'=>u r σ' H' Q
theorem qHK:PGs X [] gNil:=by
 intro c s σ H b a Q I r h;obtain⟨e,h⟩:=h;subst e;cases r;exact assignInOrder_nil ⟨σ,H,I,h⟩
theorem qC1 {e:Expr}{es:List Expr}{t:TG}{u:TGs}(f:PG X e t)(c:PGs X es u)
  (d:(B70 (e::es) X.env).map (·.2)=assign e X.env::(B70 es X.env).map (·.2):=by rfl):PGs X (e::es) (qdL t u):=by
 intro a s σ H g j Q I r h;obtain⟨v,i,b,h⟩:=h;subst b;cases r with
 |cons r rr=>
  rw[d];refine assignInOrder_cons (thn (f a s σ H _ _ _ I r h) λ_ s1 ⟨σ1,H1,I1,q1⟩=>?_);exact c a s1 σ1 H1 _ _ Q I1 rr q1
def gTup (K:PySem.W.Frag)(n:Nat)(t:TGs):TG:=λv σ H Q=>∃a xs,v=.ref a/\SqT K H a xs/\xs.length=n/\t xs σ H Q
theorem qTI {es:List Expr}{k:Nat}{t:TGs}{n:Nat}(x:X.calm=true)(h:PGs X es t)
  (hn:(B70 es X.env).length=n:=by rfl) (d:(B70 es X.env).findIdx? (·.1)=none:=by rfl):PG X (.Tuple es k pos) (gTup X.K n t):=by
 intro f s σ H v u Q I r c;obtain⟨a,y,j,l,q,c⟩:=c;subst j;cases r;obtain⟨w,g,p,hz⟩:=I.tuple l;refine assign_Tuple_tuple (I.ok.hd x) p (by simp[hn,<- q,g.length]) d λm z=>?_
 have i:Inv X f σ H {s with heap:=m}:=I.kept (t':=s.toks) λb o e=>z b o (D2 (B7 e)) e;exact h f _ σ H y _ Q i (by simpa using g) c
def gSub (to ti:TE)(t:TSet):TG:=λv σ H Q=>to σ H λo H1=>ti σ H1 λi H2=>t o i v H2 λH3=>Q σ H3
theorem qTJ {o i:Expr}{b c:TE}{t:TSet}(d:PE X o b)(hi:PE X i c)(e:PSet X t)
  (f:∀ v,assign (.Subscript o i pos) X.env v=(do
   let ov <- B62 [v] (eval o X.env)
   let iv <- B62 [v,ov] (eval i X.env)
   standAt pos
   B62 [v,ov,iv] (setItem ov iv v)
   release [v,ov,iv] []):=by intro _;rfl):PG X (.Subscript o i pos) (gSub b c t):=by
 intro a s σ H v u Q I r h;rw[f];refine B16 (B27 (thn (d a s σ H _ I h) λov s1 ⟨x,H1,I1,r1,q1⟩=>?_));refine B16 (B27 (thn (hi a s1 σ H1 _ I1 q1) λiv s2 ⟨y,H2,I2,r2,q2⟩=>?_));refine B16 (B72 (B16 (B27 (thn (e a s2 σ H2 x y v ov iv u _ I2 r1 r2 r q2) λ_ s3 ⟨H3,I3,q3⟩=>?_))));exact wpAny_release ⟨σ,H3,I3,q3⟩
def tAsg (te:TE)(g:TG):TS:=λD σ H=>te σ H λx H1=>g x σ H1 D.nx
theorem qTA {a e:Expr}{c:TE}{g:TG}(f:PE X e c)(d:PG X a g)(i:swapsWithSole [a] e pos.line X.env=pure false:=by rfl)(k:swappedStores [a] e X.env=pure none:=by rfl)
  (j:(B70 [a] X.env).map (·.2)=[assign a X.env]:=by rfl):PS X (.Assign [a] e pos) (tAsg c g):=by
 intro b s σ H D I h;refine wpAny_Assign_stores (thn (f b s σ H _ I h) λv s1 ⟨x,H1,I1,r1,q1⟩=>?_) i k;rw[j];exact thn (d b s1 σ H1 x v _ I1 r1 q1) λ_ l q=>q
theorem qAF {i:Nat}{x:Str}{e:Expr}{b:TE}{a:Pos}(d:X.N.Nodup)(hi:X.N[i]?=some x)(l:Loc X.env.scope x)(k:PE X e b)(g:swapsWith e (some (.Name x a)) pos.line X.env=pure false:=by rfl)(j:X.fn x=true\/X.env.scope.names.lookup x=some .local:=by first|exact .inl rfl|exact .inr rfl|assumption):
  PS X (.Assign [.Name x a] e pos) (tAsg b (qSB i)):=by
 intro c s σ H D I h;refine wpAny_Assign_Name (thn (k c s σ H _ I h) λv s1 ⟨y,H1,I1,r1,q1⟩=>?_) g;exact qLD I1 d hi l r1 (λm f=>⟨_,H1,f,q1⟩) j
def tAug (i:Nat)(te:TE)(ti:TIp):TS:=λD σ H=>∃x,σ[i]?=some (some x)/\te σ H λy H1=>ti x y H1 λz H2=>D.nx (σ.set i (some z)) H2
theorem qbC {i:Nat}{x:Str}{e:Expr}{j:TE}{op:Operator}{n:TIp}{b:Pos}(hN:X.N.Nodup)(hi:X.N[i]?=some x)(f:Loc X.env.scope x)(he:PE X e j)(ho:PIp X op n)(hf:X.fn x=true\/X.env.scope.names.lookup x=some .local:=by first|exact .inl rfl|exact .inr rfl|assumption):
  PS X (.AugAssign (.Name x b) op e pos) (tAug i j n):=by
 intro d s σ H D I h;obtain⟨v,p,h⟩:=h;obtain⟨m,hn,hl⟩:=I.loc;have g:Vis X.env.scope x:=by rcases f with k|k;exact .inl k;exact .inr (.inl k)
 obtain⟨u,r,l⟩:=hl i x v hi p g;refine wpAny_AugAssign_Name ?_;have o:wpAny (model X.prog X.w) X.A (eval e X.env) (λw q=>wpAny (model X.prog X.w) X.A (inplaceOp op u w) (λr s₃=>wpAny (model X.prog X.w) X.A (storeName X.env x r) (λ_=>SP X d D .next) X.xe s₃) X.xe q) X.xe s:=by
  refine thn (he d s σ H _ I h) λw s1 ⟨y,H1,I1,r1,q1⟩=>?_;refine thn (ho d s1 σ H1 v y u w _ I1 r r1 q1) λz s2 ⟨zv,H2,I2,r2,q2⟩=>?_;exact qLD I2 hN hi f r2 (λs3 I3=>⟨_,H2,I3,q2⟩) hf
 rcases l with⟨hk,t⟩|⟨hk,c,hc,a⟩
 ·exact wpAny_loadName_local I.ok.kind hk hn t o
 ·rcases hk with hk|hk
  ·exact wpAny_loadName_cell I.ok.kind hk hc a o
  ·rcases f with k|k
   ·have:X.env.scope.names.lookup x=some .free:=hk;rw[k] at this;cases this
   ·have:X.env.scope.names.lookup x=some .free:=hk;rw[k] at this;cases this
def ipI (f:Int->Int->Int):TIp:=λx y H Q=>∃i j,x=.int i/\y=.int j/\Q (.int (f i j)) H
theorem qbZ:PIp X .Add (ipI λi j=>i+j):=by
 intro e s σ H x y v u Q I c b h;obtain⟨i,j,a,d,q⟩:=h;subst a;subst d;obtain⟨t,rfl⟩:=c;obtain⟨f,rfl⟩:=b;exact iadd_int ⟨.int _,H,I.tok _,⟨_,rfl⟩,q⟩
def qaT (c:TT)(tb:TS):TS:=λD σ H=>∃W:Nat->St->Hp->Prop,(∃m,W m σ H)/\∀m σ H,W m σ H->
 c σ H λb H1=>if b=true then∃N:St->Hp->Prop,(∀σ' H',N σ' H'->∃m',m'<m/\W m' σ' H')/\tb {D with nx:=N,ct:=N,bk:=D.nx} σ H1 else D.nx σ H1
theorem qGT {c:Expr}{body:List Stmt}{r:TT}{o:TS}(q:PassesOwn (model X.prog X.w) X.A X.env X.xe)(y:PT X c r)(u:PSs X body o):PS X (.While c body [] pos) (qaT r o):=by
 intro g s σ H D I h;obtain⟨W,⟨x,t⟩,d⟩:=h;refine wpAny_While (codeAny_whileLoop (λn z=>∃σ' H',Inv X g σ' H' z/\W n σ' H') ?_ x ⟨σ,H,I,t⟩);rintro n s1 ⟨σ1,H1,I1,w1⟩;refine B49 q (thn (y g s1 σ1 H1 _ I1 (d n σ1 H1 w1)) λb s2 ⟨H2,I2,q2⟩=>?_);cases b with
 |true=>
  obtain⟨N,p,q2⟩:=q2;rw[if_pos rfl];refine B49 q (thn (u g s2 σ1 H2 _ I2 q2) λf s3 e=>?_);cases f with
  |next=>
   obtain⟨σ3,a,k,i⟩:=e;obtain⟨l,j,m⟩:=p σ3 a i;exact⟨l,j,σ3,a,k,m⟩
  |cont=>
   obtain⟨σ3,a,k,i⟩:=e;obtain⟨l,j,m⟩:=p σ3 a i;exact⟨l,j,σ3,a,k,m⟩
  |brk=>exact e
  |ret v=>exact e
 |false=>
  rw[if_neg B1];exact B89 ⟨σ1,H2,I2,q2⟩
end
structure It where
 go:Nat->Hp->Prop
 yld:Nat->Hp->V->Hp->Prop
 stop:Nat->Hp->Prop
def FpOk (X:Cx)(Ab:List (Addr×Obj))(H:Hp)(b:Addr):Prop:=
 H b=none/\b≠X.env.locals/\b∉X.fs/\(b∈X.ex\/X.s₀.heap.objs.size<=b)/\(∀x c,X.env.cells.lookup x=some c->c≠b)/\∀p∈X.pn++Ab,p.1≠b
theorem Inv.fpOk {X:Cx}{Ab:List (Addr×Obj)}{σ:St}{H H':Hp}{s:Shared}{b:Addr}(I:Inv X Ab σ H s)(a:s.heap.objs.size<=b)(f:H' b=none):FpOk X Ab H' b:=by
 refine⟨f,V5 (D4 I.lt a),I.nofs a,.inr (F3 I.sz a),λx c e z=>?_,λp d z=>?_⟩
 ·obtain⟨v,q⟩:=I.cell x c e;exact absurd (D4 q.lt (by rw[z];exact a)) (O2 _)
 ·exact absurd (D4 (B7 (I.pin p d).1) (by rw[z];exact a)) (O2 _)
structure Turn (P:B20)(w:World)(K:PySem.W.Frag)(tg:Expr)(J:It)(fp:List Addr)(it:Addr)(tn:Nat->Heap->Prop):Prop where
 mem:it∈fp
 obj:∀i h,tn i h->∀b∈fp,∃o,h.get? b=some o/\∀v,o.data≠.cell v
 keep:∀i h h',tn i h->(∀b∈fp,∀o,h.get? b=some o->h'.get? b=some o)->tn i h'
 item:∀(X:Cx),X.prog=P->X.w=w->X.K=K->X.calm=true->∀(i:Nat) (Ab:List (Addr×Obj)) (s:Shared) (σ:St) (H:Hp) (E:Value->Shared->Prop),Inv X Ab σ H s->(∀b∈fp,FpOk X Ab H b)->tn i s.heap->J.go i H->
  wpAny (model P w) X.A (pyNext (.ref it)) (fun r s1=>∃ u,r=some u/\
   wpAny (model P w) X.A (B90 tg (.ref it) u) (λ_ s2=>∃x H',Inv X Ab σ H' s2/\RelV x u/\J.yld i H x H'/\tn (i+1) s2.heap/\∀b∈fp,H' b=none) E s1) E s
 done:∀(X:Cx),X.prog=P->X.w=w->X.K=K->X.calm=true->∀(i:Nat) (Ab:List (Addr×Obj)) (s:Shared) (σ:St) (H:Hp) (E:Value->Shared->Prop),Inv X Ab σ H s->(∀b∈fp,FpOk X Ab H b)->tn i s.heap->J.stop i H->
  wpAny (model P w) X.A (pyNext (.ref it)) (λr s1=>r=none/\Inv X Ab σ H s1) E s
 self:∀(A:Around) (i:Nat) (s:Shared) (Q:Value->Shared->Prop) (E:Value->Shared->Prop),tn i s.heap->Q (.ref it) s->wpAny (model P w) A (pyIter (.ref it)) Q E s
abbrev TI:=St->Hp->(It->Hp->Prop)->Prop
def PIE (X:Cx)(Ab:List (Addr×Obj))(σ:St)(tg:Expr)(R:It->Hp->Prop)(itv:Value)(s2:Shared):Prop:=
 ∃(it:Addr) (fp:List Addr) (tn:Nat->Heap->Prop) (J:It) (H':Hp),itv=.ref it/\Inv X Ab σ H' s2/\Turn X.prog X.w X.K tg J fp it tn/\tn 0 s2.heap/\(∀b∈fp,FpOk X Ab H' b)/\R J H'
def PI (X:Cx)(tg iter:Expr)(wi:TI):Prop:=
 ∀(Ab:List (Addr×Obj)) (s:Shared) (σ:St) (H:Hp) (R:It->Hp->Prop),Inv X Ab σ H s->wi σ H R->
  wpAny (model X.prog X.w) X.A (eval iter X.env) (λv s1=>wpAny (model X.prog X.w) X.A (pyIter v) (PIE X Ab σ tg R) X.xe s1) X.xe s
theorem qSA {M:Model}{A:Around}{E:Value->Shared->Prop}{s:Shared}{c:Expr}{b:Addr}{u:Value}{o:Obj}{n:String}{vs:Array Value}{Q:Unit->Shared->Prop}(f:s.heap.get? b=some o)(e:o.cls=.type n)(d:o.data=.fields vs)
  (g:["enumerate","zip","dict_itemiterator","dict_reverseitemiterator","odict_iterator","itertools.zip_longest","itertools.pairwise"].contains n=false) (a:Q () s):wpAny M A (B90 c (.ref b) u) Q E s:=by
 unfold B90;cases c<;>first
  |exact B17 a
  | (cases u <;> first
    |exact B17 a
    | (refine B16 (wpAny_load f ?_)
       rw[e,d];show wpAny M A (if(["enumerate","zip","dict_itemiterator","dict_reverseitemiterator","odict_iterator","itertools.zip_longest","itertools.pairwise"].contains n&&vs[0]? == some (rawInt _))=true then _ else _) Q E s
       rw[if_neg (by intro h;rw[g,o8] at h;cases h)]
       exact B17 a))
def Itl (K:PySem.W.Frag)(a:Addr):It:=
 ⟨λi H=>∃xs x,SqL K H a xs/\xs[i]?=some x,λi H x H'=>H'=H/\∀xs,SqL K H a xs->xs[i]?=some x,λi H=>∃xs,SqL K H a xs/\xs.length<=i⟩
def Itt (K:PySem.W.Frag)(a:Addr):It:=
 ⟨λi H=>∃xs x,SqT K H a xs/\xs[i]?=some x,λi H x H'=>H'=H/\∀xs,SqT K H a xs->xs[i]?=some x,λi H=>∃xs,SqT K H a xs/\xs.length<=i⟩
def Itr (lo:Int)(n:Nat):It:=⟨λi _=>i<n,λi H x H'=>H'=H/\x=.int (lo+i),λi _=>n<=i⟩
theorem qMX {P:B20}{w:World}{K:PySem.W.Frag}{tg:Expr}(a j:Addr):Turn P w K tg (Itl K a) [j] j (λi h=>h.IsListIter j a i) where
 mem:=by simp
 obj:=λi h f b g=>by
  have e:b=j:=by simpa using g
  subst e;obtain⟨o,e,c,d⟩:=f;exact⟨o,e,λv z=>by rw[d] at z;cases z⟩
 keep:=λi h m f k=>f.at λo e=>k j (by simp) o e
 item:=by
  intro X r hw t hc i Ab s σ H E I q f hg;subst r hw t;obtain⟨xs,x,n,hx⟩:=hg;obtain⟨a0,rv,p,hz⟩:=I.list n;obtain⟨u,hu,ru⟩:=rv.get hx;obtain⟨y,f1,f2,f3,f4,f5⟩:=q j (by simp)
  refine B81 f p.isList (x:=u) (by simpa using hu) λm l sb=>?_
  have I1:Inv X Ab σ H {s with heap:=m}:=I.turned (t':=s.toks) (λb o g e=>(sb.2 b g).trans e) y f1 f3 f4 f5;obtain⟨o,e,c,d⟩:=id l;exact⟨u,rfl,qSA (s:={s with heap:=m}) e c d (by decide) ⟨x,H,I1,ru,⟨rfl,λys hy=>by rw[I.list_inj hy n];exact hx⟩,l,λb g=>(q b g).1⟩⟩
 done:=by
  intro X r hw t hc i Ab s σ H E I q f hg;subst r hw t;obtain⟨xs,n,hx⟩:=hg;obtain⟨a0,rv,p,hz⟩:=I.list n;obtain⟨y,f1,f2,f3,f4,f5⟩:=q j (by simp)
  have hl:=rv.length;exact B87 (I.ok.hd hc) f p.isList (by simp;lia) λm eb=>⟨rfl,I.turned (t':=s.toks) (λb o g e=>eb b o g e) y f1 f3 f4 f5⟩
 self:=λ_ _ _ _ _ f h=>wpAny_pyIter_listiter f h
theorem qKF {P:B20}{w:World}{K:PySem.W.Frag}{tg:Expr}(a j:Addr):Turn P w K tg (Itt K a) [j] j (λi h=>h.IsTupleIter j a i) where
 mem:=by simp
 obj:=λi h f b g=>by
  have e:b=j:=by simpa using g
  subst e;obtain⟨o,e,c,d⟩:=f;exact⟨o,e,λv z=>by rw[d] at z;cases z⟩
 keep:=λi h n f k=>f.at λo e=>k j (by simp) o e
 item:=by
  intro X t hw y hc i Ab s σ H E I r f hg;subst t hw y;obtain⟨xs,x,q,hx⟩:=hg;obtain⟨l,rv,p,hz⟩:=I.tuple q;obtain⟨u,hu,ru⟩:=rv.get hx;obtain⟨f0,f1,f2,f3,f4,f5⟩:=r j (by simp)
  refine wpAny_pyNext_tuple_item f (show s.heap.IsTuple a l.toArray from p) (x:=u) (by simpa using hu) λn m sb=>?_
  have I1:Inv X Ab σ H {s with heap:=n}:=I.turned (t':=s.toks) (λb o g e=>(sb.2 b g).trans e) f0 f1 f3 f4 f5;obtain⟨o,e,c,d⟩:=id m;exact⟨u,rfl,qSA (s:={s with heap:=n}) e c d (by decide) ⟨x,H,I1,ru,⟨rfl,λys hy=>by rw[I.tuple_inj hy q];exact hx⟩,m,λb g=>(r b g).1⟩⟩
 done:=by
  intro X t hw y hc i Ab s σ H E I r f hg;subst t hw y;obtain⟨xs,q,hx⟩:=hg;obtain⟨l,rv,p,hz⟩:=I.tuple q;obtain⟨f0,f1,f2,f3,f4,f5⟩:=r j (by simp)
  have hl:=rv.length;exact wpAny_pyNext_tuple_end (I.ok.hd hc) f (show s.heap.IsTuple a l.toArray from p) (by simp;lia) λn eb=>⟨rfl,I.turned (t':=s.toks) (λb o g e=>eb b o g e) f0 f1 f3 f4 f5⟩
 self:=λ_ _ _ _ _ f h=>wpAny_pyIter_tupleiter f h
theorem qRL {P:B20}{w:World}{K:PySem.W.Frag}{tg:Expr}(c:Addr)(lo:Int)(n:Nat):Turn P w K tg (Itr lo n) [c] c (λi h=>IsRangeIter h c (lo+(i:Nat)*1) ((n:Int)-(i:Nat)) 1) where
 mem:=by simp
 obj:=λi h a b d=>by
  have e:b=c:=by simpa using d
  subst e;exact⟨_,a,λv z=>by
   have z':A31 _=A77 v:=z;cases z'⟩
 keep:=λi h g a k=>k c (by simp) _ a
 item:=by
  intro X l q hK p i Ab s σ H E I j a x;subst l q hK;obtain⟨m,r,f2,u,y,f5⟩:=j c (by simp)
  have W:=Walks.range (prog:=X.prog) (w:=X.w) (I.ok.hd p) c lo 1 n;refine W.item i s _ _ x a λv g tk hv f kk=>?_;obtain⟨t,rfl⟩:=hv;have I1:Inv X Ab σ H {s with heap:=g,toks:=tk}:=I.turned (λb o d e=>kk b o (by simpa using d) e) m r u y f5
  refine⟨_,rfl,qSA (s:={s with heap:=g,toks:=tk}) (n:="range_iterator") f rfl rfl (by decide) ⟨.int (lo+i),H,I1,⟨t,?_⟩,⟨rfl,rfl⟩,f,λb d=>(j b d).1⟩⟩
  rw[Int.mul_one]
 done:=by
  intro X l q hK p i Ab s σ H E I j a x;subst l q hK;obtain⟨m,r,f2,u,y,f5⟩:=j c (by simp)
  exact wpAny_pyNext_range_end (I.ok.hd p) a (by have:n<=i:=x;lia) λg eb=>⟨rfl,I.turned (t':=s.toks) (λb o d e=>eb b o d e) m r u y f5⟩
 self:=λ_ _ _ _ _ a h=>wpAny_pyIter_rangeiter a h
section
variable{X:Cx}{tg:Expr}
def qdI (K:PySem.W.Frag)(tl:TE):TI:=λσ H R=>tl σ H λx H1=>∃a,x=.ref a/\(∃xs,SqL K H1 a xs)/\R (Itl K a) H1
def iTup (K:PySem.W.Frag)(tl:TE):TI:=λσ H R=>tl σ H λx H1=>∃a,x=.ref a/\(∃xs,SqT K H1 a xs)/\R (Itt K a) H1
theorem qCS {l:Expr}{c:TE}(i:PE X l c):PI X tg l (qdI X.K c):=by
 intro d s σ H R I h;refine thn (i d s σ H _ I h) λv s1 ⟨x,H1,I1,r1,q1⟩=>?_;obtain⟨a,e,⟨m,g⟩,q⟩:=q1;subst e;cases r1;obtain⟨j,k,p,n⟩:=I1.list g;refine B40 p.isList ?_;refine⟨s1.heap.objs.size,[s1.heap.objs.size],_,_,H1,rfl,I1.kept (t':=s1.toks) λb o e=>A5 _ e,qMX a _,⟨_,B4 _ rfl,rfl,rfl⟩,λb f=>?_,q⟩;have e:b=s1.heap.objs.size:=by simpa using f
 subst e;exact I1.fpOk (A7 _) (I1.hok.fresh (A7 _))
theorem qE5 {l:Expr}{d:TE}(j:PE X l d):PI X tg l (iTup X.K d):=by
 intro f s σ H R I h;refine thn (j f s σ H _ I h) λv s1 ⟨x,H1,I1,r1,q1⟩=>?_;obtain⟨a,e,⟨m,i⟩,q⟩:=q1;subst e;cases r1;obtain⟨c,k,p,n⟩:=I1.tuple i;refine wpAny_pyIter_tuple (show s1.heap.IsTuple a c.toArray from p) ?_;refine⟨s1.heap.objs.size,[s1.heap.objs.size],_,_,H1,rfl,I1.kept (t':=s1.toks) λb o e=>A5 _ e,qKF a _,⟨_,B4 _ rfl,rfl,rfl⟩,λb g=>?_,q⟩;have e:b=s1.heap.objs.size:=by simpa using g
 subst e;exact I1.fpOk (A7 _) (I1.hok.fresh (A7 _))
theorem range_it {Ab:List (Addr×Obj)}{σ:St}{H:Hp}{s:Shared}{R:It->Hp->Prop}{E:Value->Shared->Prop}{lo hi:Int}{t u v:Tok}{tk:Nat}(I:Inv X Ab σ H s)(i : -(2^62)<=lo)(f:lo<2^62)(h : -(2^62)<=hi)(g:hi<2^62)
  (q:R (Itr lo (hi-lo).toNat) H):wpAny (model X.prog X.w) X.A (pyIter (.ref s.heap.objs.size)) (PIE X Ab σ tg R) E {s with heap:=s.heap.push {cls:=.type "range",data:=.fields #[.int lo t,.int hi u,.int 1 v]},toks:=tk}:=by
 refine wpAny_pyIter_range (B12 ..) (small_one i f h g) ?_;have a:Inv X Ab σ H {s with heap:=s.heap.push {cls:=.type "range",data:=.fields #[.int lo t,.int hi u,.int 1 v]},toks:=tk}:=I.kept λb o e=>A5 _ e;refine⟨(s.heap.push {cls:=.type "range",data:=.fields #[.int lo t,.int hi u,.int 1 v]}).objs.size,[(s.heap.push {cls:=.type "range",data:=.fields #[.int lo t,.int hi u,.int 1 v]}).objs.size],_,_,H,rfl,
  a.kept (t':=tk) λb o e=>A5 _ e,qRL _ lo (hi-lo).toNat,?_,λb d=>?_,q⟩
 ·have c:lo+((0:Nat):Int)*1=lo:=by simp
  have j:(((hi-lo).toNat:Nat):Int)-((0:Nat):Int)=Q3 lo hi 1:=by rw[rangeSize_one];split<;>lia
  show IsRangeIter _ _ (lo+((0:Nat):Int)*1) ((((hi-lo).toNat:Nat):Int)-((0:Nat):Int)) 1;rw[c,j];exact B4 _ rfl
 ·have e:b=(s.heap.push {cls:=.type "range",data:=.fields #[.int lo t,.int hi u,.int 1 v]}).objs.size:=by simpa using d
  subst e;exact a.fpOk (A7 _) (a.hok.fresh (A7 _))
def qdH (ta:TA):TI:=λσ H R=>ta σ H λvs H1=>∃j:Int,vs=[.int j]/\-(2^62)<=j/\j<2^62/\R (Itr 0 j.toNat) H1
theorem qAY {a:Expr} {b:TA} {p pos:Pos} (d:Gl X "range") (f:X.mg "range" = none) (k:PA X [a] b) (g:B24 [a] X.env=[(false,eval a X.env)]:=by rfl):PI X tg (.Call (.Name "range" p) [a] [] pos) (qdH b):=by
 intro c s σ H R I h;refine Call_ (qGZ I d f boot_range (K9 (thn (k pos c s σ H _ I h) λus s1 ⟨vs,H1,I1,r1,q1⟩=>?_) g rfl));obtain⟨j,e,q1,i,q⟩:=q1;subst e;cases r1 with
 |cons r rr=>
  cases rr;obtain⟨t,rfl⟩:=r;exact call_range_1 (range_it I1 (by lia) (by lia) q1 i (by simpa using q))
def tFor (wi:TI)(g:TG)(tb:TS):TS:=λD σ H=>wi σ H λJ H1=>∃W:Nat->Nat->St->Hp->Prop,(∃m,W 0 m σ H1)/\∀i m σ H,W i m σ H->
 (J.stop i H/\D.nx σ H)\/(J.go i H/\∃N:St->Hp->Prop,(∀σ' H',N σ' H'->∃m',m'<m/\W (i+1) m' σ' H')/\∀x H',J.yld i H x H'->g x σ H' λσ2 H2=>tb {D with nx:=N,ct:=N,bk:=D.nx} σ2 H2)
noncomputable def qKN (fp:List Addr)(h:Heap):List (Addr×Obj):=fp.filterMap λb=>(h.get? b).map λo=>(b,o)
theorem qD9 {a:List Addr}{h:Heap}{b:Addr}{o:Obj}(c:b∈a)(e:h.get? b=some o):(b,o)∈qKN a h:=Y6.mpr ⟨b,c,by rw[e];rfl⟩
theorem qTV {a:List Addr}{h:Heap}{p:Addr×Obj}(c:p∈qKN a h):p.1∈a/\h.get? p.1=some p.2:=by
 obtain⟨b,d,e⟩:=Y6.mp c;cases q:h.get? b with
 |none=>rw[q] at e;cases e
 |some o=>
  rw[q] at e;have f:(b,o)=p:=D5 e;subst f;exact⟨d,q⟩
theorem Inv.pinned {Ab:List (Addr×Obj)}{σ:St}{H:Hp}{s:Shared}{a:List Addr}(I:Inv X Ab σ H s)(i:∀b∈a,FpOk X Ab H b)(j:∀b∈a,∃o,s.heap.get? b=some o/\∀v,o.data≠.cell v):Inv X (Ab++qKN a s.heap) σ H s:=
 I.pins_of λp k=>(A8.mp k).elim (λz=>I.pin p (E4 _ z)) λz=>by
  obtain⟨c,e⟩:=qTV z;obtain⟨l,h,g,_⟩:=i p.1 c;obtain⟨o,f,d⟩:=j p.1 c;rw[e] at f;cases f;exact⟨e,l,h,g,d⟩
theorem Inv.unpinned {Ab b:List (Addr×Obj)}{σ:St}{H:Hp}{s:Shared}(I:Inv X (Ab++b) σ H s):Inv X Ab σ H s:=I.pins_of λp a=>I.pin p (E4 _ (j4 _ a))
theorem qBX {l:Expr}{body:List Stmt}{wi:TI}{g:TG}{tb:TS}{pos:Pos}(z:PassesOwn (model X.prog X.w) X.A X.env X.xe)(hc:X.calm=true)(hi:PI X tg l wi)(hg:PG X tg g)(a:PSs X body tb)
  (hs:∀x,B54 l X.env x=pure x:=by intro _;rfl):PS X (.For tg l body [] pos) (tFor wi g tb):=by
 intro q s σ H D I h;refine wpAny_For (thn (hi q s σ H _ I h) λv s1 h1=>thn h1 λa4 s2 h2=>?_) hs;obtain⟨it,y,tn,J,H2,e,I2,T,a2,f2,W,⟨m0,w0⟩,a0⟩:=h2;subst e
 -- what stays true of the iterator's objects through the loop
 have j:∀{H':Hp},(∀b∈y,H' b=none)->∀b∈y,FpOk X q H' b:=λhn b a=>⟨hn b a,(f2 b a).2⟩;refine codeAny_forLoop_any (λn s'=>∃i σ' H',Inv X q σ' H' s'/\tn i s'.heap/\(∀b∈y,H' b=none)/\W i n σ' H') ?_ m0 ⟨0,σ,H2,I2,a2,λb a=>(f2 b a).1,w0⟩;rintro n s3 ⟨i,σ3,H3,I3,st3,fr3,w3⟩;rcases a0 i n σ3 H3 w3 with⟨t,qn⟩|⟨go,N,hN,a1⟩
 ·refine B49 z (thn (T.done X rfl rfl rfl hc i q s3 σ3 H3 X.xe I3 (j fr3) st3 t) λr s4 ⟨hr,I4⟩=>?_);subst hr;exact B89 ⟨σ3,H3,I4,qn⟩
 ·refine B49 z (thn (T.item X rfl rfl rfl hc i q s3 σ3 H3 X.xe I3 (j fr3) st3 go) λr s4 ⟨u,hr,h4⟩=>?_);subst hr;refine B49 z (thn h4 λ_ s5 ⟨x,H5,I5,r5,y5,st5,fr5⟩=>?_);have a3:=I5.pinned (j fr5) (T.obj _ _ st5);refine B49 z (thn (hg _ s5 σ3 H5 x u _ a3 r5 (a1 x H5 y5)) λ_ s6 ⟨σ6,H6,I6,q6⟩=>?_);refine B49 z (thn (a _ s6 σ6 H6 _ I6 q6) λf s7 p=>?_);have k:∀{σ7:St} {H7:Hp},Inv X (q++qKN y s5.heap) σ7 H7 s7->N σ7 H7->∃m,m<n/\∃i σ' H',Inv X q σ' H' s7/\tn i s7.heap/\(∀b∈y,H' b=none)/\W i m σ' H':=λ{σ7 H7} c n7=>by
   obtain⟨m',hm,w7⟩:=hN σ7 H7 n7;refine⟨m',hm,i+1,σ7,H7,c.unpinned,T.keep _ _ _ st5 λb a o e=>(c.pin (b,o) (E4 _ (E4 _ (qD9 a e)))).1,λb a=>?_,w7⟩;obtain⟨o,e,d⟩:=T.obj _ _ st5 b a;exact(c.pin (b,o) (E4 _ (E4 _ (qD9 a e)))).2.1
  cases f with
  |next=>obtain⟨σ7,H7,c,n7⟩:=p;exact k c n7
  |cont=>obtain⟨σ7,H7,c,n7⟩:=p;exact k c n7
  |brk=>obtain⟨σ7,H7,c,p⟩:=p;exact⟨σ7,H7,c.unpinned,p⟩
  |ret v=>obtain⟨x7,σ7,H7,c,r7,p⟩:=p;exact⟨x7,σ7,H7,c.unpinned,r7,p⟩
end
abbrev ForG (I:It)(g:TG)(tb:TS)(D:Ends)(σ:St)(H:Hp):Prop:=∃W:Nat->Nat->St->Hp->Prop,(∃m,W 0 m σ H)/\∀i m σ H,W i m σ H->(I.stop i H/\D.nx σ H)\/(I.go i H/\∃N:St->Hp->Prop,(∀σ' H',N σ' H'->∃m',m'<m/\W (i+1) m' σ' H')/\∀x H',I.yld i H x H'->g x σ H' λσ2 H2=>tb {D with nx:=N,ct:=N,bk:=D.nx} σ2 H2)
theorem qIS {K:PySem.W.Frag}{a:Addr}{xs:List V}{g:TG}{c:TS}{D:Ends}{σ:St}{H:Hp}(Pv:Nat->St->Hp->Prop)(l:Pv 0 σ H)(j:∀i σ H,i<=xs.length->Pv i σ H->SqL K H a xs)
  (k:∀i x σ H,xs[i]?=some x->Pv i σ H->g x σ H λσ2 H2=>c {D with nx:=Pv (i+1),ct:=Pv (i+1),bk:=D.nx} σ2 H2) (d:∀σ H,Pv xs.length σ H->D.nx σ H):
  ForG (Itl K a) g c D σ H:=by
 refine⟨λi m σ H=>m=xs.length-i/\i<=xs.length/\Pv i σ H,⟨xs.length,by simp,E8 _,l⟩,?_⟩
 rintro i m σ H ⟨rfl,hi,p⟩;have q:=j i σ H hi p;by_cases b:i<xs.length
 ·refine .inr ⟨⟨xs,xs[i],q,by simp[b]⟩,Pv (i+1),λσ' f h=>⟨xs.length-(i+1),by lia,rfl,b,h⟩,λx f y=>?_⟩
  obtain⟨e,y⟩:=y;subst e;exact k i x σ _ (y xs q) p
 ·have e:i=xs.length:=by lia
  subst e;exact .inl ⟨⟨xs,q,A7 _⟩,d σ H p⟩
theorem qHS {K:PySem.W.Frag}{a:Addr}{xs:List V}{g:TG}{c:TS}{D:Ends}{σ:St}{H:Hp}(Pv:Nat->St->Hp->Prop)(l:Pv 0 σ H)(j:∀i σ H,i<=xs.length->Pv i σ H->SqT K H a xs)
  (k:∀i x σ H,xs[i]?=some x->Pv i σ H->g x σ H λσ2 H2=>c {D with nx:=Pv (i+1),ct:=Pv (i+1),bk:=D.nx} σ2 H2) (d:∀σ H,Pv xs.length σ H->D.nx σ H):
  ForG (Itt K a) g c D σ H:=by
 refine⟨λi m σ H=>m=xs.length-i/\i<=xs.length/\Pv i σ H,⟨xs.length,by simp,E8 _,l⟩,?_⟩
 rintro i m σ H ⟨rfl,hi,p⟩;have q:=j i σ H hi p;by_cases b:i<xs.length
 ·refine .inr ⟨⟨xs,xs[i],q,by simp[b]⟩,Pv (i+1),λσ' f h=>⟨xs.length-(i+1),by lia,rfl,b,h⟩,λx f y=>?_⟩
  obtain⟨e,y⟩:=y;subst e;exact k i x σ _ (y xs q) p
 ·have e:i=xs.length:=by lia
  subst e;exact .inl ⟨⟨xs,q,A7 _⟩,d σ H p⟩
theorem qFI {lo:Int}{n:Nat}{g:TG}{b:TS}{D:Ends}{σ:St}{H:Hp}(Pv:Nat->St->Hp->Prop)(j:Pv 0 σ H)
  (h:∀i σ H,i<n->Pv i σ H->g (.int (lo+i)) σ H λσ2 H2=>b {D with nx:=Pv (i+1),ct:=Pv (i+1),bk:=D.nx} σ2 H2) (c:∀σ H,Pv n σ H->D.nx σ H):
  ForG (Itr lo n) g b D σ H:=by
 refine⟨λi m σ H=>m=n-i/\i<=n/\Pv i σ H,⟨n,by simp,E8 _,j⟩,?_⟩
 rintro i m σ H ⟨rfl,hi,p⟩;by_cases a:i<n
 ·refine .inr ⟨a,Pv (i+1),λσ' d f=>⟨n-(i+1),by lia,rfl,a,f⟩,λx d y=>?_⟩
  obtain⟨e,y⟩:=y;subst e y;exact h i σ _ a p
 ·have e:i=n:=by lia
  subst e;exact .inl ⟨A7 _,c σ H p⟩
abbrev R2:=V->V->Hp->VK->Prop
def OpR (X:Cx)(f:Value->Value->Sem Value)(r:R2):Prop:=
 ∀(Ab:List (Addr×Obj)) (s:Shared) (σ:St) (H:Hp) (x y:V) (v u:Value) (Q:VK),Inv X Ab σ H s->RelV x v->RelV y u->r x y H Q->
  wpAny (model X.prog X.w) X.A (f v u) (EP X Ab σ Q) X.xe s
def UnR (X:Cx)(f:Value->Sem Value)(r:V->Hp->VK->Prop):Prop:=
 ∀(Ab:List (Addr×Obj)) (s:Shared) (σ:St) (H:Hp) (x:V) (v:Value) (Q:VK),Inv X Ab σ H s->RelV x v->r x H Q->
  wpAny (model X.prog X.w) X.A (f v) (EP X Ab σ Q) X.xe s
def qCF (X:Cx)(f:Value)(r:List V->Hp->VK->Prop):Prop:=
 ∀(Ab:List (Addr×Obj)) (s:Shared) (σ:St) (H:Hp) (xs:List V) (us:List Value) (Q:VK),Inv X Ab σ H s->Vals xs us->r xs H Q->
  wpAny (model X.prog X.w) X.A (call f us) (EP X Ab σ Q) X.xe s
def TruR (X:Cx)(r:V->Hp->(Bool->Hp->Prop)->Prop):Prop:=
 ∀(Ab:List (Addr×Obj)) (s:Shared) (σ:St) (H:Hp) (x:V) (v:Value) (Q:Bool->Hp->Prop),Inv X Ab σ H s->RelV x v->r x H Q->
  wpAny (model X.prog X.w) X.A (truthy v) (TP X Ab σ Q) X.xe s
def tOp (r:R2)(ta tb:TE):TE:=λσ H Q=>ta σ H λx H1=>tb σ H1 λy H2=>r x y H2 Q
def tUn (r:V->Hp->VK->Prop)(ta:TE):TE:=λσ H Q=>ta σ H λx H1=>r x H1 Q
def rI (C:Int->Int->Prop)(g:Int->Int->V):R2:=λx y H Q=>∃i j,x=.int i/\y=.int j/\C i j/\Q (g i j) H
def rI0 (g:Int->Int->V):R2:=λx y H Q=>∃i j,x=.int i/\y=.int j/\Q (g i j) H
def rU (g:Int->V):V->Hp->VK->Prop:=λx H Q=>∃i,x=.int i/\Q (g i) H
section
variable{X:Cx}{a b c:Expr}{ta tb tc:TE}{pos:Pos}
theorem binT (e:PE X a ta)(c:PE X b tb){Ab:List (Addr×Obj)}{s:Shared}{σ:St}{H:Hp}{R:V->V->Hp->Prop}(I:Inv X Ab σ H s)
  (h:ta σ H λx H1=>tb σ H1 λy H2=>R x y H2) {Q:Value->Shared->Prop} {f:Value->Value->Sem Value}
  (d:∀v u s2 x y H2,Inv X Ab σ H2 s2->RelV x v->RelV y u->R x y H2->wpAny (model X.prog X.w) X.A (f v u) Q X.xe s2):
  wpAny (model X.prog X.w) X.A (eval a X.env) (λv s₁=>wpAny (model X.prog X.w) X.A (eval b X.env) (λu s₂=>wpAny (model X.prog X.w) X.A (f v u) Q X.xe s₂) X.xe s₁) X.xe s:=by
 refine thn (e Ab s σ H _ I h) λv s1 ⟨x,H1,I1,r1,q1⟩=>?_;refine thn (c Ab s1 σ H1 _ I1 q1) λu s2 ⟨y,H2,I2,r2,q2⟩=>?_;exact d v u s2 x y H2 I2 r1 r2 q2
theorem qAN {op:Operator}{r:R2}(j:OpR X (B43 op) r)(k:PE X a ta)(e:PE X b tb):PE X (.BinOp a op b pos) (tOp r ta tb):=by
 intro c s σ H Q I h;exact wpAny_BinOp (binT k e I h λv u d x y i f g l q=>j c d σ i x y v u Q f g l q)
theorem qWC {op:UnaryOp}{r:V->Hp->VK->Prop}(c:UnR X (unaryOp op) r)(d:PE X a ta):PE X (.UnaryOp op a pos) (tUn r ta):=by
 intro b s σ H Q I h;exact UnaryOp_ (thn (d b s σ H _ I h) λv s1 ⟨x,H1,I1,r1,q1⟩=>c b s1 σ H1 x v Q I1 r1 q1)
theorem opI {f:Value->Value->Sem Value}{C:Int->Int->Prop}{g:Int->Int->Int}
  (a:∀(i j:Int) (t u:Tok) (s:Shared) (Q:Value->Shared->Prop) (E:Value->Shared->Prop),C i j->Q (.int (g i j) s.toks) {s with toks:=s.toks+1}->wpAny (model X.prog X.w) X.A (f (.int i t) (.int j u)) Q E s):
  OpR X f (rI C λi j=>.int (g i j)):=by
 intro k s σ H x y v u Q I c e h;obtain⟨i,j,rfl,rfl,d,q⟩:=h;obtain⟨t,rfl⟩:=c;obtain⟨b,rfl⟩:=e;exact a i j t b s _ _ d ⟨.int (g i j),H,I.tok _,⟨_,rfl⟩,q⟩
theorem opI0 {f:Value->Value->Sem Value}{g:Int->Int->Int}
  (a:∀(i j:Int) (t u:Tok) (s:Shared) (Q:Value->Shared->Prop) (E:Value->Shared->Prop),Q (.int (g i j) s.toks) {s with toks:=s.toks+1}->wpAny (model X.prog X.w) X.A (f (.int i t) (.int j u)) Q E s):
  OpR X f (rI0 λi j=>.int (g i j)):=by
 intro e s σ H x y v u Q I c d h;obtain⟨i,j,rfl,rfl,q⟩:=h;obtain⟨t,rfl⟩:=c;obtain⟨b,rfl⟩:=d;exact a i j t b s _ _ ⟨.int (g i j),H,I.tok _,⟨_,rfl⟩,q⟩
theorem opB0 {f:Value->Value->Sem Value}{g:Int->Int->Bool}
  (a:∀(i j:Int) (t u:Tok) (s:Shared) (Q:Value->Shared->Prop) (E:Value->Shared->Prop),Q (.bool (g i j)) s->wpAny (model X.prog X.w) X.A (f (.int i t) (.int j u)) Q E s):
  OpR X f (rI0 λi j=>.bl (g i j)):=by
 intro e s σ H x y v u Q I c d h;obtain⟨i,j,rfl,rfl,q⟩:=h;obtain⟨t,rfl⟩:=c;obtain⟨b,rfl⟩:=d;exact a i j t b s _ _ ⟨.bl (g i j),H,I,rfl,q⟩
def CDiv (i j:Int):Prop:=0<j/\j<1073741824
def CPow (i j:Int):Prop:=0<=j/\j<=1000000/\i.natAbs<2^64
def CMul (i j:Int):Prop:=(-(2^64)<i/\i<2^64)\/(-(2^64)<j/\j<2^64)
theorem CMul.ok {i j:Int}(h:CMul i j):IntMulOk i j:=by
 rcases h with⟨a,b⟩|⟨a,b⟩
 ·exact .of_left (intBits_le_64 a b)
 ·exact .of_right (intBits_le_64 a b)
theorem qRK (k:Nat):(0:Int)<=2^k:=by
 rw[two_pow_cast];exact R5 _
theorem qDS:OpR X (B43 .Add) (rI0 λi j=>.int (i+j)):=opI0 λ_ _ _ _ _ _ _ q=>add_int q
theorem qDH:OpR X (B43 .Sub) (rI0 λi j=>.int (i-j)):=opI0 λ_ _ _ _ _ _ _ q=>sub_int q
theorem qJE:OpR X (B43 .Mult) (rI CMul λi j=>.int (i*j)):=opI λ_ _ _ _ _ _ _ a q=>mul_int q a.ok
theorem qP0:OpR X (B43 .FloorDiv) (rI CDiv λi j=>.int (i/j)):=opI λi j _ _ _ _ _ a q=>by
 have b:(0:Int)<j:=a.1;have c:j<1073741824:=a.2;exact floordiv_int (by lia) (by rw[W6 i (by lia)];exact q) (.inl (Z2 (by lia)))
theorem qJF:OpR X (B43 .Mod) (rI (λ_ j=>0<j) λi j=>.int (i%j)):=opI λi j _ _ _ _ _ a q=>by
 have b:(0:Int)<j:=a;exact mod_int' (by lia) (by rw[m6 i (by lia)];exact q)
theorem qbL:OpR X (B43 .Pow) (rI CPow λi j=>.int (i^j.toNat)):=opI λ_ _ _ _ _ _ _ a q=>pow_int_small a.1 a.2.1 a.2.2 q
theorem qNB:OpR X (B43 .LShift) (rI CPow λi j=>.int (i*2^j.toNat)):=opI λ_ _ _ _ _ _ _ a q=>lshift_int_small a.1 a.2.1 a.2.2 q
theorem qQS:OpR X (B43 .RShift) (rI (λ_ j=>0<=j) λi j=>.int (i/2^j.toNat)):=opI λi j _ _ _ _ _ a q=>
 rshift_int a (by rw[W6 i (qRK _)];exact q)
theorem qKP:OpR X (B43 .BitAnd) (rI0 λi j=>.int (M9 i j)):=opI0 λ_ _ _ _ _ _ _ q=>and_int q
theorem qd6:OpR X (B43 .BitOr) (rI0 λi j=>.int (A37 i j)):=opI0 λ_ _ _ _ _ _ _ q=>or_int q
theorem unI {f:Value->Sem Value}{g:Int->Int}
  (a:∀(i:Int) (t:Tok) (s:Shared) (Q:Value->Shared->Prop) (E:Value->Shared->Prop),Q (.int (g i) s.toks) {s with toks:=s.toks+1}->wpAny (model X.prog X.w) X.A (f (.int i t)) Q E s):
  UnR X f (rU λi=>.int (g i)):=by
 intro c s σ H x v Q I b h;obtain⟨i,rfl,q⟩:=h;obtain⟨t,rfl⟩:=b;exact a i t s _ _ ⟨.int (g i),H,I.tok _,⟨_,rfl⟩,q⟩
theorem qPZ:UnR X (unaryOp .USub) (rU λi=>.int (-i)):=unI λ_ _ _ _ _ q=>neg_int q
end
noncomputable def scal:V->V->Bool
 |.non,.non=>true|.non,.int _=>true|.int _,.non=>true|.non,.bl _=>true|.bl _,.non=>true|.non,.str _=>true|.str _,.non=>true
 |.int _,.int _=>true|.bl _,.bl _=>true|.str _,.str _=>true|.byt _,.byt _=>true
 |.int _,.str _=>true|.str _,.int _=>true|.bl _,.str _=>true|.str _,.bl _=>true
 |_,_=>false
def rEq:R2:=λx y H Q=>scal x y=true/\Q (.bl (decide (x=y))) H
def rNe:R2:=λx y H Q=>scal x y=true/\Q (.bl (!decide (x=y))) H
theorem qV9 {i j:Int}:decide (V.int i=V.int j)=(i==j):=by
 rw[J4];simp
theorem qYB {i j:Bool}:decide (V.bl i=V.bl j)=(i==j):=by
 rw[J4];simp
theorem qV8 {i j:Str}:decide (V.str i=V.str j)=(i==j):=by
 rw[J4];simp
theorem qVA {i j:Array UInt8}:decide (V.byt i=V.byt j)=(i.toList==j.toList):=by
 rw[J4];cases i;cases j;simp
section
variable{X:Cx}{a b c:Expr}{ta tb tc:TE}{pos:Pos}
theorem qBA {Ab:List (Addr×Obj)}{σ:St}{H:Hp}{s:Shared}{Q:VK}{k a:Bool}(I:Inv X Ab σ H s)(q:Q (.bl k) H)(e:k=a):EP X Ab σ Q (.bool a) s:=by
 subst e;exact⟨.bl k,H,I,rfl,q⟩
theorem qFC:OpR X (B35 .Eq) rEq:=by
 intro e s σ H x y v u Q I d a h;obtain⟨c,q⟩:=h;cases x with
 |non=>
  cases d;cases y with
  |non=>cases a;exact PySem.EqNone.eq_none_none (qBA I q (by simp))
  |bl j=>cases a;exact PySem.EqNone.eq_none_bool (qBA I q (by simp))
  |int j=>obtain⟨b,rfl⟩:=a;exact PySem.EqNone.eq_none_int (qBA I q (by simp))
  |str j=>obtain⟨b,rfl⟩:=a;exact PySem.EqNone.eq_none_str (qBA I q (by simp))
  |_=>exact absurd (show false=true from c) B1
 |bl i=>
  cases d;cases y with
  |non=>cases a;exact PySem.EqNone.eq_bool_none (qBA I q (by simp))
  |bl j=>cases a;exact eq_bool (qBA I q qYB)
  |str j=>obtain⟨b,rfl⟩:=a;exact PySem.EqMixed.eq_bool_str (qBA I q (by simp))
  |_=>exact absurd (show false=true from c) B1
 |int i=>
  obtain⟨t,rfl⟩:=d;cases y with
  |non=>cases a;exact PySem.EqNone.eq_int_none (qBA I q (by simp))
  |int j=>obtain⟨b,rfl⟩:=a;exact eq_int (qBA I q qV9)
  |str j=>obtain⟨b,rfl⟩:=a;exact PySem.EqMixed.eq_int_str (qBA I q (by simp))
  |_=>exact absurd (show false=true from c) B1
 |str i=>
  obtain⟨t,rfl⟩:=d;cases y with
  |non=>cases a;exact PySem.EqNone.eq_str_none (qBA I q (by simp))
  |bl j=>cases a;exact PySem.EqMixed.eq_str_bool (qBA I q (by simp))
  |int j=>obtain⟨b,rfl⟩:=a;exact PySem.EqMixed.eq_str_int (qBA I q (by simp))
  |str j=>obtain⟨b,rfl⟩:=a;exact eq_str (qBA I q qV8)
  |_=>exact absurd (show false=true from c) B1
 |byt i=>
  obtain⟨t,rfl⟩:=d;cases y with
  |byt j=>obtain⟨b,rfl⟩:=a;exact PySem.W.eq_bytes (qBA I q qVA)
  |_=>exact absurd (show false=true from c) B1
 |_=>cases y<;>exact absurd (show false=true from c) B1
theorem qbM:OpR X (B35 .NotEq) rNe:=by
 intro e s σ H x y v u Q I d a h;obtain⟨c,q⟩:=h;cases x with
 |non=>
  cases d;cases y with
  |non=>cases a;exact PySem.EqNone.ne_none_none (qBA I q (by simp))
  |bl j=>cases a;exact PySem.EqNone.ne_none_bool (qBA I q (by simp))
  |int j=>obtain⟨b,rfl⟩:=a;exact PySem.EqNone.ne_none_int (qBA I q (by simp))
  |str j=>obtain⟨b,rfl⟩:=a;exact PySem.EqNone.ne_none_str (qBA I q (by simp))
  |_=>exact absurd (show false=true from c) B1
 |bl i=>
  cases d;cases y with
  |non=>cases a;exact PySem.EqNone.ne_bool_none (qBA I q (by simp))
  |bl j=>cases a;exact ne_bool (qBA I q (congrArg not qYB))
  |str j=>obtain⟨b,rfl⟩:=a;exact PySem.EqMixed.ne_bool_str (qBA I q (by simp))
  |_=>exact absurd (show false=true from c) B1
 |int i=>
  obtain⟨t,rfl⟩:=d;cases y with
  |non=>cases a;exact PySem.EqNone.ne_int_none (qBA I q (by simp))
  |int j=>obtain⟨b,rfl⟩:=a;exact ne_int (qBA I q (congrArg not qV9))
  |str j=>obtain⟨b,rfl⟩:=a;exact PySem.EqMixed.ne_int_str (qBA I q (by simp))
  |_=>exact absurd (show false=true from c) B1
 |str i=>
  obtain⟨t,rfl⟩:=d;cases y with
  |non=>cases a;exact PySem.EqNone.ne_str_none (qBA I q (by simp))
  |bl j=>cases a;exact PySem.EqMixed.ne_str_bool (qBA I q (by simp))
  |int j=>obtain⟨b,rfl⟩:=a;exact PySem.EqMixed.ne_str_int (qBA I q (by simp))
  |str j=>obtain⟨b,rfl⟩:=a;exact ne_str (qBA I q (congrArg not qV8))
  |_=>exact absurd (show false=true from c) B1
 |byt i=>
  obtain⟨t,rfl⟩:=d;cases y with
  |byt j=>obtain⟨b,rfl⟩:=a;exact PySem.W.ne_bytes (qBA I q (congrArg not qVA))
  |_=>exact absurd (show false=true from c) B1
 |_=>cases y<;>exact absurd (show false=true from c) B1
theorem qNC:OpR X (B35 .Lt) (rI0 λi j=>.bl (decide (i<j))):=opB0 λ_ _ _ _ _ _ _ q=>lt_int q
theorem qbN:OpR X (B35 .LtE) (rI0 λi j=>.bl (decide (i<=j))):=opB0 λ_ _ _ _ _ _ _ q=>le_int q
theorem qRV:OpR X (B35 .Gt) (rI0 λi j=>.bl (decide (j<i))):=opB0 λ_ _ _ _ _ _ _ q=>gt_int q
theorem qWH:OpR X (B35 .GtE) (rI0 λi j=>.bl (decide (j<=i))):=opB0 λ_ _ _ _ _ _ _ q=>ge_int q
theorem qAW (b:Expr){op:CmpOp}(h:op≠.In:=by decide)(a:op≠.NotIn:=by decide):B52 op b=false:=by
 have d:(op==CmpOp.In)=false:=by cases op<;>first|rfl|exact absurd rfl h
 have c:(op==CmpOp.NotIn)=false:=by cases op<;>first|rfl|exact absurd rfl a
 cases b<;>simp[B52,d,c]
theorem qCT {op:CmpOp}{r:R2}(k:OpR X (B35 op) r)(l:PE X a ta)(e:PE X b tb)(f:B52 op b=false):PE X (.Compare a [op] [b] pos) (tOp r ta tb):=by
 intro c s σ H Q I h;exact wpAny_Compare1 (binT l e I h λv u d x y j g i m q=>k c d σ j x y v u Q g i m q) f
def qcJ (t:TE):TT:=λσ H Q=>t σ H λx H'=>∃k,x=.bl k/\Q k H'
theorem qAQ {op:CmpOp}{r:R2}(i:OpR X (B35 op) r)(j:PE X a ta)(f:PE X b tb)(g:B52 op b=false):PT X (.Compare a [op] [b] pos) (qcJ (tOp r ta tb)):=by
 intro d s σ H Q I h;refine wpAny_isTrue_Compare1 (thn (j d s σ H _ I h) fun v s1 ⟨x,H1,I1,r1,q1⟩=>thn (f d s1 σ H1 _ I1 q1) fun u s2 ⟨y,H2,I2,r2,q2⟩=>
  thn (i d s2 σ H2 x y v u _ I2 r1 r2 q2) λc s3 ⟨z,H3,I3,r3,k,e,q3⟩=>?_) g
 subst e;cases r3;exact B33 ⟨H3,I3,q3⟩
def qaX (r r':R2)(ta tb tc:TE):TE:=λσ H Q=>ta σ H λx H1=>tb σ H1 λy H2=>r x y H2 λz H3=>∃k,z=.bl k/\
 (if k=true then tc σ H3 λw' H4=>r' y w' H4 Q else Q (.bl false) H3)
theorem qWF {op f:CmpOp}{r j:R2}(n:OpR X (B35 op) r)(i:OpR X (B35 f) j)(p:PE X a ta)(l:PE X b tb)(o:PE X c tc)
  (m:lastMarks [op,f] [b,c]=false:=by with_unfolding_all rfl):PE X (.Compare a [op,f] [b,c] pos) (qaX r j ta tb tc):=by
 intro g s σ H Q I h;refine Compare_chain (thn (p g s σ H _ I h) fun v s1 ⟨x,H1,I1,r1,q1⟩=>chain_link (thn (l g s1 σ H1 _ I1 q1) fun u s2 ⟨y,H2,I2,r2,q2⟩=>
  thn (n g s2 σ H2 x y v u _ I2 r1 r2 q2) λd s3 ⟨z,H3,I3,r3,k,e,q3⟩=>?_)) m
 subst e;cases r3;refine B33 ?_;cases k with
 |false=>exact ite_ff ⟨.bl false,H3,I3,rfl,q3⟩
 |true=>exact ite_tt (chain_last (thn (o g s3 σ H3 _ I3 q3) λw' s4 ⟨z',H4,I4,r4,q4⟩=>i g s4 σ H4 y z' u w' Q I4 r2 r4 q4))
def TruV (K:PySem.W.Frag)(x:V)(H:Hp)(k:Bool):Prop:=
 match x with
 |.non=>k=false
 |.bl b=>k=b
 |.int i=>k=(i != 0)
 |.str y=>y.length<=B18/\k=((y.length:Int) != 0)
 |.byt y=>y.size<=B18/\k=((y.size:Int) != 0)
 |.ref p=>(∃xs,SqL K H p xs/\k=!xs.isEmpty)\/(∃xs,SqT K H p xs/\k=!xs.isEmpty)\/∃Af,H p=some (.dK Af)/\k=!Af.isEmpty
 |_=>False
theorem qS8 {κ:Type}{Af:List (κ×V)}{vs:List (κ×Value)}(r:KV Af vs):(!vs.isEmpty)=!Af.isEmpty:=by
 cases r<;>rfl
theorem qKX {xs:List V}{a:List Value}(r:Vals xs a):(!a.toArray.isEmpty)=!xs.isEmpty:=by
 cases r<;>simp
theorem qNE:(B18:Nat)<2^63:=by rw[B28];decide
theorem qaS:TruR X (λx H Q=>∃k,TruV X.K x H k/\Q k H):=by
 intro z s σ H x v Q I d h;obtain⟨k,e,q⟩:=h;have hl:=qNE;have hs:B18=16777216:=B28;cases x with
 |non=>
  cases d;have a:k=false:=e;subst a;exact truthy_none ⟨H,I,q⟩
 |bl b=>
  cases d;have a:k=b:=e;subst a;exact B33 ⟨H,I,q⟩
 |int i=>
  obtain⟨t,rfl⟩:=d;have a:k=(i != 0):=e;subst a;exact PySem.P.truthy_int ⟨H,I,q⟩
 |str y=>
  obtain⟨t,rfl⟩:=d;obtain⟨u,a⟩:y.length<=B18/\k=((y.length:Int) != 0):=e;subst a;exact PySem.P.truthy_str (by lia) ⟨H,I.tok _,q⟩
 |byt y=>
  obtain⟨t,rfl⟩:=d;obtain⟨u,a⟩:y.size<=B18/\k=((y.size:Int) != 0):=e;subst a;exact PySem.W.truthy_bytes (by lia) ⟨H,I.tok _,q⟩
 |ref p=>
  cases d;have a:(∃xs,SqL X.K H p xs/\k=!xs.isEmpty)\/(∃xs,SqT X.K H p xs/\k=!xs.isEmpty)\/∃Af,H p=some (.dK Af)/\k=!Af.isEmpty:=e;rcases a with⟨xs,f,a⟩|⟨xs,f,a⟩|⟨Af,f,a⟩
  ·subst a;obtain⟨l,r,j,n⟩:=I.list f;have c:=r.length;exact wpAny_truthy_list j.isList (by simp only[C1];lia) ⟨H,I.tok _,by rw[qKX r];exact q⟩
  ·subst a;obtain⟨l,r,j,n⟩:=I.tuple f;have c:=r.length;exact truthy_tuple j (by simp only[C1];lia) ⟨H,I.tok _,by rw[qKX r];exact q⟩
  ·subst a;obtain⟨n,o,g,r,m⟩:Af.length<=B18/\(p==B39)=false/\∃g,KV Af g/\s.heap.DictOf (qB3 X.prog X.w) p g:=I.hok p _ f;have c:Af.length=g.length:=C3 r;exact wpAny_truthy_dict o m (by lia) ⟨H,I.tok _,by rw[qS8 r];exact q⟩
 |_=>exact(show False from e).elim
theorem qW7 (c:PE X a ta)(d:∀whole,isTrue a X.env whole=(do let v <- whole;standAt a.pos;B62 [v] (truthy v))):
  PT X a (λσ H Q=>ta σ H λx H'=>∃k,TruV X.K x H' k/\Q k H'):=by
 intro b s σ H Q I h;exact isTrue_plain (thn (c b s σ H _ I h) λv s1 ⟨x,H1,I1,r1,q1⟩=>qaS b s1 σ H1 x v Q I1 r1 q1) (d _)
theorem qE1 {x:V}{a:List Value}(r:Vals [x] a):∃u,a=[u]/\RelV x u:=by
 cases r with
 |cons r1 r2=>cases r2;exact⟨_,rfl,r1⟩
theorem qMU {x y:V}{a:List Value}(r:Vals [x,y] a):∃u w',a=[u,w']/\RelV x u/\RelV y w':=by
 cases r with
 |cons r1 r2=>
  cases r2 with
  |cons r3 r4=>cases r4;exact⟨_,_,rfl,r1,r3⟩
theorem qVK (b:X.calm=true):qCF X (.builtin "max") (λxs H Q=>∃i j,xs=[.int i,.int j]/\Q (.int (if j>i then j else i)) H):=by
 intro c s σ H xs g Q I r h;obtain⟨i,j,rfl,q⟩:=h;obtain⟨u,l,rfl,⟨t,rfl⟩,⟨e,rfl⟩⟩:=qMU r;refine max_two_ints (I.ok.hd b) λf d k=>⟨_,H,I.kept k,?_,q⟩;by_cases a:j>i
 ·rw[if_pos a,if_pos a];exact⟨_,rfl⟩
 ·rw[if_neg a,if_neg a];exact⟨_,rfl⟩
theorem qK3 (b:X.calm=true):qCF X (.builtin "min") (λxs H Q=>∃i j,xs=[.int i,.int j]/\Q (.int (if j<i then j else i)) H):=by
 intro c s σ H xs g Q I r h;obtain⟨i,j,rfl,q⟩:=h;obtain⟨u,l,rfl,⟨t,rfl⟩,⟨e,rfl⟩⟩:=qMU r;refine min_two_ints (I.ok.hd b) λf d k=>⟨_,H,I.kept k,?_,q⟩;by_cases a:j<i
 ·rw[if_pos a,if_pos a];exact⟨_,rfl⟩
 ·rw[if_neg a,if_neg a];exact⟨_,rfl⟩
theorem qHC:qCF X (.type "int") (λxs H Q=>(∃i,xs=[.int i]/\Q (.int i) H)\/∃k,xs=[.bl k]/\Q (.int (if k then 1 else 0)) H):=by
 intro c s σ H xs b Q I r h;rcases h with⟨i,rfl,q⟩|⟨k,rfl,q⟩
 ·obtain⟨u,rfl,t,rfl⟩:=qE1 r;exact call_int_int ⟨.int i,H,I,⟨_,rfl⟩,q⟩
 ·obtain⟨u,rfl,a⟩:=qE1 r;cases a;exact call_int_bool ⟨.int (if k then 1 else 0),H,I.tok _,⟨_,rfl⟩,q⟩
theorem qPR:qCF X (.builtin "divmod") (λxs H Q=>∃i j,xs=[.int i,.int j]/\CDiv i j/\∀p,H p=none->Q (.ref p) (Ag H p (.tup [.int (i/j),.int (i%j)]))):=by
 intro c s σ H xs g Q I r h;obtain⟨i,j,rfl,⟨k,d⟩,q⟩:=h;obtain⟨u,l,rfl,⟨t,rfl⟩,⟨f,rfl⟩⟩:=qMU r;refine divmod_int (by lia) ?_ (.inl (Z2 (by lia)))
 rw[W6 i (by lia),m6 i (by lia)]
 have a:H s.heap.objs.size=none:=I.hok.fresh (A7 _);refine⟨.ref s.heap.objs.size,_,?_,rfl,q _ a⟩;refine I.laid (λb o e=>A5 _ e) (A7 _) ⟨by simp only[D6,N9];rw[B28];decide,[.int (i/j) s.toks,.int (i%j) (s.toks+1)],.cons ⟨_,rfl⟩ (.cons ⟨_,rfl⟩ .nil),?_⟩
 exact⟨_,B4 s.heap rfl,rfl,0,rfl⟩
end
structure ObjM (h:Heap)(x dx C:Addr)(mA:Str->Option Value):Prop where
 obj:h.get? x=some (A06 C dx)
 ns:h.Ns1 dx mA
 ne:dx≠x
theorem qU3 {h:Heap}{d:Addr}{f:Str->Option Value}(n:h.Ns1 d f):∃od,h.get? d=some od/\∀name,A28 name od=some (f name):=by
 obtain⟨o,c,p,l,i,m,_,j⟩:=n;refine⟨o,l,λname=>?_⟩;have e:=j name;unfold nsFind findBy at e;rw[<- Array.find?_toList] at e;unfold A28;rw[i];dsimp only
 split
 ·rename_i y q
  rw[q] at e;exact congrArg some e
 ·rename_i q
  rw[q] at e;have a:c.toList.any (·.refKey)=false:=by
   rw[List.any_eq_false];intro y g;obtain⟨z,t,b⟩:=m y (Array.mem_toList_iff.mp g);simp[DictEntry.refKey,b]
  have k:¬c.toList.any (·.refKey)=true:=by rw[a];exact B1
  rw[if_neg k];exact congrArg some e
theorem ObjM.look {h:Heap}{x a C:Addr}{b:Str->Option Value}(I:ObjM h x a C b):∃od,PySem.W.InstAt h x (A06 C a) C (some od)/\∀name,A28 name od=some (b name):=
 let⟨od,ho,hl⟩:=qU3 I.ns
 ⟨od,⟨I.obj,rfl,rfl,ho⟩,hl⟩
section
variable{prog:B20}{w:World}{A:Around}{E:Value->Shared->Prop}{s:Shared}{K:PySem.W.Frag}{x dx C f:Addr}{mA:Str->Option Value}{name:Str}{v:Value}
end
noncomputable def putF (f:Str)(v:V):List (Str×V)->List (Str×V)
 |[]=>[(f,v)]
 |(g,x)::r=>if g=f then(g,v)::r else(g,x)::putF f v r
theorem RelO.some_of {v:V}{o:Option Value}(r:RelO (some v) o):∃u,o=some u/\RelV v u:=by
 cases o with
 |none=>exact(show False from r).elim
 |some u=>exact⟨u,rfl,r⟩
section
variable{P:B20}{w:World}{H H':Hp}{h h':Heap}{a C dx:Addr}{fs fs':List (Str×V)}
theorem qZU (b:HOk P w H h)(e:H a=some (.ins C dx fs)):∃mA,ObjM h a dx C mA/\(∀f,RelO (fs.lookup f) (mA f))/\PySem.Within mA (fs.map (·.1))/\fs.length<=1000/\H dx=some (.own a):=by
 obtain⟨d,z,g,c,mA,n,r,q⟩:=(show ObjOk P w H h a (.ins C dx fs) from b a _ e);exact⟨mA,⟨c,n,g⟩,r,q,z,d⟩
end
structure Cls (K:PySem.W.Frag)(C:Addr):Prop where
 pg:A67 K C O0=true
 hd:A52 K C=true
 po:PySem.W.plainOver K C=true
 sa:P7 K (.ref C) "__setattr__" = some (some (.builtin "object.__setattr__"))
theorem Cls.get {K:PySem.W.Frag}{C:Addr}(c:Cls K C)(f:Str):A67 K C f=true:=c.pg
def qRH (K:PySem.W.Frag)(C:Addr)(f:Str):Prop:=P7 K (.ref C) f=some none
structure Con (K:PySem.W.Frag)(C:Addr)(f:Str)(v:V)(u:Value):Prop where
 at_:P7 K (.ref C) f=some (some u)
 rel:RelV v u
 get:t0 K u "__get__" = some none
 cp:PySem.W.copiedNames.contains f=false
structure Meth (K:PySem.W.Frag)(C:Addr)(m:Str)(f:Addr):Prop where
 at_:P7 K (.ref C) m=some (some (.ref f))
 fn:B08 K (.ref f)=true
 kp:Q4 K (.ref f)=true
section
variable{X:Cx}{Ab:List (Addr×Obj)}{σ:St}{H:Hp}{s:Shared}{a C dx:Addr}{fs:List (Str×V)}{f:Str}{v:V}{A:Around}{E:Value->Shared->Prop}
end
section
variable{X:Cx}{o e value:Expr}{f:Str}{pos pos' tpos:Pos}{ta tv:TE}
end
section
variable{X:Cx}{Ab:List (Addr×Obj)}{σ:St}{H:Hp}{s:Shared}{A:Around}{E:Value->Shared->Prop}{Q:Value->Shared->Prop}{c:Value}{b:Bool}
inductive TyOf (K:PySem.W.Frag)(H:Hp):V->Value->Prop where
 |non:TyOf K H .non (.type "NoneType")
 |bl (x:Bool):TyOf K H (.bl x) (.type "bool")
 |int (i:Int):TyOf K H (.int i) (.type "int")
 |str (x:Str):TyOf K H (.str x) (.type "str")
 |flt (x:UInt64):TyOf K H (.flt x) (.type "float")
 |lst {a:Addr} {xs:List V} (e:H a=some (.lst xs)):TyOf K H (.ref a) (.type "list")
 |frz {a:Addr} {o:Obj} {xs:List V} (e:H a=some (.frz o (.lst xs))):TyOf K H (.ref a) (.type "list")
 |tup {a:Addr} {xs:List V} (e:H a=some (.tup xs)):TyOf K H (.ref a) (.type "tuple")
 |dK {a:Addr} {Af:List (Key×V)} (e:H a=some (.dK Af)):TyOf K H (.ref a) (.type "dict")
 |dT {a:Addr} {Af:List (List Key×V)} (e:H a=some (.dT Af)):TyOf K H (.ref a) (.type "dict")
 |ins {a C dx:Addr} {fs:List (Str×V)} (e:H a=some (.ins C dx fs)) (cl:Cls K C) (ha:P7 K (.ref C) "__class__" = some (some (.builtin "object.__class__")))
   (hn:t0 K (.builtin "object.__class__") "__get__" = some (some (.builtin "getset_descriptor.__get__"))) (htk:A78 K (.builtin "object.__class__")=some true)
   (hm:A38 K C (.type "object")=some true):TyOf K H (.ref a) (.ref C)
theorem qUI {x:V}{u t:Value}(I:Inv X Ab σ H s)(d:RelV x u)(k:TyOf X.K H x t)(e:W9 X.K t c=some b)(h:∀tk,Q (.bool b) {s with toks:=tk}):
  wpAny (model X.prog X.w) A (call (.builtin "isinstance") [u,c]) Q E s:=by
 cases k with
 |non=>cases(show u=Q0 from d);exact L0 PySem.W.kitx_none I.kIn T5 e (λz=>nomatch z) h
 |bl y=>cases(show u=A15 y from d);exact L0 PySem.W.kitx_bool I.kIn T5 e (λz=>nomatch z) h
 |int i=>obtain⟨t,q⟩:=(show∃t,u=Q8 i t from d);cases q;exact L0 PySem.W.kitx_int I.kIn T5 e (λz=>nomatch z) h
 |str y=>obtain⟨t,q⟩:=(show∃t,u=A76 y t from d);cases q;exact L0 PySem.W.kitx_str I.kIn T5 e (λz=>nomatch z) h
 |flt y=>obtain⟨t,q⟩:=(show∃t,u=Value.float y t from d);cases q;exact L0 PySem.W.kitx_float I.kIn T5 e (λz=>nomatch z) h
 |@lst a xs ea=>
  cases(show u=D7 a from d);obtain⟨_,_,n,_,f⟩:=(show ObjOk X.prog X.w H s.heap a (.lst xs) from I.hok a _ ea);exact L0 A53 I.kIn ⟨_,f,rfl⟩ e (λz=>nomatch z) h
 |@frz a ob xs ea=>
  cases(show u=D7 a from d);obtain⟨_,_,_,n,_,f⟩:=(show ObjOk X.prog X.w H s.heap a (.frz ob (.lst xs)) from I.hok a _ ea);exact L0 A53 I.kIn ⟨_,f,rfl⟩ e (λz=>nomatch z) h
 |@tup a xs ea=>
  cases(show u=D7 a from d);obtain⟨_,_,_,p⟩:=(show ObjOk X.prog X.w H s.heap a (.tup xs) from I.hok a _ ea);obtain⟨o,f,g,_⟩:=p;exact L0 A39 I.kIn ⟨o,f,g⟩ e (λz=>nomatch z) h
 |@dK a Af ea=>
  cases(show u=D7 a from d);obtain⟨_,_,m,_,p⟩:=(show ObjOk X.prog X.w H s.heap a (.dK Af) from I.hok a _ ea);obtain⟨o,j,l,f,g,_⟩:=p;exact L0 A54 I.kIn ⟨o,f,g.1⟩ e (λz=>nomatch z) h
 |@dT a Af ea=>
  cases(show u=D7 a from d);obtain⟨_,_,xs,_,o,j,l,f,g,_⟩:=(show ObjOk X.prog X.w H s.heap a (.dT Af) from I.hok a _ ea);exact L0 A54 I.kIn ⟨o,f,g.1⟩ e (λz=>nomatch z) h
 |@ins a C dx fs ea cl ha hn htk hm=>
  cases(show u=D7 a from d);obtain⟨v,O,_⟩:=qZU I.hok ea;obtain⟨r,J,_⟩:=O.look;exact L0 (PySem.W.kitx_own (cl.get _) cl.hd ha hn htk hm) I.kIn J e (λz=>nomatch z) h
end
structure Room (k:Nat)(A:Around):Prop where
 hd:A.handled=none
 dp:A.depth+3*k+5<recursionLimit
 un:A.units+16*k+200<cLine
 gd:A.guards=some []
theorem Room.mono {j k:Nat}{A:Around}(r:Room k A)(h:j<=k):Room j A:=⟨r.hd,by have:=r.dp;lia,by have:=r.un;lia,r.gd⟩
theorem Room.deeper {k:Nat}{A:Around}(r:Room (k+1) A)(env:Env):Room k (A.deeper env):=
 ⟨r.hd,by have:=r.dp;show A.depth+1+3*k+5<_;lia,by have:=r.un;show A.units+3+16*k+200<_;lia,r.gd⟩
theorem Room.in1 {k:Nat}{A:Around}(r:Room (k+1) A):Room k A.in1:=
 ⟨r.hd,by have:=r.dp;show A.depth+3*k+5<_;lia,by have:=r.un;show A.units+1+16*k+200<_;lia,r.gd⟩
theorem Room.depth {k:Nat}{A:Around}(r:Room k A):A.depth<recursionLimit:=by have:=r.dp;lia
theorem Room.units {k:Nat}{A:Around}(r:Room k A):A.units+64<cLine:=by have:=r.un;lia
theorem Room.units0 {k:Nat}{A:Around}(r:Room k A):A.units<cLine:=by have:=r.un;lia
def tNil:TA:=λ_ H Q=>Q [] H
def qMZ (ta:TE)(tr:TA):TA:=λσ H Q=>ta σ H λx H1=>tr σ H1 λxs H2=>Q (x::xs) H2
section
variable{X:Cx}{e:Expr}{es:List Expr}{te:TE}{t:TA}{pos:Pos}
theorem qA3:PA X [] tNil:=λ_ _ _ _ H Q I h=>Calls.spliced_nil ⟨[],H,I,.nil,h⟩
theorem qA0 (f:PE X e te)(c:PA X es t)(d:B24 (e::es) X.env=(false,eval e X.env)::B24 es X.env:=by rfl):PA X (e::es) (qMZ te t):=by
 intro a b s σ H Q I h;rw[d];show wpAny _ _ (spliced ((false,eval e X.env)::backTo a (B24 es X.env))) _ _ s;refine Calls.spliced_cons (thn (f b s σ H _ I h) λu s1 ⟨x,H1,I1,r1,q1⟩=>?_);exact thn (c a b s1 σ H1 _ I1 q1) λus s2 ⟨xs,H2,I2,r2,q2⟩=>⟨x::xs,H2,I2,.cons r1 r2,q2⟩
def tTup (t:TA):TE:=λσ H Q=>t σ H λxs H1=>xs.length<=B18/\∀p,H1 p=none->Q (.ref p) (Ag H1 p (.tup xs))
def tLst (t:TA):TE:=λσ H Q=>t σ H λxs H1=>xs.length<=B18/\∀p,H1 p=none->Q (.ref p) (Ag H1 p (.lst xs))
theorem qCX {x1}(h:PA X es t):PE X (.Tuple es x1 pos) (tTup t):=by
 intro c s σ H Q I a;refine wpAny_Tuple_spliced (thn (h pos c s σ H _ I a) λus s1 ⟨xs,H1,I1,r,z,q⟩=>⟨by rw[<- r.length];exact z,?_⟩)
 have d:H1 s1.heap.objs.size=none:=I1.hok.fresh (A7 _);refine⟨.ref s1.heap.objs.size,Ag H1 s1.heap.objs.size (.tup xs),I1.laid (t':=s1.toks) (λb u e=>A5 _ e) (A7 _) ?_,rfl,q _ d⟩;exact⟨z,us,r,⟨_,B4 _ rfl,rfl,_,rfl⟩⟩
theorem qBP (h:PA X es t):PE X (.List es pos) (tLst t):=by
 intro c s σ H Q I a;refine wpAny_List_spliced (thn (h pos c s σ H _ I a) λus s1 ⟨xs,H1,I1,r,z,q⟩=>⟨by rw[<- r.length];exact z,?_⟩)
 have d:H1 s1.heap.objs.size=none:=I1.hok.fresh (A7 _);refine⟨.ref s1.heap.objs.size,Ag H1 s1.heap.objs.size (.lst xs),I1.laid (t':=s1.toks) (λb u e=>A5 _ e) (A7 _) ?_,rfl,q _ d⟩;exact⟨z,us,0,r,B4 _ rfl⟩
end
abbrev Sp:=List V->Hp->VK->XK->Prop
abbrev CXT:=List Env->Hp->Shared->XK->Value->Shared->Prop
structure Env0 (P:B20)(w:World)(K:PySem.W.Frag)(mg:Str->Option Value)(base:Heap)(A:Around)(outer:List Env)(s:Shared)(H:Hp):Prop where
 frames:A.frames=some outer
 mod:Mod K mg base
 bs:∀b o,base.get? b=some o->s.heap.get? b=some o/\H b=none
 bsz:base.objs.size<=s.heap.objs.size
 funs:s.heap.FunFrames base outer
 frf:∀b∈frs outer,H b=none
 hok:HOk P w H s.heap
 bare:AllBare s.gens
def CE (outer:List Env)(P:B20)(w:World)(H:Hp)(s:Shared)(Q:VK)(u:Value)(s':Shared):Prop:=
 ∃v H',s'.os=s.os/\AllBare s'.gens/\Un (frs outer) [] H H' s.heap s'.heap/\HOk P w H' s'.heap/\RelV v u/\Q v H'
def CR (CX:CXT)(outer:List Env)(P:B20)(w:World)(H:Hp)(s:Shared)(Q:VK)(E:XK)(r:Result)(s':Shared):Prop:=
 match r with
 |.ok (.ret u)=>CE outer P w H s Q u s'
 |.ok _=>False
 |.error e=>CX outer H s E e s'
structure FnOk (P:B20)(w:World)(K:PySem.W.Frag)(mg:Str->Option Value)(base:Heap)(CX:CXT)(k:Nat)(f:Addr)(fd:B37)(ps:List Str)(sp:Sp):Prop where
 len:∀vs H Q E,sp vs H Q E->vs.length=ps.length
 run:∀(A:Around) (outer:List Env) (s:Shared) (H:Hp) (args:Args) (us:List Value) (vs:List V) (Q:VK) (E:XK),Room k A->Env0 P w K mg base A outer s H->BindsTo s fd args (ps.zip us)->Vals vs us->sp vs H Q E->
  B50 (model P w) A (.call (.ref f) args) (CR CX outer P w H s Q E) s
section
variable{X:Cx}{Ab:List (Addr×Obj)}{σ:St}{H:Hp}{s s':Shared}
theorem Inv.env0 (I:Inv X Ab σ H s):Env0 X.prog X.w X.K X.mg X.base X.A X.stack s H:=
 ⟨I.ok.frames,I.ok.mod,I.bs,F3 I.ok.bsz I.sz,I.stack,I.stkFree,I.hok,I.bare⟩
theorem Inv.after {Q:VK}{u:Value}(I:Inv X Ab σ H s)(h:CE X.stack X.prog X.w H s Q u s'):EP X Ab σ Q u s':=by
 obtain⟨v,i,os,a,j,e,r,q⟩:=h;obtain⟨f,g,d,t,c⟩:=s';obtain rfl:c=s.os:=os;exact⟨v,i,I.call (h':=f) (g':=g) (d':=d) (t':=t) (ch:=[]) j e a (λb z=>absurd z (by simp)),r,q⟩
end
def qaY (sp:Sp)(dvs:List V)(E:XK)(t:TA):TE:=λσ H Q=>t σ H λvs H1=>sp (vs++dvs) H1 Q E
def Binds (K:PySem.W.Frag)(fd:B37)(ps:List Str)(ds:List Value):Prop:=
 ∀(s:Shared) (us:List Value),K.In s.heap->(us++ds).length=ps.length->BindsTo s fd ⟨us,[]⟩ (ps.zip (us++ds))
theorem Binds.all {K:PySem.W.Frag}{b:B37}{ps:List Str}(h:∀us:List Value,us.length=ps.length->B76 b ⟨us,[]⟩=pure (ps.zip us)):Binds K b ps []:=λs us _ a=>by
 rw[Q9] at a ⊢;exact .of_eq (h us a)
def qVS (CX:CXT)(X:Cx)(E:XK):Prop:=∀(Ab:List (Addr×Obj)) (σ:St) (H:Hp) (s:Shared) (e:Value) (s':Shared),Inv X Ab σ H s->CX X.stack H s E e s'->X.xe e s'
section
variable{X:Cx}{CX:CXT}{k:Nat}{f C:Addr}{fd:B37}{ps:List Str}{sp:Sp}{dvs:List V}{ds:List Value}{E:XK}{x m:Str}{p pos apos:Pos}{e o:Expr}{es:List Expr}{ta:TE}{t:TA}
theorem qb7 {Ab:List (Addr×Obj)}{σ:St}{H:Hp}{s:Shared}{Q:VK}{a:List Value}{vs:List V}(F:FnOk X.prog X.w X.K X.mg X.base CX k f fd ps sp)(j:Room k X.A)(i:Binds X.K fd ps ds)(d:Vals dvs ds)(m:qVS CX X E)
  (I:Inv X Ab σ H s) (r:Vals vs a) (h:sp (vs++dvs) H Q E):wpAny (model X.prog X.w) X.A (call (.ref f) a) (EP X Ab σ Q) X.xe s:=by
 have c:Vals (vs++dvs) (a++ds):=r.append d;have l:(a++ds).length=ps.length:=by rw[<- c.length];exact F.len _ _ _ _ h
 refine wpAny_call (B60 (F.run X.A X.stack s H ⟨a,[]⟩ (a++ds) (vs++dvs) Q E j I.env0 (i s a I.kIn l) c h) λr g b=>?_);cases r with
 |error e=>exact m Ab σ H s e g I b
 |ok fl=>
  cases fl with
  |ret u=>exact I.after b
  |next=>exact V2 b
  |brk=>exact V2 b
  |cont=>exact V2 b
theorem qZC (F:FnOk X.prog X.w X.K X.mg X.base CX k f fd ps sp)(l:Room k X.A)(g:Gl X x)(j:X.mg x=some (.ref f))(u:Q4 X.K (.ref f)=true)(i:Binds X.K fd ps ds)(d:Vals dvs ds)(n:qVS CX X E)
  (o:PA X (e::es) t) (b:(x==("__debug__" : Str))=false:=by decide) (m:B24 (e::es) X.env=(false,eval e X.env)::B24 es X.env:=by rfl) (a:(backTo pos (B24 es X.env)).any (·.1)=false:=by rfl):
  PE X (.Call (.Name x p) (e::es) [] pos) (qaY sp dvs E t):=by
 intro c s σ H Q I h;refine B77 (qZQ I g j ?_ b);refine PySem.W.callWith_K (h₀:=X.base) I.ok.mod.kin u (thn (o pos c s σ H _ I h) λus s1 ⟨vs,H1,I1,r,q⟩=>⟨I1.kIn,?_⟩) m a;exact qb7 F l i d n I1 r q
structure Mk (K:PySem.W.Frag)(C f:Addr):Prop where
 makes:PySem.W.makesIn K C=true
 init:P7 K (.ref C) "__init__" = some (some (.ref f))
 fn:B08 K (.ref f)=true
 kp:Q4 K (.ref C)=true
end
def PK (X:Cx)(kws:List B79)(t:TA):Prop:=
 ∀(pos:Pos) (Ab:List (Addr×Obj)) (s:Shared) (σ:St) (H:Hp) (Q:List V->Hp->Prop),Inv X Ab σ H s->t σ H Q->wpAny (model X.prog X.w) X.A (evalAll ((backToKw pos (B82 kws X.env)).map (·.2))) (AP X Ab σ Q) X.xe s
section
variable{X:Cx}{CX:CXT}{k:Nat}{f C:Addr}{fd:B37}{ps ks:List Str}{sp:Sp}{E:XK}{x m:Str}{p pos apos kpos:Pos}{e o:Expr}{es:List Expr}{kws:List B79}{te ta:TE}{t tk:TA}{nm:Option Str}
theorem qbD:PK X [] tNil:=λ_ _ _ _ H Q I h=>wpAny_evalAll_nil ⟨[],H,I,.nil,h⟩
theorem qTE (c:PE X e te)(d:PK X kws t):PK X (⟨nm,e,kpos⟩::kws) (qMZ te t):=by
 intro a b s σ H Q I h;show wpAny _ _ (evalAll ((do let v <- eval e X.env;standAt a;pure v)::(backToKw a (B82 kws X.env)).map (·.2))) _ _ s
 refine wpAny_evalAll_cons (B16 (thn (c b s σ H _ I h) λu s1 ⟨x,H1,I1,r1,q1⟩=>B16 (B72 (B17 ?_))));exact thn (d a b s1 σ H1 _ I1 q1) λus s2 ⟨xs,H2,I2,r2,q2⟩=>⟨x::xs,H2,I2,.cons r1 r2,q2⟩
structure KBinds (K:PySem.W.Frag)(fd:B37)(ps ks:List Str)(g:List Value->List Value->List Value)(gV:List V->List V->List V):Prop where
 to:∀(s:Shared) (us ws:List Value),K.In s.heap->(g us ws).length=ps.length->BindsTo s fd ⟨us,ks.zip ws⟩ (ps.zip (g us ws))
 rel:∀{vs:List V} {us:List Value} {zs:List V} {ws:List Value},Vals vs us->Vals zs ws->Vals (gV vs zs) (g us ws)
variable{g:List Value->List Value->List Value}{gV:List V->List V->List V}
end
structure FnScope (N P:List Str)(sc:Scope):Prop where
 kind:sc.kind=.function
 co:sc.isCoroutine=false
 gen:sc.isGenerator=false
 nd:N.Nodup
 pre:N.take P.length=P
 par:∀x∈P,sc.names.lookup x=some .local\/sc.names.lookup x=some .cell
 nofree:∀y∈sc.names,y.2≠.free
theorem qO7 {kindOf:Str->Option B53}{x:Str}:∀{binds:List (Str×Value)} {m:Str->Option Value},(∀v,(x,v)∉binds)->bindL kindOf binds m x=m x
 |[],_,_=>rfl
 |(n,v)::r,m,h=>by
  unfold bindL;rw[qO7 λw hw=>h w (B5 _ hw)]
  split
  ·have:x≠n:=by rintro rfl;exact h v E7
   simp[this]
  ·rfl
theorem qO9 {kindOf:Str->Option B53}{x:Str}:∀{binds:List (Str×Value)} {m:Str->Option Value},(∀v,(x,v)∉binds)->bindC kindOf binds m x=m x
 |[],_,_=>rfl
 |(n,v)::r,m,h=>by
  unfold bindC;rw[qO9 λw hw=>h w (B5 _ hw)]
  split
  ·rfl
  ·have:x≠n:=by rintro rfl;exact h v E7
   simp[this]
theorem qO8 {kindOf:Str->Option B53}{x:Str}{v:Value}:∀{P:List Str} {vs:List Value} {i:Nat} {m:Str->Option Value},P.Nodup->P[i]?=some x->vs[i]?=some v->kindOf x=some .local->
  bindL kindOf (P.zip vs) m x=some v
 |[],_,_,_,_,h,_,_=>by simp at h
 |_::_,[],_,_,_,_,h,_=>by simp at h
 |p::P,w::vs,0,m,nd,h1,h2,hk=>by
  simp at h1 h2;subst h1;subst h2;show bindL kindOf ((p,w)::P.zip vs) m p=_;unfold bindL;rw[qO7 λv hv=>(O8.mp nd).1 (A07 hv).1,if_pos hk];simp
 |p::P,w::vs,i+1,m,nd,h1,h2,hk=>by
  show bindL kindOf ((p,w)::P.zip vs) m x=_;unfold bindL;exact qO8 (i:=i) (O8.mp nd).2 (by simpa using h1) (by simpa using h2) hk
theorem qOA {kindOf:Str->Option B53}{x:Str}{v:Value}:∀{P:List Str} {vs:List Value} {i:Nat} {m:Str->Option Value},P.Nodup->P[i]?=some x->vs[i]?=some v->kindOf x≠some .local->
  bindC kindOf (P.zip vs) m x=some v
 |[],_,_,_,_,h,_,_=>by simp at h
 |_::_,[],_,_,_,_,h,_=>by simp at h
 |p::P,w::vs,0,m,nd,h1,h2,hk=>by
  simp at h1 h2;subst h1;subst h2;show bindC kindOf ((p,w)::P.zip vs) m p=_;unfold bindC;rw[qO9 λv hv=>(O8.mp nd).1 (A07 hv).1,if_neg hk];simp
 |p::P,w::vs,i+1,m,nd,h1,h2,hk=>by
  show bindC kindOf ((p,w)::P.zip vs) m x=_;unfold bindC;exact qOA (i:=i) (O8.mp nd).2 (by simpa using h1) (by simpa using h2) hk
noncomputable def start (N:List Str)(vs:List V):St:=vs.map some++E9 (N.length-vs.length) none
noncomputable def cxOf (CX:CXT)(P:B20)(w:World)(K:PySem.W.Frag)(mg:Str->Option Value)(base:Heap)(N:List Str)(qual:Str)(scope:Scope)(f:Addr)(cd:Value)(A:Around)(outer:List Env)(s:Shared)(H:Hp)(E:XK):Cx where
 prog:=P
 w:=w
 K:=K
 mg:=mg
 base:=base
 A:=A.deeper (envOfC qual scope s.heap.objs.size f cd)
 N:=N
 s₀:=s
 H₀:=H
 env:=envOfC qual scope s.heap.objs.size f cd
 outer:=outer
 stack:=envOfC qual scope s.heap.objs.size f cd::outer
 ex:=[]
 calm:=true
 fn:=λ_=>true
 pn:=[]
 xe:=λe s'=>wpAny (model P w) (A.deeper (envOfC qual scope s.heap.objs.size f cd)) (leaving (envOfC qual scope s.heap.objs.size f cd) e) (λ_ s''=>CX outer H s E e s'') (λe' s''=>CX outer H s E e' s'') s'
theorem qRA {a:Scope}{n:Nat}{x:Str}(h:a.names.lookup x=some .cell):∃c,(B38 n a.names []).lookup x=some c:=by
 have q:=Z3 a.names n [] (.inl h);exact Q1.mp q
theorem qUJ {CX:CXT}{P:B20}{w:World}{K:PySem.W.Frag}{mg:Str->Option Value}{base:Heap}{N ps:List Str}{j:Str}{d:Scope}{f:Addr}{cd:Value}{A:Around}{g:List Env}{s s1:Shared}{H:Hp}{E:XK}{us:List Value}{vs:List V}
  (S:FnScope N ps d) (hd:A.handled=none) (m:Env0 P w K mg base A g s H) (hl:vs.length=ps.length) (r:Vals vs us)
  (x:InCallC s s.heap.objs.size (bindL (envOfC j d s.heap.objs.size f cd).kindOf (ps.zip us) λ_=>none) (B38 (s.heap.objs.size+1) d.names []) (bindC (envOfC j d s.heap.objs.size f cd).kindOf (ps.zip us) λ_=>none) s1):
  Inv (cxOf CX P w K mg base N j d f cd A g s H E) [] (start N vs) H s1:=by
 have a0:ps.length<=N.length:=by have:=congrArg U4 S.pre;rw[C4] at this;lia
 obtain⟨h1,tk,rfl,hk⟩:=x.done;have o:∀b:Addr,b∉(cxOf CX P w K mg base N j d f cd A g s H E).ex:=λb z=>absurd (show b∈([]:List Addr) from z) (by simp)
 refine⟨⟨m.mod,S.kind,rfl,rfl,A7 _,λy z c h1 l=>?_,λy hy=>?_,λy c _ h=>?_,λ_=>hd,A18 m.frames,.inr ⟨rfl,rfl⟩,λb z=>absurd z (o b),m.bs,m.bsz,λb _ _=>o b,λb z=>absurd z (o b),m.funs,m.frf⟩,
  rfl,m.bare,Un.kept hk,⟨_,x.toInCall.ns,λi y v h1 l h3=>?_⟩,λy c h=>⟨_,x.cell y c h⟩,m.hok.fresh (A7 _),λy c h=>?_,λp hp=>absurd (show p∈([]:List (Addr×Obj)) from hp) (by simp),m.hok.kept hk,?_⟩
 ·exact name_of_addr x.apart (F1 h1) (F1 l)
 ·have hy:d.names.lookup y=some .cell\/d.names.lookup y=some .free:=hy;rcases hy with hy|hy
  ·exact qRA hy
  ·exact absurd rfl (S.nofree _ (F1 hy))
 ·exact U2 (x.above y c (F1 h))
 ·have hi:i<vs.length:=by
   unfold start at l;by_cases hi:i<vs.length
   ·exact hi
   ·rw[F4 (by simpa using hi)] at l
    rw[List.getElem?_replicate] at l
    split at l<;>cases l
  have ha:vs[i]?=some v:=by
   unfold start at l;rw[G6 (by simpa using hi),B6] at l
   cases e:vs[i]? with
   |none=>rw[e] at l;cases l
   |some a=>rw[e] at l;cases l;rfl
  obtain⟨u,hu,rv⟩:=r.get ha;have hp:ps[i]?=some y:=by
   rw[<- S.pre,Q2 (by lia)];exact h1
  have t:ps.Nodup:=by rw[<- S.pre];exact S.nd.sublist (T6 _ _)
  refine⟨u,rv,?_⟩;rcases S.par y (B0 hp) with k|k
  ·exact .inl ⟨k,qO8 t hp hu k⟩
  ·obtain⟨c,e⟩:=qRA (n:=s.heap.objs.size+1) k;refine .inr ⟨.inl k,c,e,?_⟩;have q:=x.cell y c e;rw[qOA t hp hu (by show d.names.lookup y≠_;rw[k];decide)] at q
   exact q
 ·exact m.hok.fresh (U2 (x.above y c (F1 h)))
 ·unfold start;show _=N.length;rw[A9,A0,A08]
  lia
theorem qc5 {CX:CXT}{P:B20}{w:World}{K:PySem.W.Frag}{mg:Str->Option Value}{base:Heap}{k:Nat}{f:Addr}{name c:Str}{g:B45}{body:List Stmt}{a:Scope}{dV kV p pm d ct oc:Value}{an od:Option Addr}
  {a1:Array (Option Value)} {N ps:List Str} {sp:Sp} (lk:K.lookup f=some ⟨oc,od,.func (Q5 name c g body a dV kV p pm an d ct),a1⟩) (hcd:c9 K d c=true) (S:FnScope N ps a)
  (m:∀vs H Q E,sp vs H Q E->vs.length=ps.length)
  (h:∀ (A:Around) (outer:List Env) (s:Shared) (H:Hp) (vs:List V) (Q:VK) (E:XK),Room k (A.deeper (envOfC c a s.heap.objs.size f d))->sp vs H Q E->
   ∃t,PSs (cxOf CX P w K mg base N c a f d A outer s H E) body t/\t {nx:=λ_ H'=>Q .non H',rt:=Q} (start N vs) H):
  FnOk P w K mg base CX (k+1) f (Q5 name c g body a dV kV p pm an d ct) ps sp:=by
 refine⟨m,λA outer s H a2 us vs Q E hr e0 hb r z=>?_⟩;have hl:=m _ _ _ _ z;have KX:K.In s.heap:=e0.mod.kin.keeps λb o e=>(e0.bs b o e).1;have a0:s.heap.NoLimit:=e0.mod.nolimit.keeps λb o e=>(e0.bs b o e).1;have i:∀y∈ps.zip us,a.names.lookup y.1=some .local\/(a.names.lookup y.1=some .cell/\((B38 (s.heap.objs.size+1) a.names []).lookup y.1).isSome=true):=λ⟨n,v⟩ hy=>by
  rcases S.par n (A07 hy).1 with q|q
  ·exact .inl q
  ·exact .inr ⟨q,Z3 _ _ _ (.inl q)⟩
 refine codeAny_call_function hr.depth (KX _ _ lk) rfl S.co S.gen rfl (PySem.W.codeRec_of KX hcd) (hb _ _ _ _ ?_);refine wpAny_newFunctionEnv_cells S.kind i λa3 he s1 x=>?_;subst he;refine⟨a0.keeps x.toInCall.keep,codeAny_func ?_⟩;obtain⟨t,ht,hq⟩:=h A outer s H vs Q E (hr.deeper _) z;have I:Inv (cxOf CX P w K mg base N c a f d A outer s H E) [] (start N vs) H s1:=qUJ S hr.hd e0 hl r x;refine B26 (ht [] s1 (start N vs) H _ I hq) (λfl s' j=>?_) λe s' j=>j;have l:∀{σ':St} {H':Hp} {v:V} {u:Value},Inv (cxOf CX P w K mg base N c a f d A outer s H E) [] σ' H' s'->RelV v u->Q v H'->CE outer P w H s Q u s':=
  λ{σ' H' v u} J rv q=>⟨v,H',J.os,J.bare,J.base,J.hok,rv,q⟩
 cases fl with
 |ret u=>
  obtain⟨v,σ',H',J,rv,q⟩:=j;exact l J rv q
 |next=>
  obtain⟨σ',H',J,q⟩:=j;exact l (v:=V.non) (u:=Q0) J rfl q
 |brk=>
  obtain⟨_,_,_,q⟩:=j;exact V2 q
 |cont=>
  obtain⟨_,_,_,q⟩:=j;exact V2 q
section
variable{X:Cx}{x:Str}{p pos:Pos}{e:Expr}{es:List Expr}{t:TA}{id T:String}{r:List V->Hp->VK->Prop}
def tCB (r:List V->Hp->VK->Prop)(t:TA):TE:=λσ H Q=>t σ H λvs H1=>r vs H1 Q
theorem qA9 (i:qCF X (.builtin id) r) (f:Gl X x) (g:X.mg x=none) (d:B23 x=some (.builtin id)) (l:PA X (e::es) t) (k:x ≠ "__name__":=by decide) (b:(x==("__debug__" : Str))=false:=by decide)
  (j:B24 (e::es) X.env=(false,eval e X.env)::B24 es X.env:=by rfl) (a:(backTo pos (B24 es X.env)).any (·.1)=false:=by rfl):PE X (.Call (.Name x p) (e::es) [] pos) (tCB r t):=by
 intro c s σ H Q I h;refine B77 (qGZ I f g d ?_ k b);exact PyProof.Rows.callWith_builtin1 (thn (l pos c s σ H _ I h) λus s1 ⟨vs,H1,I1,r1,q1⟩=>i c s1 σ H1 vs us Q I1 r1 q1) j a
theorem qAD (i:qCF X (.type T) r) (f:Gl X x) (g:X.mg x=none) (d:B23 x=some (.type T)) (l:PA X (e::es) t) (k:x ≠ "__name__":=by decide) (b:(x==("__debug__" : Str))=false:=by decide)
  (j:B24 (e::es) X.env=(false,eval e X.env)::B24 es X.env:=by rfl) (a:(backTo pos (B24 es X.env)).any (·.1)=false:=by rfl):PE X (.Call (.Name x p) (e::es) [] pos) (tCB r t):=by
 intro c s σ H Q I h;refine B77 (qGZ I f g d ?_ k b);exact K9 (thn (l pos c s σ H _ I h) λus s1 ⟨vs,H1,I1,r1,q1⟩=>i c s1 σ H1 vs us Q I1 r1 q1) j a
end
end L2
namespace HT
open PySem PyProof.Rows
noncomputable def lexLt:List Int->List Int->Bool
 |[],[]=>false
 |[],_::_=>true
 |_::_,[]=>false
 |x::xs,y::ys=>if x=y then lexLt xs ys else decide (x<y)
theorem lexLt_cons (x y:Int)(xs a:List Int):lexLt (x::xs) (y::a)=if x=y then lexLt xs a else decide (x<y):=rfl
theorem qM2:lexLt [] []=false:=rfl
theorem qK7 (y:Int)(a:List Int):lexLt [] (y::a)=true:=rfl
theorem qK8 (x:Int)(xs:List Int):lexLt (x::xs) []=false:=rfl
theorem eqAt_int (A:Around)(s:Shared)(a:Int)(t:Tok)(c:Int)(u:Tok):∃e,SeqAt.EqAt A s (.int a t) (.int c u) e/\(e=true↔a=c):=
 ⟨(a==c),m9 a t c u,by simp⟩
theorem rcLt_int (A:Around)(s:Shared)(a:Int)(t:Tok)(c:Int)(u:Tok)(prog:B20)(w:World)(E:Value->Shared->Prop)(Q:Value->Shared->Prop)(h:Q (.bool (decide (a<c))) s):
  wpAny (model prog w) A (richCompare .Lt (.int a t) (.int c u)) Q E s:=
 (PyProof.Rows.lt_int h:wpAny (model prog w) A (B35 .Lt (.int a t) (.int c u)) Q E s)
section
open PySem.SeqAt
open PySem.AutoSeq1 (wpAny_loadPart')
open PySem.MeetsSeq PySem.MeetsSeq2 PySem.MeetsSeq3
theorem tuple_lt_ints (l b:Addr)(i f:Array Value)(n n2:Nat)(dd a3:Option Addr)(sl a2:Array (Option Value))(ns ms:List Int)(hi:B25 i.toList ns)(hj:B25 f.toList ms):
  Meets (Builtin.«tuple.__lt__» ⟨[.ref l,.ref b],[]⟩)
   (fun _ R s=>s.heap.get? l=some { cls:=.type "tuple",dict:=dd,data:=.seq i n,slots:=sl }/\s.heap.get? b=some { cls:=.type "tuple",dict:=a3,data:=.seq f n2,slots:=a2 }/\
    R (.ok (.ret (.bool (lexLt ns ms)))) s):=
 .of_wp λr w A R s h=>by
  obtain⟨hp,g,d,tk,os⟩:=s;obtain⟨hl,hb,h⟩:=h;have f2:=t5;have z1:i.size=ns.length:=by rw[<- hi.length];simp
  have z2:f.size=ms.length:=by rw[<- hj.length];simp
  wp_walk using B91 hl,B91 hb,wpAny_forIn_list _ (fun v b s'=>b.1=none/\s'=⟨hp,g,d,tk,os⟩/\∃ (vs ws:List Value) (ns' ms':List Int),v=vs.zip ws/\
   B25 vs ns'/\B25 ws ms'/\ns'.length+f.size=ms'.length+i.size/\R (.ok (.ret (.bool (lexLt ns' ms')))) ⟨hp,g,d,tk,os⟩) _
  case turn=>
   rintro⟨y,x⟩ v b s' ⟨z,rfl,vs,ws,ns',ms',k,a0,m,j,p⟩;cases a0 with
   |nil=>rw[List.zip_nil_left] at k;cases k
   |cons a t hvi'=>
    cases m with
    |nil=>rw[List.zip_nil_right] at k;cases k
    |cons c u hwi'=>
     rw[n0] at k
     injection k with hyx hrest
     injection hyx with hy hx
     subst hy hx;rw[lexLt_cons] at p;simp only[D6] at j;obtain⟨e,he,o⟩:=eqAt_int A.in1 ⟨hp,g,d,tk,os⟩ a t c u;refine B16 (he r w _ _ ?_);cases e with
     |true=>
      rw[if_pos (o.mp rfl)] at p
      wp_walk
      exact⟨rfl,rfl,_,_,_,_,hrest,hvi',hwi',by lia,p⟩
     |false=>
      rw[if_neg (λq=>absurd (o.mpr q) B1)] at p;have a1:=rcLt_int A.in1 ⟨hp,g,d,tk,os⟩ a t c u r w
      wp_walk using a1
      exact⟨_,rfl,by simpa using p⟩
  case fin=>
   rintro⟨b1,b2⟩ s' ⟨z,rfl,vs,ws,ns',ms',k,a0,m,j,p⟩;simp only at z;subst z;have hv:lexLt ns' ms'=decide (i.size<f.size):=by
    cases a0 with
    |nil=>
     cases m with
     |nil=>
      simp only[N9] at j;rw[qM2];exact(decide_eq_false (by lia)).symm
     |cons c u hw=>
      simp only[N9,D6] at j;rw[qK7];exact(decide_eq_true (by lia)).symm
    |cons a t hv=>
     cases m with
     |nil=>
      simp only[N9,D6] at j;rw[qK8];exact(decide_eq_false (by lia)).symm
     |cons c u hw=>
      rw[n0] at k;cases k
   rw[hv] at p
   wp_walk
   exact⟨_,rfl,by simpa[a9] using p⟩
  case h=>
   exact⟨rfl,rfl,i.toList,f.toList,ns,ms,rfl,hi,hj,by lia,h⟩
end
section
variable{prog:B20}{w:World}{A:Around}{E:Value->Shared->Prop}{s:Shared}
theorem lt_tupInts {l b:Addr}{c a:Array Value}{ns g:List Int}{Q:Value->Shared->Prop}(hl:IsTup s.heap l c)(t:IsTup s.heap b a)(hi:B25 c.toList ns)(y:B25 a.toList g)
  (hu:A.units<cLine) (h:Q (.bool (lexLt ns g)) s):wpAny (model prog w) A (B35 .Lt (.ref l) (.ref b)) Q E s:=by
 obtain⟨⟨v,z,o,sl⟩,r,q,n,m⟩:=id hl;obtain⟨⟨p,k,j,i⟩,d,e,u,f⟩:=id t;simp only at q m e f;subst q m e f;exact richCompare_meets_room (op:=.Lt) ⟨_,r,rfl⟩ ⟨_,d,rfl⟩ V6 Z4 (Y7 _ _) (tuple_lt_ints l b c a n u z k sl i ns g hi y)
  ⟨r,d,show A15 (lexLt ns g)≠A19/\Q (.bool (lexLt ns g)) s from⟨(λx=>nomatch x),h⟩⟩ hu
theorem cat_tup {t b:Addr}{vs a:List Value}{Q:Value->Shared->Prop}(ht:IsTup s.heap t vs.toArray)(y:IsTup s.heap b a.toArray)(x:vs≠[])
  (h1:a=[]->Q (.ref t) s) (z:a≠[]->Q (.ref s.heap.objs.size) {s with heap:=s.heap.push {cls:=.type "tuple",data:=.seq (vs++a).toArray}})
  (hsz:vs.length+a.length<=B18):wpAny (model prog w) A (B43 .Add (.ref t) (.ref b)) Q E s:=by
 obtain⟨⟨cls,r,data,u⟩,k,q,n,m⟩:=id ht;obtain⟨⟨p,i,l,g⟩,c,f,o,h⟩:=id y;simp only at q m f h;subst q m f h;have e:vs.toArray++a.toArray=(vs++a).toArray:=by simp
 by_cases j:a=[]
 ·exact concat_meets ⟨_,k,rfl⟩ ⟨_,c,rfl⟩ noFill_tuple_add seq_tuple_add Z5 Y8 (Y0 _ _)
   (tuple_addW1 t b vs.toArray a.toArray n o r i u g (by simpa using x) (by simp[j])) ⟨k,c,h1 j⟩
 ·refine concat_meets ⟨_,k,rfl⟩ ⟨_,c,rfl⟩ noFill_tuple_add seq_tuple_add Z5 Y8 (Y0 _ _)
   (tuple_addW2 t b vs.toArray a.toArray n o r i u g (by simpa using x) (by simpa using j) (by rw[C1,C1];exact hsz)) ⟨k,c,?_⟩
  rw[e];exact z j
noncomputable def sIx (n d:Nat):Option Int->Nat
 |none=>d
 |some v=>if v<0 then(v+(n:Int)).toNat else min v.toNat n
theorem sIx_none (n d:Nat):sIx n d none=d:=rfl
theorem sIx_nat (n d k:Nat):sIx n d (some (k:Int))=min k n:=by
 show(if(k:Int)<0 then((k:Int)+(n:Int)).toNat else min (k:Int).toNat n)=min k n
 rw[if_neg (by lia),B8]
end
end HT
namespace L2
open PySem PySem.Spec PyProof.Rows
abbrev TO:=St->Hp->(Option Int->Hp->Prop)->Prop
def PO (X:Cx)(e:Option Expr)(t:TO):Prop:=
 ∀(Ab:List (Addr×Obj)) (s:Shared) (σ:St) (H:Hp) (Q:Option Int->Hp->Prop),Inv X Ab σ H s->t σ H Q->
  wpAny (model X.prog X.w) X.A (evalPart e X.env) (λu s'=>∃o H',Inv X Ab σ H' s'/\IsPart u o/\Q o H') X.xe s
def qYQ:TO:=λ_ H Q=>Q none H
def qcK (t:TE):TO:=λσ H Q=>t σ H λx H1=>∃i,x=.int i/\Q (some i) H1
theorem qFY {ns:List Int}:∀{us:List Value},Vals (ns.map V.int) us->B25 us ns:=by
 induction ns with
 |nil=>intro us r;rw[n4] at r;cases r;exact .nil
 |cons n ns ih=>
  intro us r;rw[D0] at r;cases r with
  |cons r1 r2=>
   obtain⟨t,e⟩:=r1;subst e;exact .cons n t (ih r2)
section
variable{X:Cx}{e:Expr}{te:TE}{lo hi:Option Expr}{tl th:TO}{pos p2:Pos}
theorem qOV:PO X none qYQ:=by
 intro a s σ H Q I h;rw[evalPart_none];exact B17 ⟨none,H,I,.none,h⟩
theorem qOU (h:PE X e te):PO X (some e) (qcK te):=by
 intro a s σ H Q I b;rw[evalPart_some];refine thn (h a s σ H _ I b) λu s1 ⟨x,H1,I1,r1,q1⟩=>?_;obtain⟨i,rfl,q⟩:=q1;obtain⟨t,rfl⟩:=r1;exact⟨some i,H1,I1,.int i t,q⟩
def SlR (X:Cx)(r:V->Option Int->Option Int->Hp->VK->Prop):Prop:=
 ∀(Ab:List (Addr×Obj)) (s:Shared) (σ:St) (H:Hp) (x:V) (v vl vu:Value) (lo hi:Option Int) (sl:Addr) (Q:VK),Inv X Ab σ H s->RelV x v->s.heap.IsSliceOf sl vl vu .none->IsPart vl lo->IsPart vu hi->r x lo hi H Q->
  ∃T id,typeLookup (.type T) "__getitem__" = pure (some (.builtin id))/\s.TypeIs v T/\wpAny (model X.prog X.w) X.A (getItem v (.ref sl)) (EP X Ab σ Q) X.xe s
def tSl (r:V->Option Int->Option Int->Hp->VK->Prop)(te:TE)(tl th:TO):TE:=λσ H Q=>te σ H λx H1=>tl σ H1 λl H2=>th σ H2 λu H3=>r x l u H3 Q
theorem qLU {r:V->Option Int->Option Int->Hp->VK->Prop}(f:SlR X r)(k:PE X e te)(i:PO X lo tl)(j:PO X hi th):PE X (.Subscript e (.Slice lo hi none p2) pos) (tSl r te tl th):=by
 intro a s σ H Q I h;refine Subscript_ (thn (k a s σ H _ I h) λv s1 ⟨x,H1,I1,r1,q1⟩=>?_);refine wpAny_Slice (thn (i a s1 σ H1 _ I1 q1) λvl s2 ⟨l,H2,I2,pl,q2⟩=>thn (j a s2 σ H2 _ I2 q2) λvu s3 ⟨u,H3,I3,pu,q3⟩=>?_);rw[evalPart_none];refine B17 ?_;have c:Inv X a σ H3 {s3 with heap:=s3.heap.push {cls:=.type "slice",data:=.fields #[vl,vu,.none]}}:=I3.kept (t':=s3.toks) λb n q=>A5 _ q;obtain⟨T,o,m,g,d⟩:=f a {s3 with heap:=s3.heap.push {cls:=.type "slice",data:=.fields #[vl,vu,.none]}} σ H3 x v vl vu l u s3.heap.objs.size Q c r1 (B15 ..) pl pu q3;show wpAny (model X.prog X.w) X.A (subscriptTail e (.Slice lo hi none p2) v (.ref s3.heap.objs.size)) (EP X a σ Q) X.xe {s3 with heap:=s3.heap.push {cls:=.type "slice",data:=.fields #[vl,vu,.none]}};exact tail_any (ops:=[.ref s3.heap.objs.size,v]) g m d (by with_unfolding_all rfl)
noncomputable def cutV (xs:List V)(lo hi:Option Int):List V:=(xs.drop (HT.sIx xs.length 0 lo)).take (HT.sIx xs.length xs.length hi-HT.sIx xs.length 0 lo)
theorem qPO (xs:List V)(lo hi:Option Int):(cutV xs lo hi).length<=xs.length:=by
 unfold cutV;rw[C4,G7]
 lia
def qcY (K:PySem.W.Frag):R2:=λx y H Q=>∃a b xs ys,x=.ref a/\y=.ref b/\SqT K H a xs/\SqT K H b ys/\xs≠[]/\xs.length+ys.length<=B18/\
 (ys=[]->Q (.ref a) H)/\(ys≠[]->∀p,H p=none->Q (.ref p) (Ag H p (.tup (xs++ys))))
theorem Vals.nil_iff {xs:List V}{a:List Value}(r:Vals xs a):a=[]↔xs=[]:=by
 cases r with
 |nil=>simp
 |cons _ _=>simp
theorem qZF:OpR X (B43 .Add) (qcY X.K):=by
 intro Ab s σ H x y v u Q I k ry h;obtain⟨a,b,n,r,rfl,rfl,ha,i,p,f,j,t⟩:=h;cases k;cases ry;obtain⟨m,d,g,_⟩:=I.tuple ha;obtain⟨e,c,l,_⟩:=I.tuple i;refine HT.cat_tup g l (λz=>p (d.nil_iff.mp z)) (λz=>⟨.ref a,H,I,rfl,j (c.nil_iff.mp z)⟩) (λz=>?_) (by rw[<- d.length,<- c.length];exact f)
 refine⟨.ref s.heap.objs.size,_,I.laid (t':=s.toks) (o:=.tup (n++r)) (λb ob q=>A5 _ q) (A7 _) ?_,rfl,t (λw=>z (c.nil_iff.mpr w)) _ (I.hok.fresh (A7 _))⟩;exact⟨by rw[A9];exact f,_,d.append c,IsTup.new _ _⟩
end
noncomputable def ixN (n:Nat)(i:Int):Option Nat:=if 0<=i then(if i<n then some i.toNat else none) else if -(n:Int)<=i then some (i+n).toNat else none
noncomputable def atI {α:Type}(xs:List α)(i:Int):Option α:=(ixN xs.length i).bind λj=>xs[j]?
theorem qUG {n:Nat}{i:Int}{j:Nat}(h:ixN n i=some j):seqIndex? i n=some j/\j<n/\-(n:Int)<=i/\i<n:=by
 unfold ixN at h;by_cases b:0<=i
 ·rw[if_pos b] at h;by_cases a:i<n
  ·rw[if_pos a] at h;have e:i.toNat=j:=D5 h;exact⟨by rw[seqIndex_of b a,e],by lia,by lia,a⟩
  ·rw[if_neg a] at h;cases h
 ·rw[if_neg b] at h;by_cases a : -(n:Int)<=i
  ·rw[if_pos a] at h;have e:(i+n).toNat=j:=D5 h;exact⟨by rw[seqIndex_neg (by lia) a,e],by lia,a,by lia⟩
  ·rw[if_neg a] at h;cases h
theorem qVQ {α:Type}{xs:List α}{i:Int}{v:α}(h:atI xs i=some v):∃j,seqIndex? i xs.length=some j/\xs[j]?=some v/\j<xs.length/\-(xs.length:Int)<=i/\i<xs.length:=by
 unfold atI at h;cases e:ixN xs.length i with
 |none=>rw[e] at h;cases h
 |some j=>
  rw[e] at h;obtain⟨b,c,a,d⟩:=qUG e;exact⟨j,b,h,c,a,d⟩
theorem qVP {α:Type}{xs:List α}{j:Nat}{v:α}(h:xs[j]?=some v):atI xs (j:Int)=some v:=by
 have a:j<xs.length:=(A4.mp h).1;have e:ixN xs.length (j:Int)=some j:=by
  unfold ixN;rw[if_pos (by lia),if_pos (by lia)];simp
 unfold atI;rw[e];exact h
def qaI (b:Expr):Prop:=∀o i,subscripted b false o i=operate [o,i] (getItem o i)
def IxR (X:Cx)(r:R2):Prop:=
 ∀(value slice:Expr) (Ab:List (Addr×Obj)) (s:Shared) (σ:St) (H:Hp) (x y:V) (v u:Value) (Q:VK),Inv X Ab σ H s->RelV x v->RelV y u->r x y H Q->
  subscripted slice false v u=operate [v,u] (getItem v u)->wpAny (model X.prog X.w) X.A (subscriptTail value slice v u) (EP X Ab σ Q) X.xe s
def MtR (X:Cx)(id:String)(r:V->List V->Hp->VK->Prop):Prop:=
 ∀(Ab:List (Addr×Obj)) (s:Shared) (σ:St) (H:Hp) (x:V) (xs:List V) (v:Value) (us:List Value) (Q:VK),Inv X Ab σ H s->RelV x v->Vals xs us->r x xs H Q->
  wpAny (model X.prog X.w) X.A (call (.builtin id) (v::us)) (EP X Ab σ Q) X.xe s
section
variable{X:Cx}{a b:Expr}{ta tb:TE}{pos:Pos}
theorem qBQ {r:R2}(g:IxR X r)(l:PE X a ta)(e:PE X b tb)(k:qaI b):PE X (.Subscript a b pos) (tOp r ta tb):=by
 intro c s σ H Q I h;exact Subscript_ (binT l e I h λv u d x y i f j m q=>g a b c d σ i x y v u Q f j m q (k _ _))
def rIxL (K:PySem.W.Frag):R2:=λx y H Q=>∃p xs i v,x=.ref p/\y=.int i/\SqL K H p xs/\atI xs i=some v/\Q v H
def rIxT (K:PySem.W.Frag):R2:=λx y H Q=>∃p xs i v,x=.ref p/\y=.int i/\SqT K H p xs/\atI xs i=some v/\Q v H
theorem qCU:IxR X (rIxL X.K):=by
 intro c d l s σ H x y v u Q I rx ry h o;obtain⟨p,xs,i,z,rfl,rfl,hq,he,q⟩:=h;cases rx;obtain⟨t,rfl⟩:=ry;obtain⟨k,r,g,hz⟩:=I.list hq;obtain⟨j,b,h2,h3,h4,h5⟩:=qVQ he;obtain⟨w,n,f⟩:=r.get h2;have hl:=r.length;have hn:=qNE;have a:EP X l σ Q w s:=⟨z,H,I,f,q⟩;by_cases m:0<=i
 ·have e:i.toNat=j:=by
   rw[seqIndex_of m h5] at b;exact D5 b
  exact item_listR g.isList m (by lia) (by rw[e];simpa using n) a o
 ·have e:(i+(k.toArray.size:Int)).toNat=j:=by
   rw[seqIndex_neg (by lia) h4] at b
   rw[C1,<- hl];exact D5 b
  exact subscriptTail_builtinR (x:=w) g.isList.typeIs slot_list_getitem.lookup
   (wpAny_getItem_list_neg (Q:=λr s'=>r=w/\EP X l σ Q r s') g.isList (by lia) (by rw[C1]<;>lia) (by lia) (by rw[e];simpa using n) ⟨rfl,a⟩) o
theorem qCD:IxR X (rIxT X.K):=by
 intro b c e s σ H x y v u Q I k ry h hs;obtain⟨p,xs,i,z,rfl,rfl,o,m,q⟩:=h;cases k;obtain⟨t,rfl⟩:=ry;obtain⟨a0,r,f,hz⟩:=I.tuple o;obtain⟨j,n,g,h3,h4,h5⟩:=qVQ m;obtain⟨w,ew,d⟩:=r.get g;have l:=r.length;have hn:=qNE;have a:EP X e σ Q w s:=⟨z,H,I,d,q⟩;exact subscriptTail_builtinR (x:=w) f.typeIs slot_tuple_getitem.lookup
  (getItem_tuple (j:=j) (Q:=λr s'=>r=w/\EP X e σ Q r s') f (by lia) (by lia) (by rw[C1,<- l];exact n) (by simpa using ew) ⟨rfl,a⟩) hs
theorem qS1 (a:List Value) (n j:Nat) (u:Value):T8 (·.setIfInBounds j u) {cls:=.type "list",data:=.seq a.toArray n}={cls:=.type "list",data:=.seq (a.set j u).toArray n}:=by
 simp[T8]
theorem Inv.lst {Ab:List (Addr×Obj)}{σ:St}{H:Hp}{s:Shared}{p:Addr}{xs:List V}(I:Inv X Ab σ H s)(h:H p=some (.lst xs)):
  ∃(its:List Value) (n:Nat),Vals xs its/\s.heap.get? p=some {cls:=.type "list",data:=.seq its.toArray n}/\xs.length<=B18:=by
 obtain⟨z,its,n,r,e⟩:=I.hok p _ h;exact⟨its,n,r,e,z⟩
theorem Inv.lstUpd {Ab:List (Addr×Obj)}{σ:St}{H:Hp}{s:Shared}{p:Addr}{xs d:List V}{a its':List Value}{n c:Nat}{f:Obj->Obj}(I:Inv X Ab σ H s)(h:H p=some (.lst xs))
  (j:s.heap.get? p=some {cls:=.type "list",data:=.seq a.toArray n}) (g:f {cls:=.type "list",data:=.seq a.toArray n}={cls:=.type "list",data:=.seq its'.toArray c}) (r:Vals d its') (k:d.length<=B18) (t:Nat):
  Inv X Ab σ (Ag H p (.lst d)) {s with heap:=s.heap.update p f,toks:=t}:=by
 have e:(s.heap.update p f).get? p=some {cls:=.type "list",data:=.seq its'.toArray c}:=by
  rw[L4 f j (by rw[g]<;>rfl),g]
 refine I.write (x:=p) (e:=p) (by rw[h];trivial) (.inl rfl) (λb u i q=>(F5 _ _ (J3 i)).trans q) ⟨_,e⟩ ?_
 exact⟨k,its',c,r,e⟩
def qcX:V->V->V->Hp->(Hp->Prop)->Prop:=λo i v H Q=>∃p xs k j,o=.ref p/\i=.int k/\H p=some (.lst xs)/\ixN xs.length k=some j/\Q (Ag H p (.lst (xs.set j v)))
theorem qLK:PSet X qcX:=by
 intro x s σ H o i v ov iv u Q I y ri rv h;obtain⟨p,xs,k,j,rfl,rfl,l,z,q⟩:=h;cases y;obtain⟨t,rfl⟩:=ri;obtain⟨a,n,r,e,hz⟩:=I.lst l;obtain⟨b,h2,f,g⟩:=qUG z;have d:=r.length;have hn:=qNE;have w:Inv X x σ (Ag H p (.lst (xs.set j v))) {s with heap:=s.heap.update p (T8 (·.setIfInBounds j u))}:=
  I.lstUpd l e (qS1 a n j u) (r.set rv j) (by rw[A09];exact hz) s.toks
 by_cases m:0<=k
 ·have c:k.toNat=j:=by
   rw[seqIndex_of m g] at b;exact D5 b
  exact PySem.W.ki_setAt e m (by lia) (by rw[C1,<- d];exact g) (by rw[c];exact⟨_,w,q⟩)
 ·have c:(k+(a.toArray.size:Int)).toNat=j:=by
   rw[seqIndex_neg (by lia) f] at b
   rw[C1,<- d];exact D5 b
  exact PySem.W.ki_setBack e (by lia) (by rw[C1,<- d];exact f) (by lia) (by rw[c];exact⟨_,w,q⟩)
theorem qN4 (lo hi:Option Int)(n:Nat):(B73 lo hi none n).1=((HT.sIx n 0 lo:Nat):Int)/\(B73 lo hi none n).2.1=((HT.sIx n n hi:Nat):Int)/\(B73 lo hi none n).2.2=1:=by
 refine⟨?_,?_,rfl⟩
 ·cases lo with
  |none=>simp[B73,HT.sIx]
  |some i=>
   simp only[B73,HT.sIx,A68,show(1:Int)>0 by decide,if_true]
   by_cases h:i<0
   ·simp only[h,if_true]<;>lia
   ·simp only[h,if_false]<;>lia
 ·cases hi with
  |none=>simp[B73,HT.sIx]
  |some i=>
   simp only[B73,HT.sIx,A68,show(1:Int)>0 by decide,if_true]
   by_cases h:i<0
   ·simp only[h,if_true]<;>lia
   ·simp only[h,if_false]<;>lia
theorem qLJ (a:List Value)(lo hi:Option Int):slicePick a.toArray lo hi none=((a.drop (HT.sIx a.length 0 lo)).take (HT.sIx a.length a.length hi-HT.sIx a.length 0 lo)).toArray:=by
 obtain⟨b,c,d⟩:=qN4 lo hi a.toArray.size;unfold slicePick;rw[b,c,d];simp only[sliceRange_one,pick_run,C1]<;>rfl
def rSlL (K:PySem.W.Frag):V->Option Int->Option Int->Hp->VK->Prop:=λx lo hi H Q=>∃a xs,x=.ref a/\SqL K H a xs/\∀p,H p=none->Q (.ref p) (Ag H p (.lst (cutV xs lo hi)))
theorem qOM:SlR X (rSlL X.K):=by
 intro t s σ H x v u y e f z Q I k n p l h;obtain⟨a,c,rfl,j,q⟩:=h;cases k;obtain⟨m,r,g,i⟩:=I.list j;have d:=r.length;refine⟨"list",_,slot_list_getitem.lookup,g.isList.typeIs,?_⟩;refine wpAny_getItem_list_slice g.isList n p l .none (by simp) ?_ (by rw[C1]<;>lia)
 rw[qLJ,<- d];refine⟨.ref s.heap.objs.size,_,I.laid (t':=s.toks) (o:=.lst (cutV c e f)) (λb w q=>A5 _ q) (A7 _) ?_,rfl,q _ (I.hok.fresh (A7 _))⟩;exact⟨F3 (qPO c e f) i,_,0,(r.drop (HT.sIx c.length 0 e)).take (HT.sIx c.length c.length f-HT.sIx c.length 0 e),B4 _ rfl⟩
noncomputable def qM4:V->Bool
 |.non=>true
 |.bl _=>true
 |.int _=>true
 |.str _=>true
 |_=>false
noncomputable def eqV:V->V->Bool
 |.non,.non=>true
 |.bl a,.bl b=>a==b
 |.bl a,.int b=>(if a then 1 else 0)==b
 |.int a,.bl b=>a==(if b then 1 else 0)
 |.int a,.int b=>a==b
 |.str a,.str b=>a==b
 |_,_=>false
theorem qc7 {A:Around}{s:Shared}{y x:V}{u v:Value}(f:RelV y u)(c:RelV x v)(g:qM4 y=true)(e:qM4 x=true):SeqAt.EqAt A s u v (eqV y x):=by
 cases y with
 |non=>
  cases f;cases x with
  |non=>cases c;exact A79 _
  |bl b=>cases c;exact SeqAt.EqAt.none_bool b
  |int b=>obtain⟨t,rfl⟩:=c;exact SeqAt.EqAt.none_int b t
  |str b=>obtain⟨t,rfl⟩:=c;exact SeqAt.EqAt.none_str b t
  |_=>exact absurd (show false=true from e) B1
 |bl a=>
  cases f;cases x with
  |non=>cases c;exact SeqAt.EqAt.bool_none a
  |bl b=>cases c;exact SeqAt.EqAt.bool_bool a b
  |int b=>obtain⟨t,rfl⟩:=c;exact SeqAt.EqAt.bool_int a b t
  |str b=>obtain⟨t,rfl⟩:=c;exact SeqAt.EqAt.bool_str a b t
  |_=>exact absurd (show false=true from e) B1
 |int a=>
  obtain⟨d,rfl⟩:=f;cases x with
  |non=>cases c;exact SeqAt.EqAt.int_none a d
  |bl b=>cases c;exact SeqAt.EqAt.int_bool a d b
  |int b=>obtain⟨t,rfl⟩:=c;exact m9 a d b t
  |str b=>obtain⟨t,rfl⟩:=c;exact A35 a d b t
  |_=>exact absurd (show false=true from e) B1
 |str a=>
  obtain⟨d,rfl⟩:=f;cases x with
  |non=>cases c;exact SeqAt.EqAt.str_none a d
  |bl b=>cases c;exact SeqAt.EqAt.str_bool a d b
  |int b=>obtain⟨t,rfl⟩:=c;exact A36 a d b t
  |str b=>obtain⟨t,rfl⟩:=c;exact SeqAt.EqAt.str_str a d b t
  |_=>exact absurd (show false=true from e) B1
 |_=>exact absurd (show false=true from g) B1
noncomputable def eqU (x:V)(u:Value):Bool:=match u with
 |.none=>eqV .non x
 |.bool b=>eqV (.bl b) x
 |.int i _=>eqV (.int i) x
 |.str z _=>eqV (.str z) x
 |_=>false
theorem qY9 {x y:V}{u:Value}(r:RelV y u)(f:qM4 y=true):eqU x u=eqV y x:=by
 cases y with
 |non=>cases r;rfl
 |bl b=>cases r;rfl
 |int i=>obtain⟨t,rfl⟩:=r;rfl
 |str z=>obtain⟨t,rfl⟩:=r;rfl
 |_=>exact absurd (show false=true from f) B1
theorem qPV {x:V}:∀{xs:List V} {us:List Value},Vals xs us->xs.all qM4=true->us.any (eqU x)=xs.any λy=>eqV y x
 |_,_,.nil,_=>rfl
 |y::xs,u::us,.cons r t,f=>by
  rw[A98,L6] at f;rw[U5,U5,qY9 r f.1,qPV t f.2]
theorem qM0 {A:Around}{s:Shared}{x:V}{v:Value}(rx:RelV x v)(fx:qM4 x=true):∀{xs:List V} {us:List Value},Vals xs us->xs.all qM4=true->∀u∈us,SeqAt.EqAt A s u v (eqU x u)
 |_,_,.nil,_=>λu hu=>by cases hu
 |y::xs,u::us,.cons r t,f=>λu' hu=>by
  rw[A98,L6] at f;rcases C0.mp hu with rfl|hu
  ·rw[qY9 r f.1];exact qc7 r rx f.1 fx
  ·exact qM0 rx fx t f.2 u' hu
noncomputable def inV (x:V)(xs:List V):Bool:=xs.any λy=>eqV y x
def rIn (K:PySem.W.Frag)(neg:Bool):R2:=λx y H Q=>∃p xs,y=.ref p/\(SqL K H p xs\/SqT K H p xs)/\qM4 x=true/\xs.all qM4=true/\Q (.bl (if neg then !inV x xs else inV x xs)) H
theorem qJG:OpR X (B35 .In) (rIn X.K false):=by
 intro j s σ H x y v u Q I e i h;obtain⟨p,k,rfl,hq,f,b,q⟩:=h;cases i;rcases hq with hq|hq
 ·obtain⟨a,r,d,g⟩:=I.list hq;refine SeqAt.in_listAt (eqU x) d.isList (λw c=>qM0 e f r b w (by simpa using c)) ⟨.bl _,H,I,rfl,?_⟩
  rw[show a.toArray.any (eqU x)=a.any (eqU x) by simp,qPV r b]
  exact q
 ·obtain⟨a,r,d,g⟩:=I.tuple hq;refine SeqAt.in_tupleAt (eqU x) d (λw c=>qM0 e f r b w (by simpa using c)) ⟨.bl _,H,I,rfl,?_⟩
  rw[show a.toArray.any (eqU x)=a.any (eqU x) by simp,qPV r b]
  exact q
theorem qA8:qCF X (.builtin "len") (λxs H Q=>∃p ys,xs=[.ref p]/\(SqL X.K H p ys\/SqT X.K H p ys)/\Q (.int ys.length) H):=by
 intro g s σ H xs j Q I r h;obtain⟨p,ys,rfl,hq,q⟩:=h;obtain⟨u,rfl,e⟩:=qE1 r;cases e;have i:=qNE;rcases hq with hq|hq
 ·obtain⟨c,b,d,f⟩:=I.list hq;have a:=b.length;exact Calls.call_len_list d.isList (by simp only[C1]<;>lia) ⟨.int ys.length,H,I.tok _,⟨s.toks+1,by rw[C1,a]⟩,q⟩
 ·obtain⟨c,b,d,f⟩:=I.tuple hq;have a:=b.length;exact len_tuple d (by simp only[C1]<;>lia) ⟨.int ys.length,H,I.tok _,⟨s.toks+1,by rw[C1,a]⟩,q⟩
theorem qI6:qCF X (.type "list") (λxs H Q=>∃p ys,xs=[.ref p]/\(SqL X.K H p ys\/SqT X.K H p ys)/\∀l,H l=none->Q (.ref l) (Ag H l (.lst ys))):=by
 intro t s σ H xs x Q I r h;obtain⟨p,ys,rfl,hq,q⟩:=h;obtain⟨u,rfl,v⟩:=qE1 r;cases v;have d:∀(its:List Value),Vals ys its->ys.length<=B18->∀(h':Heap) (c':Nat),(∀b o',s.heap.get? b=some o'->h'.get? b=some o')->
   h'.get? s.heap.objs.size=some {cls:=.type "list",dict:=none,data:=.seq its.toArray c',slots:=#[]}->EP X t σ Q (.ref s.heap.objs.size) {s with heap:=h'}:=λits a g h' c' c e=>
  ⟨.ref s.heap.objs.size,_,I.laid (t':=s.toks) c (A7 _) (show ObjOk X.prog X.w _ h' _ (.lst ys) from⟨g,its,c',a,e⟩),rfl,q _ (I.hok.fresh (A7 _))⟩
 rcases hq with hq|hq
 ·obtain⟨its,a,m,g⟩:=I.list hq;have f:=a.length;obtain⟨o,k,j,n,i⟩:=m.isList;exact call_list_seq p (.inl rfl) k j i (λh' c' c e=>d its a g h' c' c e) (by simp only[C1]<;>lia)
 ·obtain⟨its,a,m,g⟩:=I.tuple hq;have f:=a.length;obtain⟨o,k,j,n,i⟩:=m;exact call_list_seq p (.inr rfl) k j i (λh' c' c e=>d its a g h' c' c e) (by simp only[C1]<;>lia)
theorem qAJ:qCF X (.type "tuple") (λxs H Q=>∃p ys,xs=[.ref p]/\((SqL X.K H p ys/\∀l,H l=none->Q (.ref l) (Ag H l (.tup ys)))\/(SqT X.K H p ys/\Q (.ref p) H))):=by
 intro i s σ H xs x Q I r h;obtain⟨p,ys,rfl,h⟩:=h;obtain⟨u,rfl,v⟩:=qE1 r;cases v;rcases h with⟨f,q⟩|⟨f,q⟩
 ·obtain⟨a,d,g,m⟩:=I.list f;have k:=d.length;refine call_tuple_list g.isList (λc n=>?_) (by simp only[C1]<;>lia)
  have j:Inv X i σ H {s with heap:=c}:=I.kept (t':=s.toks) n;have t:Inv X i σ (Ag H c.objs.size (.tup ys)) {s with heap:=c.push {cls:=.type "tuple",data:=.seq a.toArray}}:=
   j.laid (t':=s.toks) (λb o e=>A5 _ e) (A7 _) (show ObjOk X.prog X.w _ _ _ (.tup ys) from⟨m,a,d,IsTup.new _ _⟩)
  exact⟨.ref c.objs.size,_,t,rfl,q _ (j.hok.fresh (A7 _))⟩
 ·obtain⟨a,d,g,m⟩:=I.tuple f;exact call_tuple_same g ⟨.ref p,H,I,rfl,q⟩
def tyV (K:PySem.W.Frag)(T:String)(x:V)(H:Hp):Prop:=match x with
 |.str _=>T = "str"
 |.int _=>T = "int"
 |.ref p=>(T = "list"/\∃xs,SqL K H p xs)\/(T = "tuple"/\∃o,K.lookup p=some o/\o.cls=.type "tuple"/\o.dict=none)\/
   (T = "dict"/\((∃Af,H p=some (.dK Af))\/∃Af,H p=some (.dT Af)))\/(T = "set"/\∃S n,H p=some (.set S n))
 |_=>False
theorem qXM {Ab:List (Addr×Obj)}{σ:St}{H:Hp}{s:Shared}{T:String}{x:V}{v:Value}(I:Inv X Ab σ H s)(r:RelV x v)(f:tyV X.K T x H):
  s.TypeIs v T/\∀a,v=.ref a->∃ob,s.heap.get? a=some ob/\ob.dict=none:=by
 cases x with
 |str z=>
  obtain⟨t,rfl⟩:=r;cases(show T = "str" from f);exact⟨typeIs_str s z t,λ_ e=>nomatch e⟩
 |int i=>
  obtain⟨t,rfl⟩:=r;cases(show T = "int" from f);exact⟨typeIs_int s i t,λ_ e=>nomatch e⟩
 |ref p=>
  cases r;rcases f with⟨rfl,u,l⟩|⟨rfl,o,b,m,g⟩|⟨rfl,b⟩|⟨rfl,S,n,b⟩
  ·obtain⟨q,_,j,_⟩:=I.list l;refine⟨j.isList.typeIs,λa e=>?_⟩;cases e;obtain⟨o,n,e,c,g,_⟩:=j;exact⟨o,e,g⟩
  ·refine⟨⟨o,I.kIn p o b,m⟩,λa e=>?_⟩;cases e;exact⟨o,I.kIn _ o b,g⟩
  ·have z:∃o,s.heap.get? p=some o/\o.ExactDict:=by
    rcases b with⟨k,b⟩|⟨k,b⟩
    ·obtain⟨_,_,_,_,o,_,_,e,d,_⟩:=I.hok p _ b;exact⟨o,e,d⟩
    ·obtain⟨_,_,_,_,o,_,_,e,d,_⟩:=I.hok p _ b;exact⟨o,e,d⟩
   obtain⟨o,e,d⟩:=z;refine⟨⟨o,e,d.1⟩,λa h=>?_⟩;cases h;exact⟨o,e,d.2.1⟩
  ·obtain⟨o,_,_,_,e,d,_⟩:=I.hok p _ b;refine⟨⟨o,e,d.1⟩,λa h=>?_⟩;cases h;exact⟨o,e,d.2.1⟩
 |_=>exact V2 f
def tBM0 (K:PySem.W.Frag)(T:String)(r:V->List V->Hp->VK->Prop)(to:TE):TE:=λσ H Q=>to σ H λx H1=>tyV K T x H1/\r x [] H1 Q
def tBM (K:PySem.W.Frag)(T:String)(r:V->List V->Hp->VK->Prop)(to:TE)(t:TA):TE:=λσ H Q=>to σ H λx H1=>tyV K T x H1/\t σ H1 λxs H2=>r x xs H2 Q
variable{o e:Expr}{es:List Expr}{to:TE}{t:TA}{name:Str}{apos cpos:Pos}{T id:String}{r:V->List V->Hp->VK->Prop}
theorem qbK (j:PlainAttrs T) (c:Slot T name id) (d:typeOf (.builtin id)=pure (.type "method_descriptor")) (f:MtR X id r) (i:PE X o to)
  (a:B83 o name X.env (eval o X.env)=eval o X.env:=by rfl) (b:(apos.endLine==cpos.line)=true:=by rfl):PE X (.Call (.Attribute o name apos) [] [] cpos) (tBM0 X.K T r to):=by
 intro e s σ H Q I h;refine wpAny_Call_method0_late a b (thn (i e s σ H _ I h) λv s1 ⟨x,H1,I1,r1,ty,q1⟩=>?_);obtain⟨k,g⟩:=qXM I1 r1 ty;exact⟨T,id,j,c,d,k,g,Z6 rfl (PySem.evalArgs_none (f e s1 σ H1 x [] v [] Q I1 r1 .nil q1))⟩
theorem qN9 (p:PlainAttrs T) (f:Slot T name id) (i:typeOf (.builtin id)=pure (.type "method_descriptor")) (k:MtR X id r) (m:PE X o to) (u:PA X (e::es) t)
  (b:B83 o name X.env (eval o X.env)=eval o X.env:=by rfl)
  (d:((backTo cpos (B24 (e::es) X.env)).all (fun x=>!x.1) && (backToKw cpos (B82 [] X.env)).all (fun x=>x.1.isSome)
   && decide ((e::es).length+([]:List B79).length+(if([]:List B79).isEmpty then 0 else 1)<30))=true:=by rfl)
  (c:(apos.endLine==cpos.line)=true:=by rfl) (n:B24 (e::es) X.env=(false,eval e X.env)::B24 es X.env:=by rfl) (a:(backTo cpos (B24 es X.env)).any (·.1)=false:=by rfl):
  PE X (.Call (.Attribute o name apos) (e::es) [] cpos) (tBM X.K T r to t):=by
 intro g s σ H Q I h;refine wpAny_Call_method_late b d c rfl (thn (m g s σ H _ I h) λv s1 ⟨x,H1,I1,r1,ty,q1⟩=>?_);obtain⟨q,l⟩:=qXM I1 r1 ty;refine⟨T,id,p,f,i,q,l,?_⟩;have j:=u cpos g s1 σ H1 _ I1 q1;rw[n] at j ⊢;refine Z6 (by show(false||(backTo cpos (B24 es X.env)).any (·.1))=false;rw[a]<;>rfl) (A20 ?_)
 exact thn j λus s2 ⟨vs,H2,I2,r2,q2⟩=>k g s2 σ H2 x vs v us Q I2 r1 r2 q2
end
def MtM (X:Cx)(id:String)(r:V->List V->Hp->VK->Prop):Prop:=
 ∀(Ab:List (Addr×Obj)) (s:Shared) (σ:St) (H:Hp) (x:V) (xs:List V) (v:Value) (us:List Value) (Q:VK),Inv X Ab σ H s->RelV x v->Vals xs us->r x xs H Q->
  wpAny (model X.prog X.w) X.A (call (.builtin id) (v::us)) (EP X Ab σ Q) X.xe s
theorem Vals.one:∀{x:V} {us:List Value},Vals [x] us->∃u,us=[u]/\RelV x u
 |_,_,.cons r .nil=>⟨_,rfl,r⟩
theorem Vals.two:∀{x y:V} {us:List Value},Vals [x,y] us->∃u v,us=[u,v]/\RelV x u/\RelV y v
 |_,_,_,.cons r (.cons q .nil)=>⟨_,_,rfl,r,q⟩
theorem Vals.zero:∀{us:List Value},Vals [] us->us=[]
 |_,.nil=>rfl
theorem Vals.reverse {xs:List V}{a:List Value}(h:Vals xs a):Vals xs.reverse a.reverse:=by
 induction h with
 |nil=>exact .nil
 |cons r t ih=>rw[b7,b7];exact Vals.append ih (.cons r .nil)
theorem Vals.rep {xs:List V}{us:List Value}(h:Vals xs us):∀k:Nat,Vals (E9 k xs).flatten (E9 k us).flatten
 |0=>.nil
 |k+1=>by
  rw[P4,P4,W3,W3];exact Vals.append h (Vals.rep h k)
theorem qNQ (its:List Value):∀(k:Nat) (acc:List Value),
  A92 (λx1 x2=>x1++x2) acc.toArray (E9 k its.toArray)=(acc++(E9 k its).flatten).toArray
 |0,acc=>by simp
 |k+1,acc=>by
  have e:acc.toArray++its.toArray=(acc++its).toArray:=by simp
  have e2:(acc++its)++(E9 k its).flatten=acc++(E9 (k+1) its).flatten:=by
   rw[P4,W3,P5]
  rw[<- e2,<- qNQ its k (acc++its),<- e,P4,V7]
section
variable{X:Cx}{Ab:List (Addr×Obj)}{σ:St}{H:Hp}{s:Shared}{l b:Addr}{xs ys zs:List V}
theorem Inv.lset {a its':List Value}{n:Nat}{f:Array Value->Array Value}{t':Nat}(I:Inv X Ab σ H s)(h:H l=some (.lst xs))
  (e:s.heap.get? l=some {cls:=.type "list",data:=.seq a.toArray n}) (d:f a.toArray=its'.toArray) (b:Vals ys its') (i:ys.length<=B18):
  Inv X Ab σ (Ag H l (.lst ys)) {s with heap:=s.heap.update l (T8 f),toks:=t'}:=by
 have q:=PySem.IsL.update e f;rw[d] at q;refine I.write (x:=l) (e:=l) (by rw[h];exact trivial) (.inl rfl) (λj u c g=>(F5 s.heap (T8 f) (J3 c)).trans g) ⟨_,q⟩ ?_
 exact⟨i,its',_,b,q⟩
theorem Inv.lnew {a:List Value}{t':Nat}(I:Inv X Ab σ H s)(b:Vals ys a)(c:ys.length<=B18):
  Inv X Ab σ (Ag H s.heap.objs.size (.lst ys)) {s with heap:=s.heap.push {cls:=.type "list",data:=.seq a.toArray},toks:=t'}:=
 I.laid (λ_ _ q=>A5 _ q) (A7 _) ⟨c,a,0,b,B4 _ rfl⟩
theorem Inv.fresh (I:Inv X Ab σ H s):H s.heap.objs.size=none:=I.hok.fresh (A7 _)
theorem Inv.lstM (I:Inv X Ab σ H s) (a:H l=some (.lst xs)):xs.length<=B18/\∃(its:List Value) (n:Nat),Vals xs its/\xs.length=its.length/\s.heap.get? l=some {cls:=.type "list",data:=.seq its.toArray n}:=by
 obtain⟨z,its,n,r,e⟩:=I.hok l _ a;exact⟨z,its,n,r,r.length,e⟩
theorem qWI {n:Nat}(h:n<=B18):Y1 n=false:=by
 unfold Y1;exact decide_eq_false (by lia)
end
section
variable{X:Cx}
def qZ4:V->List V->Hp->VK->Prop:=λx vs H Q=>∃l xs y,x=.ref l/\vs=[y]/\H l=some (.lst xs)/\xs.length<B18/\Q .non (Ag H l (.lst (xs++[y])))
theorem qCC:MtM X "list.append" qZ4:=by
 intro g s σ H x i v j Q I d f h;obtain⟨l,m,y,rfl,rfl,b,o,q⟩:=h;cases d;obtain⟨u,rfl,c⟩:=f.one;obtain⟨z,a,n,r,k,e⟩:=I.lstM b;refine B80 F.slot_list_append ⟨_,e,rfl⟩ F.entry_list_append (F.args_list_append_2 _ _) (PySem.list_append l a.toArray n u (by rw[C1];lia)) ⟨e,?_⟩
 refine⟨.non,_,I.lset (its':=a++[u]) b e (by simp) (r.append (.cons c .nil)) ?_,rfl,q⟩
 rw[A9,C2]
 lia
def qW5:V->List V->Hp->VK->Prop:=λx vs H Q=>∃l xs,x=.ref l/\vs=[]/\H l=some (.lst xs)/\Q .non (Ag H l (.lst xs.reverse))
theorem qRX:MtM X "list.reverse" qW5:=by
 intro g s σ H x i v j Q I d f h;obtain⟨l,m,rfl,rfl,c,q⟩:=h;cases d;have b:=f.zero;subst b;obtain⟨z,a,n,r,k,e⟩:=I.lstM c;refine B80 F.slot_list_reverse ⟨_,e,rfl⟩ F.entry_list_reverse (F.args_list_reverse_1 _) (AutoSeq1.list_reverse_list_0 l a.toArray n (by rw[C1];lia)) ⟨e,?_⟩
 refine⟨.non,_,I.lset (its':=a.reverse) c e (by simp) r.reverse ?_,rfl,q⟩
 rw[A32]
 lia
def rCat:R2:=λx y H Q=>∃l b xs zs,x=.ref l/\y=.ref b/\H l=some (.lst xs)/\H b=some (.lst zs)/\xs.length+zs.length<=B18/\∀p,H p=none->Q (.ref p) (Ag H p (.lst (xs++zs)))
theorem qQT:OpR X (B43 .Add) rCat:=by
 intro w s σ H x y v u Q I j d h;obtain⟨l,b,xs,p,rfl,rfl,m,g,hz,q⟩:=h;cases j;cases d;obtain⟨z,c,n,r,hl,e⟩:=I.lstM m;obtain⟨z2,a,t,i,f,o⟩:=I.lstM g;refine PySem.P.add_list e o ?_ (by rw[C1,C1];lia)
 have k:c.toArray++a.toArray=(c++a).toArray:=by simp
 rw[k];exact⟨.ref _,_,I.lnew (t':=s.toks) (r.append i) (by rw[A9];lia),rfl,q _ I.fresh⟩
def rRep:R2:=λx y H Q=>∃l k xs,x=.ref l/\y=.int k/\H l=some (.lst xs)/\-(2^63)<=k/\k<2^63/\xs.length*k.toNat<=B18/\
 ∀p,H p=none->Q (.ref p) (Ag H p (.lst (E9 k.toNat xs).flatten))
theorem qZO {α:Type}(xs:List α)(k:Nat):(E9 k xs).flatten.length=k*xs.length:=by
 induction k with
 |zero=>simp
 |succ k ih=>rw[P4,W3,A9,ih,Nat.succ_mul,Nat.add_comm]
theorem qTQ:OpR X (B43 .Mult) rRep:=by
 intro Ab s σ H x y v u Q I rx ry h;obtain⟨l,k,xs,rfl,rfl,hH,h1,w,p,q⟩:=h;cases rx;obtain⟨t,rfl⟩:=ry;obtain⟨z,b,n,r,hl,e⟩:=I.lstM hH;have d:b.toArray.size*k.toNat<=B18:=by rw[C1,<- hl];exact p
 have i:¬b.toArray.size*k.toNat>(2^63-1)/8:=by
  have:(B18:Nat)<=(2^63-1)/8:=by decide
  lia
 have g:¬(!Builtin.List.listFitsIndex k)=true:=by
  rw[fitsIndex_both h1 w];exact B1
 have c:¬Y1 (b.toArray.size*k.toNat)=true:=by
  rw[qWI d];exact B1
 have f:A92 (λo j=>o++j) #[] (E9 (if b.toArray.isEmpty=true then 0 else k.toNat) b.toArray)=(E9 k.toNat b).flatten.toArray:=by
  have f0:∀m:Nat,A92 (λo j=>o++j) #[] (E9 m b.toArray)=(E9 m b).flatten.toArray:=λm=>by
   have:=qNQ b m [];rw[l6] at this;exact this
  rw[f0];cases b with
  |nil=>simp
  |cons a r'=>rw[if_neg (by simp)]
 refine wpAny_binaryOp_repeat_ref (T:="list") (U:="int") (by decide) ⟨_,e,rfl⟩ (λs'=>typeIs_int s' k t) noFill_list_mul F.fills_int_mul F.slot_int_rmul repeat_list F.slot_int_index.lookup
  (B80 F.slot_int_rmul (typeIs_int s k t) F.entry_int_rmul (F.args_int_rmul_2 _ _) (int___rmul___int_list k t l b.toArray n)
   ⟨e,rfl,⟨_,e,rfl⟩,B80 F.slot_list_mul ⟨_,e,rfl⟩ F.entry_list_mul (F.args_list_mul_2 _ _) (AutoListH.list___mul___list_int_3 l b.toArray n k t g i c) ⟨e,?_⟩⟩)
 rw[f];exact⟨.ref _,_,I.lnew (t':=s.toks) (r.rep k.toNat) (by rw[qZO,Nat.mul_comm];exact p),rfl,q _ I.fresh⟩
end
section
variable{prog:B20}{w:World}{A:Around}{E:Value->Shared->Prop}{s:Shared}
set_option maxRecDepth 100000 in
end
section
variable{X:Cx}
end
end L2
namespace Att
open PySem PySem.W PySem.Calls PyProof.Rows
theorem qJO {P:Params}{h:Heap}:∀(ns:List Int) (vs:List Value),WellAll P h vs (ns.map WData.int)->B25 vs ns:=by
 intro ns
 induction ns with
 |nil=>
  intro vs w;rw[n4] at w;cases w;exact .nil
 |cons n ns ih=>
  intro vs w;rw[D0] at w;cases w with
  |cons a b=>
   cases a;exact .cons _ _ (ih _ b)
theorem qT7 {l:OpenLaw}{n:Nat}(t:l.most=some n){P:Params}{h:Heap}{args:List WData}{c:List Value}
  (b:l.row.toRowW.claim.pre args=true) (j:WellAll P h c args):
  ∃a vs ns,c=[D7 a]/\args=[WData.list (ns.map WData.int)]/\h.get? a=some {cls:=.type "list",data:=.seq vs.toArray}/\B25 vs ns/\ns.length<=n:=by
 have i:WShape.hasAll [] args [.list .int]=true:=(pre_splitW b).1;have k:l.pre.holds [] {args:=args}=true:=(pre_splitW b).2;obtain⟨d,r,rfl,s,o⟩:=hasAllW_cons i;obtain rfl:=hasAllW_nil o;obtain⟨u,rfl,p⟩:=hasW_list s;obtain⟨ns,rfl⟩:=items_int p;have e:ns.length<=n:=by
  unfold OpenLaw.pre at k;have g:(WTm.not (.lt (.lit (.int (n:Int))) (.len (.arg 0)))).holds [] {args:=[.list (ns.map .int)]}=true:=by
   have g:=(holds_andW k).1;rw[t] at g;exact g
  have f:=condW_of g (w_not (w_lt w_lit (w_len_list (w_arg rfl))));rw[A0] at f;refine V0 λq=>?_;have m:(n:Int)<((ns.length:Nat):Int):=by lia
  first
   |(rw[decide_eq_true m] at f;exact absurd f (by decide))
   |(simp at f;lia)
 cases j with
 |cons w1 w2=>
  cases w2;cases w1 with
  |list ho hall=>exact⟨_,_,ns,rfl,rfl,ho,qJO ns _ hall,e⟩
theorem qTD (l:OpenLaw)(args:List WData):l.row.toRowW.claim.post args (.bool true) args=true:=
 postW_of (r:=l.row.toRowW) (X:=(true==true))
  (show WShape.has [] (.bool true) .bool=true by first|rfl|decide|simp[WShape.has,WShape.arms,WShape.armsAll])
  (show(WTm.eq .res (.lit (.bool true))).value [] {args:=args,res:=some (.bool true),after:=args}=some (.bool (true==true)) from w_eq_bool (w_res rfl) w_lit) rfl
theorem attach_call {l:OpenLaw}{n:Nat}{q:B20}{b:List Str}{XP:(Str->Option Value)->Heap->Prop}{YP:World->Heap->Prop}{d:DefRec}
  (hn:l.most=some n) (k:d.params.defaults=[])
  (h:∀ (w:World) (s₀ s₁:Shared) (mg mb:Str->Option Value) (fa:Addr) (o:Obj) (pm cd doc:Value) (a:Addr) (vs:List Value) (ns:List Int),
   Ground q b [] XP w s₀ mg mb s₁.heap->YP w s₁.heap->
   s₁.heap.get? fa=some o->o.data=.func (docDef d.name d.params d.body d.scope pm cd doc)->s₁.heap.CodeRec cd d.name->mg d.name=some (.ref fa)->
   s₁.heap.get? a=some {cls:=.type "list",data:=.seq vs.toArray}->B25 vs ns->ns.length<=n->s₁.gens=#[]->
   B50 (model l.prog w) callerA (.call (.ref fa) ⟨[.ref a],[]⟩) (λr s'=>r=.ok (.ret (.bool true))/\OldK s₁.heap s'.heap/\s'.os=s₁.os/\AllBare s'.gens) s₁):
  WalkO q b XP YP l.row.toRowW d [] (λf vs=>A93 f vs):=by
 intro w s₀ s₁ mg mb G Y fa o pm cd doc x kV ho y j t m hg u v as g s a1 p a0;obtain rfl:x=.none:=Dflts.none t k;obtain rfl:kV=.none:=Dflts.noKw t;obtain⟨a,vs,ns,rfl,rfl,i,c,e⟩:=qT7 hn g p;refine enter_call (B60 (h w s₀ s₁ mg mb fa o pm cd doc a vs ns G Y ho (fd_plain y) j m i c e hg) λr s' hq=>?_);obtain⟨rfl,h2,h3,h4⟩:=hq;exact⟨.inl ⟨.bool true,.bool true,[],rfl,λ_=>rfl,.bool true,qTD l _,λ_=>⟨b8,λ_ z=>(nomatch z)⟩⟩,h2,h3,h4⟩
section
variable{prog:B20}{w:World}{A:Around}{E:Value->Shared->Prop}{s:Shared}{K:Frag}
end
end Att
namespace L2
open PySem PySem.Spec PyProof.Rows
theorem qIX:∀{vs:List Value} {ns:List Int},B25 vs ns->Vals (ns.map V.int) vs
 |_,_,.nil=>.nil
 |_,_,.cons n t h=>.cons ⟨t,rfl⟩ (qIX h)
noncomputable def qEV (s:Stmt):B45:=match s with
 |.FunctionDef _ a _ _ _ _ _ _ _ _=>a
 |_=>{posonlyargs:=[],args:=[],vararg:=none,kwonlyargs:=[],kw_defaults:=[],kwarg:=none,defaults:=[]}
noncomputable def qBC (s:Stmt):List Stmt:=match s with
 |.FunctionDef _ _ b _ _ _ _ _ _ _=>b
 |_=>[]
noncomputable def qAB (s:Stmt):Scope:=match s with
 |.FunctionDef _ _ _ _ _ _ sc _ _ _=>sc
 |_=>{kind:=.function,names:=[],isGenerator:=false,isCoroutine:=false}
abbrev CX0:CXT:=λ_ _ _ _ _ _=>False
abbrev E0:XK:=λ_ _ _=>False
theorem qd5 {X:Cx}:qVS CX0 X E0:=λ_ _ _ _ _ _ _ h=>h.elim
structure Fun (K:PySem.W.Frag)(x qual:Str)(st:Stmt)(f:Addr)(fd:B37):Prop where
 ex:∃(oc:Value) (od:Option Addr) (kV doc pm:Value) (an:Option Addr) (cdv ct:Value) (osl:Array (Option Value)),
  fd=Q5 x qual (qEV st) (qBC st) (qAB st) .none kV doc pm an cdv ct/\K.lookup f=some ⟨oc,od,.func fd,osl⟩/\c9 K cdv qual=true
 kp:Q4 K (.ref f)=true
section
variable{P:B20}{w:World}{K:PySem.W.Frag}{mg:Str->Option Value}{base:Heap}
theorem Fun.ok {x a:Str}{st:Stmt}{f:Addr}{g:B37}{N ps:List Str}{k:Nat}{sp:Sp}(F:Fun K x a st f g)(S:FnScope N ps (qAB st))(e:∀vs H Q E,sp vs H Q E->vs.length=ps.length)
  (b:∀ (cdv:Value) (A:Around) (outer:List Env) (s:Shared) (H:Hp) (vs:List V) (Q:VK) (E:XK),Room k (A.deeper (envOfC a (qAB st) s.heap.objs.size f cdv))->sp vs H Q E->
   ∃t,PSs (cxOf CX0 P w K mg base N a (qAB st) f cdv A outer s H E).nox (qBC st) t/\t {nx:=λ_ H'=>Q .non H',rt:=Q} (start N vs) H):FnOk P w K mg base CX0 (k+1) f g ps sp:=by
 obtain⟨u,o,r,l,v,p,cdv,n,j,rfl,m,d⟩:=F.ex;refine qc5 m d S e λA outer s H vs Q E i c=>?_;obtain⟨t,h,q⟩:=b cdv A outer s H vs Q E i c;exact⟨t,h.nox,q⟩
theorem Fun.binds {x a:Str}{st:Stmt}{f:Addr}{b:B37}{ps:List Str}(F:Fun K x a st f b)
  (h:∀(kV doc pm:Value) (an:Option Addr) (cdv ct:Value) (us:List Value),us.length=ps.length->B76 (Q5 x a (qEV st) (qBC st) (qAB st) .none kV doc pm an cdv ct) ⟨us,[]⟩=pure (ps.zip us)):Binds K b ps []:=by
 obtain⟨g,e,kV,doc,pm,an,cdv,ct,d,rfl,i,c⟩:=F.ex;exact .all (h kV doc pm an cdv ct)
theorem fun_mk {x a:Str}{st:Stmt}{f:Addr}{n:Value}{m h:Option Addr}{e:Array (Option Value)}{i d j b g:Value}(l:K.lookup f=some ⟨n,m,.func (Q5 x a (qEV st) (qBC st) (qAB st) .none i d j h b g),e⟩)
  (c:c9 K b a=true) (k:Q4 K (.ref f)=true):Fun K x a st f (Q5 x a (qEV st) (qBC st) (qAB st) .none i d j h b g):=⟨⟨n,m,i,d,j,h,b,g,e,rfl,l,c⟩,k⟩
end
theorem qIG {A:Around}{k:Nat}(a:Room k A):A.units+1<cLine:=R6 (Nat.add_le_add_left (by decide:1<=64) _) a.units
theorem qAE {n:Nat}(h:n<=1000):n<B18:=R6 h (by decide)
section
variable{X:Cx}
theorem pv (i:Nat) {x:Str} {pos:Pos} (c:X.N[i]?=some x:=by rfl) (a:Vis X.env.scope x:=by first|exact E6 rfl|exact d7 (E6 rfl)|exact d7 (d7 rfl)) (b:(x==("__debug__" : Str))=false:=by decide)
  (hcd:(x==("__classdict__" : Str))=false:=by decide):PE X (.Name x pos) (tVar i):=qbG c a b hcd
end
theorem iteF {A B:Prop}(h:B):if false=true then A else B:=by
 rw[if_neg B1];exact h
theorem iteT {A B:Prop}(h:A):if true=true then A else B:=by
 rw[if_pos rfl];exact h
theorem ite2 {c A B:Prop}[Decidable c](a:c->A)(b:¬c->B):if c then A else B:=by
 by_cases h:c
 ·rw[if_pos h];exact a h
 ·rw[if_neg h];exact b h
def Same (H H':Hp):Prop:=∀b o,H b=some o->H' b=some o
theorem Same.refl (H:Hp):Same H H:=λ_ _ h=>h
theorem Same.trans {H H1 H2:Hp}(a:Same H H1)(b:Same H1 H2):Same H H2:=λc o h=>b c o (a c o h)
theorem Same.free {H H':Hp}(e:Same H H'){l:Addr}(h:H' l=B13):H l=B13:=by
 cases q:H l with
 |none=>rfl
 |some o=>
  rw[e l o q] at h;cases h
section
variable{κ:Type}[DecidableEq κ]
noncomputable def valV (Af:List (κ×V))(k:κ):Option V:=(Af.find? λkv=>decide (kv.1=k)).map (·.2)
noncomputable def putK (Af:List (κ×V))(k:κ)(v:V):List (κ×V):=
 if(Af.any λkv=>decide (kv.1=k))=true then Af.map (λkv=>if kv.1=k then(kv.1,v) else kv) else Af++[(k,v)]
theorem qBI {p:κ×V}{r:List (κ×V)}{k:κ}(e:p.1=k):valV (p::r) k=some p.2:=by simp[valV,T9,e]
theorem qBJ {p:κ×V}{r:List (κ×V)}{k:κ}(e:¬p.1=k):valV (p::r) k=valV r k:=by simp[valV,T9,e]
theorem qFS (k:κ):∀Af:List (κ×V),(Af.any λkv=>decide (kv.1=k))=(valV Af k).isSome
 |[]=>rfl
 |p::r=>by
  rw[U5];by_cases e:p.1=k
  ·simp only[qBI e,decide_eq_true e,Bool.true_or,A40]
  ·rw[qBJ e,decide_eq_false e,A99];exact qFS k r
theorem qPY (k j:κ)(y:V):∀Af:List (κ×V),valV (Af.map λkv=>if kv.1=k then(kv.1,y) else kv) j=(valV Af j).map λx=>if j=k then y else x
 |[]=>rfl
 |p::r=>by
  have ih:=qPY k j y r;rw[D0];by_cases h:p.1=k
  ·rw[if_pos h];by_cases e:p.1=j
   ·rw[qBI (p:=(p.1,y)) e,qBI e,O9,if_pos (e.symm.trans h)]
   ·rw[qBJ (p:=(p.1,y)) e,qBJ e,ih]
  ·rw[if_neg h];by_cases e:p.1=j
   ·rw[qBI (p:=p) e,qBI e,O9,if_neg (λz=>h (e.trans z))]
   ·rw[qBJ (p:=p) e,qBJ e,ih]
theorem qMV (k j:κ)(y:V):∀Af:List (κ×V),valV Af k=none->valV (Af++[(k,y)]) j=if j=k then some y else valV Af j
 |[],_=>by
  by_cases e:k=j
  ·rw[if_pos e.symm];exact qBI (p:=(k,y)) e
  ·rw[if_neg (λz=>e z.symm)];exact qBJ (p:=(k,y)) e
 |p::r,hn=>by
  rw[A01];have hk:¬p.1=k:=λz=>by rw[qBI z] at hn;cases hn
  rw[qBJ hk] at hn;have ih:=qMV k j y r hn;by_cases e:p.1=j
  ·rw[qBI e,qBI e,if_neg (λz=>hk (e.trans z))]
  ·rw[qBJ e,qBJ e,ih]
theorem qIJ (Af:List (κ×V))(k j:κ)(y:V):valV (putK Af k y) j=if j=k then some y else valV Af j:=by
 unfold putK;by_cases a:(Af.any λc=>decide (c.1=k))=true
 ·rw[if_pos a,qPY];rw[qFS] at a;by_cases e:j=k
  ·obtain⟨x,b⟩:=Q1.mp a;rw[if_pos e,e,b,O9,if_pos rfl]
  ·rw[if_neg e];cases valV Af j with
   |none=>rfl
   |some x=>rw[O9,if_neg e]
 ·rw[if_neg a];refine qMV k j y Af ?_;rw[qFS] at a;cases q:valV Af k with
  |none=>rfl
  |some x=>rw[q] at a;exact(a rfl).elim
theorem qCH (Af:List (κ×V))(k:κ)(v:V):(putK Af k v).length<=Af.length+1:=by
 unfold putK
 split
 ·rw[A0];lia
 ·rw[A9,D6,N9];lia
theorem qQG {Af:List (κ×V)}{k:κ}(v:V)(h:valV Af k=none):putK Af k v=Af++[(k,v)]:=by
 unfold putK;rw[qFS,h];exact if_neg (by decide)
theorem RelO.isSome_eq {o:Option V}{u:Option Value}(r:RelO o u):o.isSome=u.isSome:=by
 cases o with
 |none=>cases u with
  |none=>rfl
  |some _=>exact(show False from r).elim
 |some _=>cases u with
  |none=>exact(show False from r).elim
  |some _=>rfl
theorem KV.val {Af:List (κ×V)}{vs:List (κ×Value)}(r:KV Af vs)(k:κ):RelO (valV Af k) (valueAt vs k):=by
 unfold KV at r
 induction r with
 |nil=>exact T5
 |@cons p q ps qs h t ih=>
  obtain⟨c,d⟩:=h;by_cases e:p.1=k
  ·have a:q.1=k:=c.symm.trans e;have b:valueAt (q::qs) k=some q.2:=by simp[valueAt,T9,a]
   rw[qBI e,b];exact d
  ·have a:¬q.1=k:=λz=>e (c.trans z);have b:valueAt (q::qs) k=valueAt qs k:=by simp[valueAt,T9,a]
   rw[qBJ e,b];exact ih
theorem KV.any {Af:List (κ×V)}{vs:List (κ×Value)}(r:KV Af vs)(k:κ):(Af.any λkv=>decide (kv.1=k))=vs.any λkv=>decide (kv.1=k):=by
 unfold KV at r
 induction r with
 |nil=>rfl
 |cons h t ih=>rw[U5,U5,ih,h.1]
theorem KV.repl {Af:List (κ×V)}{vs:List (κ×Value)}(r:KV Af vs)(k:κ){y:V}{u:Value}(c:RelV y u):
  KV (Af.map λkv=>if kv.1=k then(kv.1,y) else kv) (vs.map λkv=>if kv.1=k then(kv.1,u) else kv):=by
 unfold KV at r ⊢
 induction r with
 |nil=>exact .nil
 |@cons p q ps qs h t ih=>
  rw[D0,D0];refine .cons ?_ ih;obtain⟨a,b⟩:=h;by_cases e:p.1=k
  ·rw[if_pos e,if_pos (a.symm.trans e)];exact⟨a,c⟩
  ·rw[if_neg e,if_neg (λz=>e (a.trans z))];exact⟨a,b⟩
theorem KV.put {Af:List (κ×V)}{vs:List (κ×Value)}(r:KV Af vs)(k:κ){y:V}{u:Value}(a:RelV y u):KV (putK Af k y) (stored vs k u):=by
 unfold putK stored;rw[r.any k];by_cases e:(vs.any λb=>decide (b.1=k))=true
 ·rw[if_pos e,if_pos e];exact r.repl k a
 ·rw[if_neg e,if_neg e];exact U6 r ⟨rfl,a⟩
theorem KV.keys {Af:List (κ×V)}{vs:List (κ×Value)}(r:KV Af vs):Af.map (·.1)=vs.map (·.1):=by
 unfold KV at r
 induction r with
 |nil=>rfl
 |cons h t ih=>rw[D0,D0,ih,h.1]
theorem KV.length {Af:List (κ×V)}{vs:List (κ×Value)}(r:KV Af vs):Af.length=vs.length:=C3 r
end
theorem qS7 {P:B20}{w:World}{k:Key}{u:Value}(r:RelV (kV k) u):(qB3 P w).is k u=true:=by
 cases k with
 |inl i=>obtain⟨t,e⟩:=(show∃t,u=Q8 i t from r);subst e;exact qP7 P w i t
 |inr x=>obtain⟨t,e⟩:=(show∃t,u=A76 x t from r);subst e;exact qP6 P w x t
theorem qNI {P:B20}{w:World}:∀{ks:List Key} {us:List Value},Vals (ks.map kV) us->ItemsAre (qB3 P w) ks us
 |[],_,r=>by rw[n4] at r;cases r;exact .nil
 |k::ks,_,r=>by
  rw[D0] at r;cases r with
  |cons h t=>exact .cons (qS7 h) (qNI t)
abbrev KT (H:Hp):List (List Key×V)->List (List Key×Addr×Value)->Prop:=Paired λp q=>p.1=q.1/\H q.2.1=some (.tup (p.1.map kV))/\RelV p.2 q.2.2
theorem KT.val {H:Hp}{Af:List (List Key×V)}{xs:List (List Key×Addr×Value)}(r:KT H Af xs)(k:List Key):RelO (valV Af k) ((atKey xs k).map (·.2)):=by
 induction r with
 |nil=>exact T5
 |@cons p q ps qs h t ih=>
  obtain⟨c,_,d⟩:=h;by_cases e:p.1=k
  ·have a:q.1=k:=c.symm.trans e;have b:atKey (q::qs) k=some q.2:=by simp[atKey,T9,a]
   rw[qBI e,b];exact d
  ·have a:¬q.1=k:=λz=>e (c.trans z);have b:atKey (q::qs) k=atKey qs k:=by simp[atKey,T9,a]
   rw[qBJ e,b];exact ih
theorem KT.repl {H:Hp}{Af:List (List Key×V)}{xs:List (List Key×Addr×Value)}(r:KT H Af xs)(k:List Key){y:V}{u:Value}(d:RelV y u):
  KT H (Af.map λkv=>if kv.1=k then(kv.1,y) else kv) (xs.map (putAt k u)):=by
 induction r with
 |nil=>exact .nil
 |@cons p q ps qs h t ih=>
  rw[D0,D0];refine .cons ?_ ih;obtain⟨a,b,c⟩:=h;unfold putAt;by_cases e:p.1=k
  ·rw[if_pos e,if_pos (a.symm.trans e)];exact⟨a,b,d⟩
  ·rw[if_neg e,if_neg (λz=>e (a.trans z))];exact⟨a,b,c⟩
theorem KT.put {H:Hp}{Af:List (List Key×V)}{xs:List (List Key×Addr×Value)}(r:KT H Af xs)(k:List Key){b:Addr}{y:V}{u:Value}(c:H b=some (.tup (k.map kV)))(a:RelV y u):
  KT H (putK Af k y) (storedH xs k b u):=by
 have e:(Af.any λd=>decide (d.1=k))=(atKey xs k).isSome:=by
  rw[qFS,(r.val k).isSome_eq,b9]
 unfold putK storedH;rw[e];by_cases q:(atKey xs k).isSome=true
 ·rw[if_pos q,if_pos q];exact r.repl k a
 ·rw[if_neg q,if_neg q];exact U6 r ⟨rfl,c,a⟩
theorem KT.keeps {H H':Hp}{Af:List (List Key×V)}{xs:List (List Key×Addr×Value)}(r:KT H Af xs)(a:∀b ys,H b=some (.tup ys)->H' b=some (.tup ys)):KT H' Af xs:=
 Paired.mapP r λ_ _ z=>⟨z.1,a _ _ z.2.1,z.2.2⟩
section
variable{P:B20}{w:World}{H:Hp}{h:Heap}{a:Addr}
theorem qbA {u:HO}(ok:HOk P w H h)(e:Rd H a u):ObjOk P w H h a u:=e.ok ok
theorem qV5 {Af:List (Key×V)}(b:HOk P w H h)(e:Rd H a (.dK Af)):Af.length<=B18/\(a==B39)=false/\∃vs,KV Af vs/\h.DictOf (qB3 P w) a vs:=
 show ObjOk P w H h a (.dK Af) from qbA b e
theorem qa8 {Af:List (Key×V)}(b:HOk P w H h)(e:H a=some (.dK Af)):Af.length<=B18/\(a==B39)=false/\∃vs,KV Af vs/\h.DictOf (qB3 P w) a vs:=qV5 b (.inl e)
theorem qKW {ks:List Key}(d:HOk P w H h)(e:H a=some (.tup (ks.map kV))):(B86 (qB3 P w)).is h ks a:=by
 obtain⟨_,b,r,o,g,c,n,f⟩:=(show ObjOk P w H h a (.tup (ks.map kV)) from d a _ e);exact⟨o,b.toArray,n,g,c,f,by simpa using qNI r⟩
theorem qV4 {Af:List (List Key×V)}(c:HOk P w H h)(e:Rd H a (.dT Af)):Af.length<=B18/\(a==B39)=false/\
  ∃xs,KT H Af xs/\h.DictOfH (B86 (qB3 P w)) a xs:=by
 obtain⟨z,y,xs,r,o,f,j,n,g,i,k,d⟩:=(show ObjOk P w H h a (.dT Af) from qbA c e);refine⟨z,y,xs,r,o,f,j,n,g,i,k,λx hx=>?_,d⟩;have b:∀{l:List (List Key×V)} {m:List (List Key×Addr×Value)},KT H l m->∀x∈m,(B86 (qB3 P w)).is h x.1 x.2.1:=by
  intro l m q
  induction q with
  |nil=>intro x hx;exact nomatch hx
  |@cons p q ps qs hq t ih=>
   intro x hx;rcases C0.mp hx with e|hx
   ·subst e;exact qKW c (by rw[<- hq.1];exact hq.2.1)
   ·exact ih x hx
 exact b r x hx
theorem qc8 {Af:List (List Key×V)}(b:HOk P w H h)(e:H a=some (.dT Af)):Af.length<=B18/\(a==B39)=false/\
  ∃xs,KT H Af xs/\h.DictOfH (B86 (qB3 P w)) a xs:=qV4 b (.inl e)
end
def DGet (H:Hp)(a:Addr)(y:V)(r:Option V):Prop:=
 (∃Af k,Rd H a (.dK Af)/\y=kV k/\r=valV Af k)\/∃Af k b,Rd H a (.dT Af)/\y=.ref b/\H b=some (.tup (k.map kV))/\r=valV Af k
def DPut (H:Hp)(a:Addr)(y v:V)(H':Hp):Prop:=
 (∃Af k,H a=some (.dK Af)/\y=kV k/\Af.length<B18/\H'=Ag H a (.dK (putK Af k v)))\/
 ∃Af k b,H a=some (.dT Af)/\y=.ref b/\H b=some (.tup (k.map kV))/\Af.length<B18/\H'=Ag H a (.dT (putK Af k v))
theorem DGet.k {H:Hp}{a:Addr}{Af:List (Key×V)}{k:Key}(e:H a=some (.dK Af)):DGet H a (kV k) (valV Af k):=.inl ⟨Af,k,.inl e,rfl,rfl⟩
theorem DPut.k {H:Hp}{a:Addr}{Af:List (Key×V)}{k:Key}{v:V}(e:H a=some (.dK Af))(b:Af.length<B18):DPut H a (kV k) v (Ag H a (.dK (putK Af k v))):=.inl ⟨Af,k,e,rfl,b,rfl⟩
theorem DPut.t {H:Hp}{a b:Addr}{Af:List (List Key×V)}{k:List Key}{v:V}(e:H a=some (.dT Af))(c:H b=some (.tup (k.map kV)))(d:Af.length<B18):
  DPut H a (.ref b) v (Ag H a (.dT (putK Af k v))):=.inr ⟨Af,k,b,e,rfl,c,d,rfl⟩
section
variable{X:Cx}{Ab:List (Addr×Obj)}{σ:St}{H:Hp}{s:Shared}{a:Addr}{y v:V}{u r:Value}{o:Option V}{A:Around}{E:Value->Shared->Prop}
theorem Inv.big (I:Inv X Ab σ H s):B39<s.heap.objs.size:=by
 have h:B30<s.heap.objs.size:=(I.mod.glob.keeps I.bk).lt;exact Y2 (by decide) h
theorem qVC {Q:Value->Shared->Prop}(hu:A.units+1<cLine)(I:Inv X Ab σ H s)(g:DGet H a y (some v))(n:RelV y u)(h:∀w' s',Inv X Ab σ H s'->RelV v w'->Q w' s'):
  wpAny (model X.prog X.w) A (getItem (.ref a) u) Q E s:=by
 rcases g with⟨q,k,e,i,l⟩|⟨q,k,b,e,i,t,l⟩
 ·subst i;obtain⟨z,r,x,d,m⟩:=qV5 I.hok e;obtain⟨w',f,c⟩:=RelO.some_of (v:=v) (o:=valueAt x k) (by rw[l];exact d.val k)
  exact wpAny_getItem_of (qS7 n) m.mapOf f (h w' _ (I.tok _) c)
 ·subst i;cases(show u=D7 b from n);obtain⟨z,r,xs,d,m⟩:=qV4 I.hok e;obtain⟨w',f,c⟩:=RelO.some_of (v:=v) (o:=(atKey xs k).map (·.2)) (by rw[l];exact d.val k)
  obtain⟨p,hp,j⟩:=Option.map_eq_some_iff.mp f;refine wpAny_getItem_heap (B78 hu) (qKW I.hok t) m hp ?_;rw[j];exact h w' _ (I.tok _) c
theorem d_in {Q:Value->Shared->Prop}(p:A.units+1<cLine)(I:Inv X Ab σ H s)(g:DGet H a y o)(j:RelV y u)(h:∀s',Inv X Ab σ H s'->Q (.bool o.isSome) s'):
  wpAny (model X.prog X.w) A (B35 .In u (.ref a)) Q E s:=by
 rcases g with⟨m,k,e,f,l⟩|⟨m,k,b,e,f,n,l⟩
 ·subst f;obtain⟨z,d,r,c,i⟩:=qV5 I.hok e;refine wpAny_in_of (qS7 j) d i.mapOf ?_;rw[<- (c.val k).isSome_eq,<- l];exact h _ (I.tok _)
 ·subst f;cases(show u=D7 b from j);obtain⟨z,d,t,c,i⟩:=qV4 I.hok e;refine wpAny_in_heap (B78 p) (qKW I.hok n) d i ?_;have q:=(c.val k).isSome_eq;rw[b9] at q;rw[<- q,<- l];exact h _ (I.tok _)
theorem qaA {Q:Value->Shared->Prop}(p:A.units+1<cLine)(I:Inv X Ab σ H s)(g:DGet H a y o)(j:RelV y u)(h:∀s',Inv X Ab σ H s'->Q (.bool (!o.isSome)) s'):
  wpAny (model X.prog X.w) A (B35 .NotIn u (.ref a)) Q E s:=by
 rcases g with⟨m,k,e,f,l⟩|⟨m,k,b,e,f,n,l⟩
 ·subst f;obtain⟨z,d,r,c,i⟩:=qV5 I.hok e;refine wpAny_notIn_of (qS7 j) d i.mapOf ?_;rw[<- (c.val k).isSome_eq,<- l];exact h _ (I.tok _)
 ·subst f;cases(show u=D7 b from j);obtain⟨z,d,t,c,i⟩:=qV4 I.hok e;refine wpAny_notIn_heap (B78 p) (qKW I.hok n) d i ?_;have q:=(c.val k).isSome_eq;rw[b9] at q;rw[<- q,<- l];exact h _ (I.tok _)
theorem qMG {h':Heap}{t':Nat}{d:HO}(I:Inv X Ab σ H s)(f:Mut (H a))(i:Heap.SameBut a s.heap h')(h:∃q,h'.get? a=some q)(c:ObjOk X.prog X.w (Ag H a d) h' a d):
  Inv X Ab σ (Ag H a d) {s with heap:=h',toks:=t'}:=
 I.write (x:=a) (e:=a) f (.inl rfl) (λb q g z=>(i.2 b g).trans z) h c
theorem qV6 {P:B20}{w:World}{H':Hp}{h':Heap}{Af:List (Key×V)}{vs:List (Key×Value)}(z:Af.length<=B18)(c:(a==B39)=false)(b:KV Af vs)(d:h'.DictOf (qB3 P w) a vs):
  ObjOk P w H' h' a (.dK Af):=⟨z,c,vs,b,d⟩
theorem qVB {H':Hp}{Q:Unit->Shared->Prop}(hu:A.units+1<cLine)(I:Inv X Ab σ H s)(g:DPut H a y v H')(ry:RelV y u)(rv:RelV v r)(h:∀s',Inv X Ab σ H' s'->Q () s'):
  wpAny (model X.prog X.w) A (setItem (.ref a) u r) Q E s:=by
 rcases g with⟨i,k,e,n,l,m⟩|⟨i,k,b,e,n,eb,l,m⟩
 ·subst n m;obtain⟨z,j,vs,d,p⟩:=qa8 I.hok e;have o:vs.length<=B18:=by rw[<- d.length];exact z
  have t:(putK i k v).length<=B18:=by have:=qCH i k v;lia
  refine wpAny_setItem_pairs (hsz:=o) (qS7 ry) p λh' f x=>h _ ?_;have he:∃q,h'.get? a=some q:=let⟨q,_,_,hq,_⟩:=f;⟨q,hq⟩
  exact qMG I (by rw[e];exact T5) x he (qV6 t j (d.put k rv) f)
 ·subst n m;cases(show u=D7 b from ry);obtain⟨z,j,xs,d,p⟩:=qc8 I.hok e;have o:xs.length<=B18:=by rw[<- C3 d];exact z
  have t:(putK i k v).length<=B18:=by have:=qCH i k v;lia
  refine wpAny_setItem_heap (hsz:=o) (B78 hu) (qKW I.hok eb) p λh' f x=>h _ ?_;obtain⟨q,es,ep,hq,h2,h3,h4,_,h5⟩:=f;refine qMG I (by rw[e];exact T5) x ⟨q,hq⟩ ⟨t,j,_,(d.put k eb rv).keeps λc ys ec=>?_,q,es,ep,hq,h2,h3,h4,h5⟩
  rw[qAA (qCB ec e (λz=>nomatch z))];exact ec
end
section
variable{X:Cx}{Ab:List (Addr×Obj)}{σ:St}{H:Hp}{s:Shared}{a:Addr}{Af:List (Key×V)}{k:Key}{u:Value}{A:Around}{E:Value->Shared->Prop}
end
def NoSl (i:Expr):Prop:=∀ov iv,subscripted i false ov iv=operate [ov,iv] (getItem ov iv)
theorem qYT {prog:B20}{w:World}{A:Around}{E:Value->Shared->Prop}{s:Shared}{env:Env}{b a:Expr}{pos:Pos}{T id:String}{Q:Value->Shared->Prop}
  (j:typeLookup (.type T) "__getitem__" = pure (some (.builtin id))) (l:NoSl a)
  (h:wpAny (model prog w) A (eval b env) (λo s₁=>wpAny (model prog w) A (eval a env) (λi s₂=>s₂.TypeIs o T/\wpAny (model prog w) A (getItem o i) Q E s₂) E s₁) E s):
  wpAny (model prog w) A (eval (.Subscript b a pos) env) Q E s:=by
 refine Subscript_ (B26 h (λo s₁ g=>B26 g (λi s₂ d=>?_) λ_ _ x=>x) λ_ _ x=>x);obtain⟨f,d⟩:=d;unfold subscriptTail;refine B16 ?_;rw[getitemInPython_of_ne f.not_modules];refine B16 (wpAny_specialOf f j ?_);have c:wpAny (model prog w) A (subscripted a false o i) (λr e=>wpAny (model prog w) A (letTemporaryGo b o r >>= λ_=>pure r) Q E e) E s₂:=by
  rw[l o i];exact wpAny_operating (B26 d (λr e k=>B16 (wpAny_letTemporaryGo (B17 k))) λ_ _ x=>x)
 first
  |exact B17 (B16 c)
  |exact B16 (B17 (B16 c))
  |exact B16 c
theorem qPM {X:Cx} {Ab:List (Addr×Obj)} {σ:St} {H:Hp} {s:Shared} {a:Addr} {y:V} {o:Option V} (I:Inv X Ab σ H s) (g:DGet H a y o):s.TypeIs (.ref a) "dict":=by
 rcases g with⟨d,k,e,_,_⟩|⟨d,k,b,e,_,_,_⟩
 ·obtain⟨_,_,h,_,c⟩:=qV5 I.hok e;exact c.typeIs
 ·obtain⟨_,_,f,_,c⟩:=qV4 I.hok e;exact c.typeIs
def qcS (td ty:TE):TE:=λσ H Q=>td σ H λx H1=>ty σ H1 λy H2=>∃a v,x=.ref a/\DGet H2 a y (some v)/\Q v H2
def tDIn (ty td:TE):TE:=λσ H Q=>ty σ H λy H1=>td σ H1 λx H2=>∃a o,x=.ref a/\DGet H2 a y o/\Q (.bl o.isSome) H2
def qYS (ty td:TE):TE:=λσ H Q=>ty σ H λy H1=>td σ H1 λx H2=>∃a o,x=.ref a/\DGet H2 a y o/\Q (.bl (!o.isSome)) H2
def qcV (td ty tv:TE):TS:=λD σ H=>tv σ H λv H1=>td σ H1 λx H2=>ty σ H2 λy H3=>∃a H4,x=.ref a/\DPut H3 a y v H4/\D.nx σ H4
section
variable{X:Cx}{o i e value:Expr}{pos pos' tpos:Pos}{td ty tv:TE}
theorem qDG (e:X.A.units+1<cLine)(d:PE X o td)(hi:PE X i ty)(f:NoSl i):PE X (.Subscript o i pos) (qcS td ty):=by
 intro c s σ H Q I h;refine qYT PySem.F.slot_dict_getitem.lookup f (thn (d c s σ H _ I h) λu s1 ⟨x,H1,I1,rx,q1⟩=>thn (hi c s1 σ H1 _ I1 q1) λiv s2 ⟨y,H2,I2,ry,a,v,ex,g,q2⟩=>?_);subst ex;obtain rfl:u=D7 a:=rx;exact⟨qPM I2 g,qVC e I2 g ry λl k j b=>⟨v,H2,j,b,q2⟩⟩
theorem qQO (d:X.A.units+1<cLine)(hi:PE X i ty)(c:PE X o td):PC X .In i o (tDIn ty td):=by
 intro b s σ H Q I h;refine thn (hi b s σ H _ I h) λiv s1 ⟨y,H1,I1,ry,q1⟩=>thn (c b s1 σ H1 _ I1 q1) λu s2 ⟨x,H2,I2,rx,a,ov,ex,g,q2⟩=>?_;subst ex;obtain rfl:u=D7 a:=rx;exact d_in d I2 g ry λf e=>⟨.bl ov.isSome,H2,e,rfl,q2⟩
theorem qF9 (d:X.A.units+1<cLine)(hi:PE X i ty)(c:PE X o td):PC X .NotIn i o (qYS ty td):=by
 intro b s σ H Q I h;refine thn (hi b s σ H _ I h) λiv s1 ⟨y,H1,I1,ry,q1⟩=>thn (c b s1 σ H1 _ I1 q1) λu s2 ⟨x,H2,I2,rx,a,ov,ex,g,q2⟩=>?_;subst ex;obtain rfl:u=D7 a:=rx;exact qaA d I2 g ry λf e=>⟨.bl (!ov.isSome),H2,e,rfl,q2⟩
theorem qEL (e:X.A.units+1<cLine)(f:PE X o td)(hi:PE X i ty)(c:PE X value tv)(j:swapsWith value (some (.Subscript o i pos')) pos.line X.env=pure false):
  PS X (.Assign [.Subscript o i pos'] value pos) (qcV td ty tv):=by
 intro b s σ H D I h;refine wpAny_Assign_Subscript (thn (c b s σ H _ I h) λr s1 ⟨v,H1,I1,rv,q1⟩=>thn (f b s1 σ H1 _ I1 q1) λu s2 ⟨x,H2,I2,rx,q2⟩=>thn (hi b s2 σ H2 _ I2 q2) λiv s3 ⟨y,H3,I3,ry,a,H4,ex,g,q3⟩=>?_) j;subst ex;obtain rfl:u=D7 a:=rx;exact qVB e I3 g ry rv λk d=>⟨σ,H4,d,q3⟩
end
theorem qR9 {P:B20} {w:World} {H:Hp} (h:Heap) (a:B39<h.objs.size):ObjOk P w H (h.push {cls:=.type "dict",data:=.dict #[]}) h.objs.size (.dK []):=
 ⟨E8 _,beq_eq_false_iff_ne.mpr (J3 (D2 a)),[],.nil,A80 h⟩
theorem qR8 {P:B20} {w:World} {H:Hp} (h:Heap) (a:B39<h.objs.size):ObjOk P w H (h.push {cls:=.type "dict",data:=.dict #[]}) h.objs.size (.dT []):=
 ⟨E8 _,beq_eq_false_iff_ne.mpr (J3 (D2 a)),[],.nil,_,#[],0,B4 _ rfl,⟨rfl,rfl,rfl⟩,rfl,rfl,List.nodup_nil⟩
def qaW:TE:=λ_ H Q=>∀p,H p=none->Q (.ref p) (Ag H p (.dK []))
def qaV:TE:=λ_ H Q=>∀p,H p=none->Q (.ref p) (Ag H p (.dT []))
section
variable{X:Cx}{pos:Pos}
theorem qLW:PE X (.Dict [] [] pos) qaW:=λb s σ H Q I h=>
 wpAny_Dict_empty ⟨.ref s.heap.objs.size,_,I.laid (a:=s.heap.objs.size) (o:=.dK []) (t':=s.toks) (λ_ _ q=>A5 _ q) (A7 _) (qR9 s.heap I.big),rfl,h _ (I.hok.fresh (A7 _))⟩
theorem qWE:PE X (.Dict [] [] pos) qaV:=λb s σ H Q I h=>
 wpAny_Dict_empty ⟨.ref s.heap.objs.size,_,I.laid (a:=s.heap.objs.size) (o:=.dT []) (t':=s.toks) (λ_ _ q=>A5 _ q) (A7 _) (qR8 s.heap I.big),rfl,h _ (I.hok.fresh (A7 _))⟩
end
def qST:List (TE×TE)->St->Hp->(List (V×V)->Hp->Prop)->Prop
 |[],_,H,Q=>Q [] H
 |(tk,tv)::r,σ,H,Q=>tk σ H λx H1=>tv σ H1 λy H2=>qST r σ H2 λps H3=>Q ((x,y)::ps) H3
abbrev VV:List (V×V)->List (Value×Value)->Prop:=Paired λp q=>RelV p.1 q.1/\RelV p.2 q.2
def PPs (X:Cx)(pos:Pos)(keys:List (Option Expr))(values:List Expr)(trs:List (TE×TE)):Prop:=
 ∀(Ab:List (Addr×Obj)) (s:Shared) (σ:St) (H:Hp) (Q:List (V×V)->Hp->Prop),Inv X Ab σ H s->qST trs σ H Q->
  wpAny (model X.prog X.w) X.A (evalPairs (pairTrees keys values X.env pos)) (λvs s'=>∃ps H',Inv X Ab σ H' s'/\VV ps vs/\Q ps H') X.xe s
theorem qTC {X:Cx}{pos:Pos}:PPs X pos [] [] []:=λa s σ H Q I h=>pairTrees_nil_walk ⟨[],H,I,.nil,h⟩
theorem qLR {X:Cx}{pos:Pos}{k v:Expr}{ks:List (Option Expr)}{vs:List Expr}{tk e:TE}{a:List (TE×TE)}(i:PE X k tk)(f:PE X v e)(g:PPs X pos ks vs a):
  PPs X pos (some k::ks) (v::vs) ((tk,e)::a):=λb s σ H Q I h=>
 pairTrees_cons_walk (thn (i b s σ H _ I h) fun u s1 ⟨x,H1,I1,rx,q1⟩=>thn (f b s1 σ H1 _ I1 q1) fun w2 s2 ⟨y,H2,I2,ry,q2⟩=>
  thn (g b s2 σ H2 _ I2 q2) λws s3 ⟨ps,H3,I3,rel,q3⟩=>⟨(x,y)::ps,H3,I3,.cons ⟨rx,ry⟩ rel,q3⟩)
noncomputable def qG6 (Af more:List (Key×V)):List (Key×V):=more.foldl (λc d=>putK c d.1 d.2) Af
theorem KV.merge:∀{more:List (Key×V)} {rs:List (Key×Value)} {Af:List (Key×V)} {vs:List (Key×Value)},KV more rs->KV Af vs->KV (qG6 Af more) (merged vs rs):=by
 intro more rs Af vs r;unfold KV at r
 induction r generalizing Af vs with
 |nil=>intro q;exact q
 |@cons p q ps qs h t ih=>
  intro a;have e:KV (putK Af p.1 p.2) (stored vs q.1 q.2):=by
   have:=a.put p.1 h.2;rw[<- h.1];exact this
  exact ih e
theorem qGX:∀(more Af:List (Key×V)),(qG6 Af more).length<=Af.length+more.length
 |[],Af=>by show Af.length<=Af.length+0;lia
 |p::r,Af=>by
  have h1:=qGX r (putK Af p.1 p.2);have h2:=qCH Af p.1 p.2;show(qG6 (putK Af p.1 p.2) r).length<=_;rw[D6];lia
theorem qL5 {P:B20}{w:World}:∀{Af:List (Key×V)} {ws:List (Value×Value)},VV (Af.map λkv=>(kV kv.1,kv.2)) ws->∃rs,Carries (qB3 P w) ws rs/\KV Af rs
 |[],_,r=>by rw[n4] at r;cases r;exact⟨[],T5,.nil⟩
 |p::Af,_,r=>by
  rw[D0] at r;cases r with
  |@cons a b as bs h t=>
   obtain⟨rs,c,q⟩:=qL5 (P:=P) (w:=w) t;obtain⟨b1,b2⟩:=b;exact⟨(p.1,b2)::rs,⟨qS7 h.1,rfl,c⟩,.cons ⟨rfl,h.2⟩ q⟩
def qcR (trs:List (TE×TE)):TE:=λσ H Q=>∀p,H p=none->qST trs σ (Ag H p (.dK [])) λps H2=>H2 p=some (.dK [])/\∃Af:List (Key×V),ps=Af.map (λkv=>(kV kv.1,kv.2))/\Af.length<=15/\Q (.ref p) (Ag H2 p (.dK (qG6 [] Af)))
theorem qTN {X:Cx}{pos:Pos}{b:List (Option Expr)}{d:List Expr}{g:List (TE×TE)}(h:PPs X pos b d g)(i:b.all (·.isSome)=true)(v:b.length=d.length)(h0:b≠[])
  (j:b.length<=15):PE X (.Dict b d pos) (qcR g):=by
 intro m s σ H Q I q;have t:=I.hok.fresh (A7 s.heap.objs.size);have u:=I.laid (a:=s.heap.objs.size) (o:=.dK []) (h':=s.heap.push {cls:=.type "dict",data:=.dict #[]}) (t':=s.toks) (λ_ _ q=>A5 _ q) (A7 _) (qR9 s.heap I.big);refine wpAny_Dict_walk (knd:=qB3 X.prog X.w) i v h0 j (thn (h m _ σ _ _ u (q _ t)) λws s2 ⟨ps,H2,I2,rel,e,Af,ep,lk,q2⟩=>?_);subst ep;obtain⟨k,c,l⟩:=qL5 (P:=X.prog) (w:=X.w) rel;obtain⟨z,n,a0,r0,r⟩:=qa8 I2.hok e;cases r0;refine⟨k,c,r,λh' f hs=>⟨.ref s.heap.objs.size,_,?_,rfl,q2⟩⟩;have p:(qG6 [] Af).length<=B18:=by
  have y:=qGX Af [];rw[N9] at y;rw[B28];lia
 have x:∃q,h'.get? s.heap.objs.size=some q:=let⟨q,_,_,hq,_⟩:=f;⟨q,hq⟩
 exact qMG I2 (by rw[e];exact T5) hs x (qV6 p n (l.merge .nil) f)
structure M1 (X:Cx)(o:Expr)(m:Str)(apos:Pos)(e:Expr)(cpos:Pos):Prop where
 base:B83 o m X.env (eval o X.env)=eval o X.env
 few:((backTo cpos (B24 [e] X.env)).all (fun x=>!x.1) && (backToKw cpos (B82 [] X.env)).all (fun x=>x.1.isSome)
  && decide (([e]:List Expr).length+([]:List B79).length+(if([]:List B79).isEmpty then 0 else 1)<30))=true
 line:(apos.endLine==cpos.line)=true
 trees:backTo cpos (B24 [e] X.env)=[(false,eval e X.env)]
structure M2 (X:Cx)(o:Expr)(m:Str)(apos:Pos)(e f:Expr)(cpos:Pos):Prop where
 base:B83 o m X.env (eval o X.env)=eval o X.env
 few:((backTo cpos (B24 [e,f] X.env)).all (fun x=>!x.1) && (backToKw cpos (B82 [] X.env)).all (fun x=>x.1.isSome)
  && decide (([e,f]:List Expr).length+([]:List B79).length+(if([]:List B79).isEmpty then 0 else 1)<30))=true
 line:(apos.endLine==cpos.line)=true
 trees:backTo cpos (B24 [e,f] X.env)=[(false,eval e X.env),(false,eval f X.env)]
section
variable{X:Cx}{Ab:List (Addr×Obj)}{σ:St}{H:Hp}{s:Shared}{a:Addr}{y d:V}{u r:Value}{o:Option V}{A:Around}{E:Value->Shared->Prop}
end
section
variable{X:Cx}{o e f:Expr}{apos cpos:Pos}{td ty tx:TE}
end
section
variable{X:Cx}{Ab:List (Addr×Obj)}{σ:St}{H:Hp}{s:Shared}{a:Addr}{Af:List (Key×V)}{A:Around}{E:Value->Shared->Prop}
end
section
variable{X:Cx}{Ab:List (Addr×Obj)}{σ:St}{H:Hp}{s:Shared}{a:Addr}{y:V}{u:Value}{A:Around}{E:Value->Shared->Prop}
end
section
variable{X:Cx}
end
section
variable{κ:Type}[DecidableEq κ]
theorem qHO:∀{l:List κ} {k:κ},l.Nodup->¬k∈l->(l++[k]).Nodup
 |[],k,_,_=>by simp
 |a::r,k,h,hk=>by
  obtain⟨h1,h2⟩:=O8.mp h;show(a::(r++[k])).Nodup;refine O8.mpr ⟨λm=>?_,qHO h2 λm=>hk (C0.mpr (d7 m))⟩;rcases A8.mp m with q|q
  ·exact h1 q
  ·exact hk (C0.mpr (E6 (A6.mp q).symm))
end
def noX:Value->Shared->Prop:=λ_ _=>False
noncomputable def qD8 (env:Env):List (Str×B53)->List (Str×Addr)->List (Str×Addr)
 |[],acc=>acc
 |(n,k)::r,acc=>qD8 env r (if(k==G0)=true then(n,(env.cells.lookup n).getD 0)::acc else acc)
theorem qEB {env:Env}:∀{names:List (Str×B53)} {acc:List (Str×Addr)},(∀x,(x,G0)∈names->∃c,env.cells.lookup x=some c)->(∀x c,acc.lookup x=some c->env.cells.lookup x=some c)->
  ∀x c,(qD8 env names acc).lookup x=some c->env.cells.lookup x=some c
 |[],acc,_,ha,x,c,h=>ha x c h
 |(n,k)::r,acc,hf,ha,x,c,h=>by
  refine qEB (names:=r) (λy hy=>hf y (B5 _ hy)) (λy d hd=>?_) x c h
  split at hd
  ·rename_i hk
   have hk':k=G0:=by simpa using hk
   subst hk';obtain⟨e,he⟩:=hf n E7;by_cases hyn:y=n
   ·subst hyn;rw[P8,he] at hd;rw[he];exact hd
   ·rw[V1,beq_eq_false_iff_ne.mpr hyn] at hd;exact ha y d hd
  ·exact ha y d hd
theorem qEC {env:Env}:∀{names:List (Str×B53)} {acc:List (Str×Addr)} {x:Str},((x,G0)∈names\/∃c,acc.lookup x=some c)->∃c,(qD8 env names acc).lookup x=some c
 |[],acc,x,h=>by
  rcases h with h|h
  ·exact absurd h (by simp)
  ·exact h
 |(n,k)::r,acc,x,h=>by
  refine qEC (names:=r) ?_;rcases h with h|⟨c,h⟩
  ·rcases C0.mp h with e|h
   ·cases e;refine .inr ⟨(env.cells.lookup n).getD 0,?_⟩;rw[if_pos (by rfl),P8]
   ·exact .inl h
  ·refine .inr ?_
   split
   ·by_cases hyn:x=n
    ·subst hyn;exact⟨_,P8⟩
    ·refine⟨c,?_⟩;rw[V1,beq_eq_false_iff_ne.mpr hyn];exact h
   ·exact⟨c,h⟩
theorem qK2 {env:Env}(f:Str×B53->List (Str×Addr)->Sem (ForInStep (List (Str×Addr))))
  (hf:∀n k c,f (n,k) c=(if(k==G0)=true then(do let a <- cellOf env n;pure (O1 ((n,a)::c))) else pure (O1 c))):
  ∀(names:List (Str×B53)) (acc:List (Str×Addr)),(∀x,(x,G0)∈names->∃c,env.cells.lookup x=some c)->forIn names acc f=(pure (qD8 env names acc):Sem _)
 |[],acc,_=>rfl
 |(n,k)::r,acc,h=>by
  have ih:=λacc=>qK2 f hf r acc λx hx=>h x (B5 _ hx);rw[A81,hf];by_cases hk:(k==G0)=true
  ·have hk':k=G0:=by simpa using hk
   subst hk';obtain⟨c,hc⟩:=h n E7;rw[if_pos hk];unfold cellOf qD8;rw[hc,if_pos hk];exact ih _
  ·rw[if_neg hk];unfold qD8;rw[if_neg hk];exact ih _
theorem qG3 {a:Scope}{env:Env}(h:∀x,(x,G0)∈a.names->∃c,env.cells.lookup x=some c):closureFor a env=pure (qD8 env a.names []):=by
 unfold closureFor;dsimp only;rw[qK2 (env:=env) _ (λn k c=>?_) a.names [] h]
 ·rfl
 ·rfl
theorem qBZ {env:Env}{x:Str}:∀{names:List (Str×B53)},
  (names.map λ(n,k)=>if(k==G0&&env.scope.kind == .function&&env.kindOf n==some .cell)=true then(n,j7) else(n,k)).lookup x =
   (names.lookup x).map λk=>if(k==G0&&env.scope.kind == .function&&env.kindOf x==some .cell)=true then j7 else k
 |[]=>rfl
 |(n,k)::r=>by
  have ih:=@qBZ env x r;rw[D0];by_cases hx:x=n
  ·subst hx;dsimp only;rw[P8 (b:=k),O9]
   split
   ·rw[P8]
   ·rw[P8]
  ·have hb:(x==n)=false:=beq_eq_false_iff_ne.mpr hx;dsimp only;rw[V1 (k:=n) (b:=k),hb];dsimp only;rw[<- ih]
   split
   ·rw[V1,hb]
   ·rw[V1,hb]
structure LcZ where
 L:Addr
 cl:List (Str×Addr)
 ex:List Addr
 s₀:Shared
 H₀:Hp
noncomputable def lcCx (X:Cx)(scope:Scope)(own:List Str)(fv:List Nat)(z:LcZ):Cx where
 prog:=X.prog
 w:=X.w
 K:=X.K
 mg:=X.mg
 base:=X.base
 A:=X.A
 N:=own++fv.map λi=>X.N.getD i O0
 s₀:=z.s₀
 H₀:=z.H₀
 env:=compEnvC scope z.cl z.L X.env
 outer:=X.stack
 stack:=X.stack
 ex:=z.ex
 fn:=λ_=>false
 calm:=X.calm
 pn:=[]
 xe:=noX
structure LcScope (X:Cx)(scope:Scope)(own:List Str)(fv:List Nat):Prop where
 kind:scope.kind=.function
 nocell:∀y∈scope.names,y.2≠.cell
 names:∀y∈scope.names,y.2=.local->scope.names.lookup y.1=some .local
 free:∀y∈scope.names,y.2=.free->X.env.kindOf y.1=some .cell\/X.env.kindOf y.1=some .free
 nd:(own++fv.map λi=>X.N.getD i O0).Nodup
 fvs:∀i∈fv,i<X.N.length/\scope.names.lookup (X.N.getD i O0)=some .free
noncomputable def qEO (own:List Str)(fv:List Nat)(σ:St):St:=(own.map λ_=>none)++fv.map λi=>(σ[i]?).join
theorem qI5 {prog:B20}{w:World}{A:Around}{R:Result->Shared->Prop}{s:Shared}{f a e:Expr}{g:List Expr}{d:Scope}{pos:Pos}{k acc:Value}{env:Env}(I:Nat->Shared->Prop)
  (i:∀ n s,I n s->wpAny (model prog w) A (pyNext k) (fun r s₁=>match r with
   |none=>R (.ok .next) s₁
   | some v=>wpAny (model prog w) A (B90 a k v) (fun _ s₁=>wpAny (model prog w) A (assign a env v) (fun _ s₂=>
     wpAny (model prog w) A (forIn g true fun c r=>if r=true then do let ok <- isTrue c env (eval c env);pure (O1 ok) else pure (O1 r)) (fun ok s₃=>
      if ok=true then wpAny (model prog w) A (eval f env) (fun x s₄=>
       wpAny (model prog w) A (call (.builtin "list.append") [acc,x]) (λ_ s₅=>∃m,m<n/\I m s₅) noX s₄) noX s₃
      else∃m,m<n/\I m s₃) noX s₂) noX s₁) noX s₁) noX s)
  (n:Nat) (h:I n s):
  B50 (model prog w) A (.compLoop (.ListComp f [⟨a,e,g,0⟩] d pos) 0 k acc env) R s:=by
 refine codeAny_loop rfl I (λn s p=>?_) n h;show wpAny _ A ((compTurn (.ListComp f [⟨a,e,g,0⟩] d pos) 0 k acc env).onRaise (λx=>do noteFrame x env;theTreesLotGoes x)) _ _ s
 refine wpAny_noted ?_;rw[compTurn_list];refine B16 (B72 (B16 (B26 (i n s p) (λr s₁ j=>?_) λ_ _ b=>b.elim)));cases r with
 |none=>exact B17 j
 |some v=>
  refine B16 (B26 j (λ_ s₁ j=>?_) λ_ _ b=>b.elim);refine B16 (B26 j (λ_ s₂ q=>B16 (B26 q (λok s₃ l=>?_) λ_ _ b=>b.elim)) λ_ _ b=>b.elim);cases ok with
  |false=>exact B17 ⟨rfl,l⟩
  |true=>
   exact B16 (B16 (B26 l (λx s₄ o=>B16 (B26 o (λ_ s₅ t=>B17 (B17 ⟨rfl,t⟩)) λ_ _ b=>b.elim)) λ_ _ b=>b.elim))
section
variable{X:Cx}{Ab:List (Addr×Obj)}{σ:St}{H:Hp}{s:Shared}
theorem Inv.other {h':Heap}{L:Addr}{n:Nat}(I:Inv X Ab σ H s)(a:X.s₀.heap.objs.size<=L)(h:H L=none)(g:L≠X.env.locals)(d:∀x c,X.env.cells.lookup x=some c->c≠L)(f:∀p∈X.pn++Ab,p.1≠L)
  (k:Heap.SameBut L s.heap h'):Inv X Ab σ H {s with heap:=h'}:=
 I.turned (t':=s.toks) (λb o a e=>(k.2 b a).trans e) h g (.inr a) d f
theorem qbS {a:Scope}{own:List Str}{fv:List Nat}{m:List Addr}(I:Inv X Ab σ H s)(S:LcScope X a own fv)(i:∀b∈m,FpOk X Ab H b)(hsz:∀b∈m,b<s.heap.objs.size):
  (lcCx X a own fv ⟨s.heap.objs.size,qD8 X.env a.names [],m,s,H⟩).Ok:=by
 have l:∀x,(x,G0)∈a.names->∃c,X.env.cells.lookup x=some c:=λx h=>I.ok.has x (S.free _ h rfl);have g:=qEB (env:=X.env) (names:=a.names) (acc:=[]) l (λx c z=>by simp at z)
 refine⟨I.ok.mod,S.kind,I.ok.glob,I.ok.blt,A7 _,λx y c r p=>I.ok.inj x y c (g _ _ r) (g _ _ p),λx h=>?_,λx c h=>?_,I.ok.hd,I.ok.frames,.inl rfl,λb f=>⟨?_,λx c e=>?_⟩,I.bs,F3 I.ok.bsz I.sz,λb o e f=>?_,λb f j=>?_,I.stack,I.stkFree⟩
 ·refine qEC (.inl ?_);have d:(B58 a X.env).names.lookup x=some .cell\/(B58 a X.env).names.lookup x=some .free:=h;unfold B58 at d;rw[qBZ] at d;cases e:a.names.lookup x with
  |none=>rw[e] at d;simp at d
  |some k=>
   have n:=F1 e;have q:=S.nocell _ n;rw[e] at d;simp only[O9,A55] at d;cases k with
   |free=>exact n
   |cell=>exact absurd rfl q
   |_=>simp at d
 ·cases h
 ·exact D2 (hsz b f)
 ·exact(i b f).2.2.2.2.1 x c (g _ _ e)
 ·rcases(i b f).2.2.2.1 with z|z
  ·exact I.ok.noex b o e z
  ·exact absurd (D4 (B7 (I.ok.bs b o e).1) z) (O2 _)
 ·rcases C0.mp (I.stkSub b j) with z|z
  ·exact(i b f).2.1 z
  ·exact(i b f).2.2.1 z
theorem qWR {a:Scope}{own:List Str}{fv:List Nat}{fp:List Addr}{h₁:Heap}{tk:Nat}(I:Inv X Ab σ H s)(S:LcScope X a own fv)(hf:∀b∈fp,FpOk X Ab H b)(hsz:∀b∈fp,b<s.heap.objs.size)
  (a2:h₁.Ns s.heap.objs.size (λ_=>none)) (r:∀b o,s.heap.get? b=some o->h₁.get? b=some o):
  Inv (lcCx X a own fv ⟨s.heap.objs.size,qD8 X.env a.names [],fp,s,H⟩) [] (qEO own fv σ) H {s with heap:=h₁,toks:=tk}:=by
 have a1:∀x,(x,G0)∈a.names->∃c,X.env.cells.lookup x=some c:=λx hx=>I.ok.has x (S.free _ hx rfl);have h:=qEB (env:=X.env) (names:=a.names) (acc:=[]) a1 (λx c z=>by simp at z)
 refine⟨qbS I S hf hsz,rfl,I.bare,Un.kept r,⟨_,a2,λi x v f d h3=>?_⟩,λx c e=>?_,I.hok.fresh (A7 _),λx c e=>I.freeC x c (h _ _ e),λp hp=>absurd (show p∈([]:List (Addr×Obj)) from hp) (by simp),I.hok.kept r,?_⟩
 ·have f:(own++fv.map λi=>X.N.getD i O0)[i]?=some x:=f;unfold qEO at d;have t:own.length<=i:=by
   apply V0;intro t;rw[G6 (by simpa using t),B6] at d
   cases e:own[i]? with
   |none=>rw[e] at d;cases d
   |some z=>rw[e] at d;cases d
  rw[F4 (by simpa using t),A0,B6] at d
  rw[F4 t,B6] at f;cases e:fv[i-own.length]? with
  |none=>rw[e] at f;cases f
  |some j=>
   rw[e] at f d;have hj:=S.fvs j (B0 e);have f:X.N.getD j O0=x:=D5 f;have d:(σ[j]?).join=some v:=D5 d;have a0:σ[j]?=some (some v):=by
    cases q:σ[j]? with
    |none=>rw[q] at d;cases d
    |some y=>rw[q] at d;exact congrArg some d
   have hx:X.N[j]?=some x:=by
    rw[P3] at f;rw[A3 hj.1] at f ⊢;exact congrArg some f
   have l:a.names.lookup x=some .free:=f ▸ hj.2;have g:=F1 l;obtain ⟨m,hn,hl⟩:=id I.loc;have k:=S.free _ g rfl;obtain ⟨u,ru,lk⟩:=hl j x v hx a0 (by
    rcases k with z|z
    ·exact .inr (.inl z)
    ·exact .inr (.inr z))
   refine⟨u,ru,?_⟩;rcases lk with⟨z,_⟩|⟨_,c,e1,z⟩
   ·rcases k with y|y
    ·have n:X.env.kindOf x=some .cell:=y;rw[z] at n;cases n
    ·have n:X.env.kindOf x=some .free:=y;rw[z] at n;cases n
   ·obtain⟨c',e2⟩:=qEC (env:=X.env) (names:=a.names) (acc:=[]) (x:=x) (.inl g);have e3:=h _ _ e2;rw[e1] at e3;cases e3;obtain⟨o,ho,w⟩:=z;refine .inr ⟨?_,c,e2,o,r _ _ ho,w⟩;show(B58 a X.env).names.lookup x=some .cell\/(B58 a X.env).names.lookup x=some .free;unfold B58;rw[qBZ,l,O9]
    split
    ·exact .inl rfl
    ·exact .inr rfl
 ·obtain⟨v,o,ho,w⟩:=I.cell x c (h _ _ e);exact⟨v,o,r _ _ ho,w⟩
 ·unfold qEO;show _=(own++fv.map λi=>X.N.getD i O0).length;rw[A9,A9,A0,A0,A0]
theorem qZR {a:Scope}{own:List Str}{fv:List Nat}{f:List Addr}{c:List (Addr×Obj)}{σ':St}{H':Hp}{g:Shared}{h:List (Str×Addr)}(I:Inv X Ab σ H s)(e:∀b∈f,FpOk X Ab H b)
  (J:Inv (lcCx X a own fv ⟨s.heap.objs.size,h,f,s,H⟩) c σ' H' g):Inv X Ab σ H' g:=
 I.call' (ch:=f) J.os J.base J.hok J.bare λb d=>⟨(e b d).2.2.2.1,(e b d).2.1,(e b d).2.2.2.2.1,(e b d).2.2.2.2.2⟩
end
def PTs (X:Cx)(ifs:List Expr)(t:TT):Prop:=
 ∀(Ab:List (Addr×Obj)) (s:Shared) (σ:St) (H:Hp) (Q:Bool->Hp->Prop),Inv X Ab σ H s->t σ H Q->
  wpAny (model X.prog X.w) X.A (forIn ifs true λc r=>if r=true then do let ok <- isTrue c X.env (eval c X.env);pure (O1 ok) else pure (O1 r)) (TP X Ab σ Q) X.xe s
def qcI:TT:=λ_ H Q=>Q true H
theorem qB6 {X:Cx}:PTs X [] qcI:=λa s σ H Q I h=>wpAny_tests_nil ⟨H,I,h⟩
theorem qDF {X:Cx}{c:Expr}{t:TT}(h:PT X c t):PTs X [c] t:=λb s σ H Q I a=>wpAny_tests_one (h b s σ H Q I a)
def qZS (own:List Str)(fv:List Nat)(wi:TI)(g:TG)(tc:TT)(te:TE)(K:Addr->Hp->Prop):St->Hp->Prop:=λσ H=>wi σ H λJ H1=>∀p,H1 p=none->
 ∃W:Nat->Nat->St->Hp->Prop,(∃m,W 0 m (qEO own fv σ) (Ag H1 p (.lst [])))/\∀i m σ H,W i m σ H->
  (J.stop i H/\K p H)\/(J.go i H/\∃ N:St->Hp->Prop,(∀ σ' H',N σ' H'->∃ m',m'<m/\W (i+1) m' σ' H')/\∀ x H',J.yld i H x H'->g x σ H' fun σ2 H2=>tc σ2 H2 fun b H3=>
   if b=true then te σ2 H3 λy H4=>∃ys,H4 p=some (.lst ys)/\ys.length<B18/\N σ2 (Ag H4 p (.lst (ys++[y])))
   else N σ2 H3)
def tLc (own:List Str)(fv:List Nat)(wi:TI)(g:TG)(tc:TT)(te:TE):TE:=λσ H Q=>qZS own fv wi g tc te (λp H'=>Q (.ref p) H') σ H
section
variable{X:Cx}{tg iter elt:Expr}{ifs:List Expr}{scope:Scope}{pos:Pos}{own:List Str}{fv:List Nat}{wi:TI}{g:TG}{tc:TT}{te:TE}
theorem qU8 {Ab:List (Addr×Obj)}{s:Shared}{σ:St}{H:Hp}{K:Addr->Hp->Prop}{use:Option (Value->Sem Unit)}{Q:Value->Shared->Prop}{E:Value->Shared->Prop}(hc:X.calm=true)(S:LcScope X scope own fv)(hi:PI X tg iter wi)
  (hg:∀z,PG (lcCx X scope own fv z) tg g) (ht:∀z,PTs (lcCx X scope own fv z) ifs tc) (he:∀z,PE (lcCx X scope own fv z) elt te)
  (I:Inv X Ab σ H s) (h:qZS own fv wi g tc te K σ H) (ac:∀e s,X.xe e s->E e s)
  (ao:∀ (p:Addr) (L:Addr) (H':Hp) (s':Shared) (m:Str->Option Value),Inv X Ab σ H' s'->K p H'->s'.heap.Ns L m->X.s₀.heap.objs.size<=L->H' L=none->L ≠ X.env.locals->(∀ x c,X.env.cells.lookup x=some c->c ≠ L)->(∀ q ∈ X.pn++Ab,q.1 ≠ L)->
   compPost (model X.prog X.w) X.A E use Q (.ref p) L (.ok .next) s') (hs:∀x,B54 iter X.env x=pure x:=by intro _;rfl):
  wpAny (model X.prog X.w) X.A (comprehension (.ListComp elt [⟨tg,iter,ifs,0⟩] scope pos) scope X.env (firstIterPos [⟨tg,iter,ifs,0⟩] pos) (newList []) false (eval iter X.env) use) Q E s:=by
 have ak:∀x,(x,G0)∈scope.names->∃c,X.env.cells.lookup x=some c:=λx hx=>I.ok.has x (S.free _ hx rfl);refine wpAny_comprehension_free rfl hs (qG3 ak) S.kind S.names (B26 (hi Ab s σ H _ I h) (λv s1 h1=>B26 h1 (λap j h2=>?_) ac) ac);obtain⟨it,k,tn,J,H2,e,I2,T,aa,f2,q2⟩:=h2;subst e
 -- the list
 refine B29 ?_;have a2:H2 j.heap.objs.size=none:=I2.hok.fresh (A7 _);have I3:Inv X Ab σ (Ag H2 j.heap.objs.size (.lst [])) {j with heap:=j.heap.push {cls:=.type "list",dict:=none,data:=.seq ([]:List Value).toArray}}:=
  I2.laid (t':=j.toks) (λb u e=>A5 _ e) (A7 _) ⟨E8 _,[],0,.nil,B4 _ rfl⟩
 obtain⟨W,⟨m0,w0⟩,af⟩:=q2 j.heap.objs.size a2;have ag:∀b∈k,b<j.heap.objs.size:=λb a=>by
  obtain⟨o,e,_⟩:=T.obj 0 _ aa b a;exact B7 e
 have f3:∀b∈k,FpOk X Ab (Ag H2 j.heap.objs.size (.lst [])) b:=λb a=>⟨by rw[qAA (D2 (ag b a))];exact(f2 b a).1,(f2 b a).2⟩
 generalize hp:j.heap.objs.size=p at *;generalize hH3:Ag H2 p (.lst [])=H3 at *;have al:tn 0 (j.heap.push {cls:=.type "list",dict:=none,data:=.seq ([]:List Value).toArray}):=T.keep _ _ _ aa λb _ o e=>A5 _ e;have an:∀b∈k,b<(j.heap.push {cls:=.type "list",dict:=none,data:=.seq ([]:List Value).toArray}).objs.size:=λb a=>by
  rw[L7];have:=ag b a;rw[hp];exact Q6 this
 generalize hs3:({j with heap:=j.heap.push {cls:=.type "list",dict:=none,data:=.seq ([]:List Value).toArray}}:Shared)=f at *;have ad:tn 0 f.heap:=by rw[<- hs3];exact al
 have a5:∀b∈k,b<f.heap.objs.size:=by rw[<- hs3];exact an
 -- the block's frame
 refine wpAny_newFunctionEnv S.nocell (by intro y hy;simp at hy) (λh₁ ab ae=>?_) S.kind
 have t:∀b o,f.heap.get? b=some o->h₁.get? b=some o:=λb o e=>ae.extBut b o (D2 (B7 e)) (A5 _ e);have J0:Inv (lcCx X scope own fv ⟨f.heap.objs.size,qD8 X.env scope.names [],k,f,H3⟩) [] (qEO own fv σ) H3 {f with heap:=h₁,toks:=f.toks+([]:List (Str×Value)).length}:=qWR I3 S f3 a5 ab t;have a7:=qbS I3 S f3 a5;generalize hz:(⟨f.heap.objs.size,qD8 X.env scope.names [],k,f,H3⟩:LcZ)=z at *;have a0:tn 0 h₁:=T.keep _ _ _ ad λb _ o e=>t b o e;have a3:∀b∈k,H3 b=none:=λb a=>(f3 b a).1;have l:∀{H':Hp},(∀b∈k,H' b=none)->∀b∈k,FpOk (lcCx X scope own fv z) [] H' b:=λhn b a=>by
  subst hz;refine⟨hn b a,(a7.exf b a).1,a7.exfs b a,.inl a,(a7.exf b a).2,λq hq=>absurd (show q∈([]:List (Addr×Obj)) from hq) (by simp)⟩
 have ah:({newEnv scope f.heap.objs.size X.env.globals (qD8 X.env scope.names []) X.env.qual none .none (some X.env) B69 with scope:=B58 scope X.env}:Env)=(lcCx X scope own fv z).env:=by
  subst hz
  rfl
 have a6:∀sA:Shared,sA={f with heap:=h₁,toks:=f.toks+([]:List (Str×Value)).length}->B50 (model X.prog X.w) X.A (.compLoop (.ListComp elt [⟨tg,iter,ifs,0⟩] scope pos) 0 (.ref it) (.ref p) (lcCx X scope own fv z).env)
   (compPost (model X.prog X.w) X.A E use Q (.ref p) f.heap.objs.size) sA:=by
  rintro sA rfl;refine qI5 (λn s'=>∃i σ' H',Inv (lcCx X scope own fv z) [] σ' H' s'/\tn i s'.heap/\(∀b∈k,H' b=none)/\W i n σ' H') ?_ m0 ⟨0,_,H3,J0,a0,a3,w0⟩;rintro n s4 ⟨i,σ4,H4,I4,a0,a3,w4⟩;rcases af i n σ4 H4 w4 with⟨a9,qn⟩|⟨go,Nx,a8,ai⟩
  ·refine thn (T.done (lcCx X scope own fv z) rfl rfl rfl hc i [] s4 σ4 H4 noX I4 (l a3) a0 a9) λr s5 ⟨hr,I5⟩=>?_;subst hr;subst hz;have I6:Inv X Ab σ H4 s5:=qZR I3 f3 I5;obtain⟨m,hn,_⟩:=id I5.loc;have a4:=I3.fpOk (H':=H4) (b:=f.heap.objs.size) (A7 _) I5.free;refine ao p f.heap.objs.size H4 s5 m I6 qn hn I3.sz a4.1 a4.2.1 a4.2.2.2.2.1 a4.2.2.2.2.2
  ·refine thn (T.item (lcCx X scope own fv z) rfl rfl rfl hc i [] s4 σ4 H4 noX I4 (l a3) a0 go) λr s5 ⟨u,hr,h5⟩=>?_;subst hr;refine thn h5 λ_ s6 ⟨x,H6,I6,r6,y6,st6,fr6⟩=>?_;have am:=I6.pinned (l fr6) (T.obj _ _ st6);have a1:∀{σ7:St} {H7:Hp} {s7:Shared} {m':Nat},m'<n->Inv (lcCx X scope own fv z) ([]++qKN k s6.heap) σ7 H7 s7->W (i+1) m' σ7 H7->
     ∃m,m<n/\∃i σ' H',Inv (lcCx X scope own fv z) [] σ' H' s7/\tn i s7.heap/\(∀b∈k,H' b=none)/\W i m σ' H':=λ{σ7 H7 s7 m'} hm I7 w7=>by
    refine⟨m',hm,i+1,σ7,H7,I7.unpinned,T.keep _ _ _ st6 λb a o e=>(I7.pin (b,o) (E4 _ (E4 _ (qD9 a e)))).1,λb a=>?_,w7⟩;obtain⟨o,e,d⟩:=T.obj _ _ st6 b a;exact(I7.pin (b,o) (E4 _ (E4 _ (qD9 a e)))).2.1
   refine thn (hg z _ s6 σ4 H6 x u _ am r6 (ai x H6 y6)) λ_ s7 ⟨σ7,H7,I7,q7⟩=>?_;refine thn (ht z _ s7 σ7 H7 _ I7 q7) λb s8 ⟨H8,I8,q8⟩=>?_;cases b with
   |false=>
    obtain⟨m',hm,w8⟩:=a8 _ _ q8;exact a1 hm I8 w8
   |true=>
    refine thn (he z _ s8 σ7 H8 _ I8 q8) λv s9 ⟨y,H9,I9,r9,ys,ep,hl,w9⟩=>?_;refine thn (qCC (X:=lcCx X scope own fv z) _ s9 σ7 H9 (.ref p) [y] (.ref p) [v] (λ_ H'=>Nx σ7 H') I9 rfl (.cons r9 .nil) ⟨p,ys,y,rfl,rfl,ep,hl,w9⟩) λ_ s10 ⟨_,H10,I10,_,q10⟩=>?_;obtain⟨m',hm,aj⟩:=a8 _ _ q10;exact a1 hm I10 aj
 rw[ah];exact codeAny_compStart_list (a6 _ rfl) (T.self _ _ _ _ _ a0 (a6 _ rfl))
theorem qCR (k:X.calm=true)(S:LcScope X scope own fv)(hi:PI X tg iter wi)(d:∀z,PG (lcCx X scope own fv z) tg g)(i:∀z,PTs (lcCx X scope own fv z) ifs tc)(o:∀z,PE (lcCx X scope own fv z) elt te)
  (e:∀x,B54 iter X.env x=pure x:=by intro _;rfl):PE X (.ListComp elt [⟨tg,iter,ifs,0⟩] scope pos) (tLc own fv wi g tc te):=by
 intro v s σ H Q I h;rw[eval_ListComp];refine qU8 (use:=none) (K:=λp a=>Q (.ref p) a) k S hi d i o I h (λ_ _ q=>q) (λp L a w m j q u t f r l c=>?_) e;exact⟨m,u,λy b=>⟨.ref p,a,j.other (n:=0) t f r l c b,rfl,q⟩⟩
theorem qOT {i:Nat}{x:Str}{b c:Pos}(hN:X.N.Nodup)(hx:X.N[i]?=some x)(r:X.env.scope.names.lookup x=some .local)(hc:X.calm=true)(S:LcScope X scope own fv)(hi:PI X tg iter wi)(hg:∀z,PG (lcCx X scope own fv z) tg g)
  (ht:∀z,PTs (lcCx X scope own fv z) ifs tc) (he:∀z,PE (lcCx X scope own fv z) elt te) (l:swapsWith (.ListComp elt [⟨tg,iter,ifs,0⟩] scope pos) (some (.Name x b)) c.line X.env=pure true)
  (hs:∀x,B54 iter X.env x=pure x:=by intro _;rfl):PS X (.Assign [.Name x b] (.ListComp elt [⟨tg,iter,ifs,0⟩] scope pos) c) (tAsg (tLc own fv wi g tc te) (qSB i)):=by
 intro u s σ H D I h;rw[exec_Assign_Name_used _ _ _ _ l];refine B16 (B72 (B16 ?_));show wpAny _ X.A (do let _ <- comprehension (.ListComp elt [⟨tg,iter,ifs,0⟩] scope pos) scope X.env _ (newList []) false (eval iter X.env) (some (assign (.Name x b) X.env))) _ _ s
 refine B16 (B26 (qU8 (use:=some (assign (.Name x b) X.env)) (K:=fun p j=>D.nx (σ.set i (some (.ref p))) j) (Q:=fun _ k=>SP X u D .next k) (E:=X.xe) hc S hi hg ht he I h (fun _ _ q=>q) (fun p L j k m I' q hn h1 w o t h5=>?_) hs)
  (λ_ k hq=>B17 (B17 hq)) λ_ _ e=>e)
 show wpAny _ X.A (assign (.Name x b) X.env (.ref p)) _ _ _;refine wpAny_assign_Name (qJ1 (v:=.ref p) I' hN hx (.inl r) rfl (λs2 I2 ⟨a,hsb,ha⟩=>?_) (.inr r));have f:L≠a:=by
  rcases ha with z|z
  ·rw[z];exact o
  ·exactλy=>t x a z y.symm
 exact⟨m,hn.sameBut hsb f,λh' d=>⟨_,j,I2.other (n:=0) h1 w o t h5 d,q⟩⟩
end
abbrev LcG (I:It)(g:TG)(tc:TT)(te:TE)(Kf:Hp->Prop)(σ0:St)(H0:Hp)(p:Addr):Prop:=∃W:Nat->Nat->St->Hp->Prop,(∃m,W 0 m σ0 H0)/\∀i m σ H,W i m σ H->(I.stop i H/\Kf H)\/(I.go i H/\∃N:St->Hp->Prop,(∀σ' H',N σ' H'->∃m',m'<m/\W (i+1) m' σ' H')/\∀x H',I.yld i H x H'->g x σ H' λσ2 H2=>tc σ2 H2 λb H3=>if b=true then te σ2 H3 λy H4=>∃ys,H4 p=some (.lst ys)/\ys.length<B18/\N σ2 (Ag H4 p (.lst (ys++[y]))) else N σ2 H3)
theorem qBV {lo:Int}{n:Nat}{g:TG}{c:TT}{d:TE}{Kf:Hp->Prop}{σ0:St}{H0:Hp}{p:Addr}(Pv:Nat->St->Hp->Prop)(l:Pv 0 σ0 H0)
  (k:∀i σ H,i<n->Pv i σ H->g (.int (lo+i)) σ H λσ2 H2=>c σ2 H2 λb H3=>if b=true then d σ2 H3 λy H4=>∃ys,H4 p=some (.lst ys)/\ys.length<B18/\Pv (i+1) σ2 (Ag H4 p (.lst (ys++[y]))) else Pv (i+1) σ2 H3)
  (f:∀σ H,Pv n σ H->Kf H):
  LcG (Itr lo n) g c d Kf σ0 H0 p:=by
 refine⟨λi m σ H=>m=n-i/\i<=n/\Pv i σ H,⟨n,by simp,E8 _,l⟩,?_⟩
 rintro i m σ H ⟨rfl,hi,q⟩;by_cases a:i<n
 ·refine .inr ⟨a,Pv (i+1),λσ' h j=>⟨n-(i+1),by omega,rfl,a,j⟩,λx h y=>?_⟩
  obtain⟨e,y⟩:=y;subst e y;exact k i σ _ a q
 ·have e:i=n:=by omega
  subst e;exact .inl ⟨A7 _,f σ H q⟩
theorem qGC {K:PySem.W.Frag}{a:Addr}{xs:List V}{g:TG}{f:TT}{h:TE}{Kf:Hp->Prop}{σ0:St}{H0:Hp}{p:Addr}(Pv:Nat->St->Hp->Prop)(r:Pv 0 σ0 H0)(l:∀i σ H,i<=xs.length->Pv i σ H->SqL K H a xs)
  (o:∀i x σ H,xs[i]?=some x->Pv i σ H->g x σ H λσ2 H2=>f σ2 H2 λb H3=>if b=true then h σ2 H3 λy H4=>∃ys,H4 p=some (.lst ys)/\ys.length<B18/\Pv (i+1) σ2 (Ag H4 p (.lst (ys++[y]))) else Pv (i+1) σ2 H3)
  (j:∀σ H,Pv xs.length σ H->Kf H):
  LcG (Itl K a) g f h Kf σ0 H0 p:=by
 refine⟨λi m σ H=>m=xs.length-i/\i<=xs.length/\Pv i σ H,⟨xs.length,by simp,E8 _,r⟩,?_⟩
 rintro i m σ H ⟨rfl,hi,q⟩;have d:=l i σ H hi q;by_cases c:i<xs.length
 ·refine .inr ⟨⟨xs,xs[i],d,by simp[c]⟩,Pv (i+1),λσ' k n=>⟨xs.length-(i+1),by omega,rfl,c,n⟩,λx k y=>?_⟩
  obtain⟨e,y⟩:=y;subst e;exact o i x σ _ (y xs d) q
 ·have e:i=xs.length:=by omega
  subst e;exact .inl ⟨⟨xs,d,A7 _⟩,j σ H q⟩
theorem qG7 {K:PySem.W.Frag}{a:Addr}{xs:List V}{g:TG}{f:TT}{h:TE}{Kf:Hp->Prop}{σ0:St}{H0:Hp}{p:Addr}(Pv:Nat->St->Hp->Prop)(r:Pv 0 σ0 H0)(l:∀i σ H,i<=xs.length->Pv i σ H->SqT K H a xs)
  (o:∀i x σ H,xs[i]?=some x->Pv i σ H->g x σ H λσ2 H2=>f σ2 H2 λb H3=>if b=true then h σ2 H3 λy H4=>∃ys,H4 p=some (.lst ys)/\ys.length<B18/\Pv (i+1) σ2 (Ag H4 p (.lst (ys++[y]))) else Pv (i+1) σ2 H3)
  (j:∀σ H,Pv xs.length σ H->Kf H):
  LcG (Itt K a) g f h Kf σ0 H0 p:=by
 refine⟨λi m σ H=>m=xs.length-i/\i<=xs.length/\Pv i σ H,⟨xs.length,by simp,E8 _,r⟩,?_⟩
 rintro i m σ H ⟨rfl,hi,q⟩;have d:=l i σ H hi q;by_cases c:i<xs.length
 ·refine .inr ⟨⟨xs,xs[i],d,by simp[c]⟩,Pv (i+1),λσ' k n=>⟨xs.length-(i+1),by omega,rfl,c,n⟩,λx k y=>?_⟩
  obtain⟨e,y⟩:=y;subst e;exact o i x σ _ (y xs d) q
 ·have e:i=xs.length:=by omega
  subst e;exact .inl ⟨⟨xs,d,A7 _⟩,j σ H q⟩
noncomputable def qU9 (scope:Scope)(own:List Str)(fv:List Nat)(osc:Scope)(N:List Str):Bool:=
 decide (scope.kind=.function)&&scope.names.all (λy=>decide (y.2≠.cell))&&scope.names.all (λy=>decide (y.2≠.local)||decide (scope.names.lookup y.1=some .local)) &&
 scope.names.all (λy=>decide (y.2≠.free)||(decide (osc.names.lookup y.1=some .cell)||decide (osc.names.lookup y.1=some .free)))&&decide ((own++fv.map λi=>N.getD i O0).Nodup) &&
 fv.all λi=>decide (i<N.length)&&decide (scope.names.lookup (N.getD i O0)=some .free)
theorem lcs {X:Cx}{a:Scope}{own:List Str}{fv:List Nat}(h:qU9 a own fv X.env.scope X.N=true):LcScope X a own fv:=by
 unfold qU9 at h;simp only[L6,decide_eq_true_eq,J5,P9] at h;obtain⟨⟨⟨⟨⟨j,f⟩,g⟩,i⟩,d⟩,c⟩:=h;exact⟨j,f,λy b e=>(g y b).resolve_left λz=>z e,λy b e=>(i y b).resolve_left λz=>z e,d,c⟩
theorem qbQ {N:List Str}(h:decide N.Nodup=true):N.Nodup:=of_decide_eq_true h
theorem qLT {X:Cx}{K:PySem.W.Frag}{es:List Expr}{k n:Nat}{t:TGs}{pos:Pos}(b:X.K=K)(c:X.calm=true)(h:PGs X es t)(d:(B70 es X.env).length=n)(a:(B70 es X.env).findIdx? (·.1)=none):PG X (.Tuple es k pos) (gTup K n t):=by
 subst b d;exact qTI c h rfl a
theorem qOY {X:Cx}{K:PySem.W.Frag}{c l:Expr}{a:TE}(b:X.K=K)(d:PE X l a):PI X c l (iTup K a):=by subst b;exact qE5 d
theorem qJN {X:Cx}{K:PySem.W.Frag}(a:X.K=K):IxR X (rIxT K):=by subst a;exact qCD
theorem qWW {X:Cx}{K:PySem.W.Frag}(a:X.K=K):IxR X (rIxL K):=by subst a;exact qCU
theorem qTS {X:Cx}{K:PySem.W.Frag}(a:X.K=K):OpR X (B35 .In) (rIn K false):=by subst a;exact qJG
theorem qVL {X:Cx} {K:PySem.W.Frag} (a:X.K=K):qCF X (.builtin "len") (λxs H Q=>∃p ys,xs=[.ref p]/\(SqL K H p ys\/SqT K H p ys)/\Q (.int ys.length) H):=by subst a;exact qA8
theorem qGI {X:Cx} {K:PySem.W.Frag} (a:X.K=K):qCF X (.type "tuple") (λxs H Q=>∃p ys,xs=[.ref p]/\((SqL K H p ys/\∀l,H l=none->Q (.ref l) (Ag H l (.tup ys)))\/(SqT K H p ys/\Q (.ref p) H))):=by subst a;exact qAJ
theorem qMQ {xs:Array Nat}{j:Nat}(up:∀a b,a<b->b<xs.size->xs.getD a j<xs.getD b j):∀(fuel lo hi:Nat),lo<=hi->hi<=xs.size->hi-lo<=fuel->(∀i,i<lo->xs.getD i j<j)->(∀i,hi<=i->i<xs.size->j<=xs.getD i j)->
  c5 xs j fuel lo hi<=xs.size/\(∀i,i<c5 xs j fuel lo hi->xs.getD i j<j)/\(∀i,c5 xs j fuel lo hi<=i->i<xs.size->j<=xs.getD i j)
 |0,lo,hi,h1,h2,h3,a,b=>by
  have e:lo=hi:=by lia
  subst e;exact⟨h2,a,b⟩
 |fuel+1,lo,hi,h1,h2,h3,a,b=>by
  unfold c5;by_cases hlt:lo<hi
  ·rw[if_pos hlt];dsimp only;have hm1:lo<=(lo+hi)/2:=by lia
   have hm2:(lo+hi)/2<hi:=by lia
   by_cases hc:xs.getD ((lo+hi)/2) j<j
   ·rw[if_pos hc];refine qMQ up fuel _ _ (by lia) h2 (by lia) (λi hi'=>?_) b
    by_cases e:i=(lo+hi)/2
    ·rw[e];exact hc
    ·exact Y2 (up i ((lo+hi)/2) (by lia) (by lia)) hc
   ·rw[if_neg hc];refine qMQ up fuel _ _ (by lia) (by lia) (by lia) a (λi hi' hs=>?_)
    by_cases e:i=(lo+hi)/2
    ·rw[e];lia
    ·have:=up ((lo+hi)/2) i (by lia) hs
     lia
  ·rw[if_neg hlt];have e:lo=hi:=by lia
   subst e;exact⟨h2,a,b⟩
theorem qYN {xs:Array Nat}(j:Nat)(h:xs.toList.Pairwise (·<·)):∀a b,a<b->b<xs.size->xs.getD a j<xs.getD b j:=λa b c d=>by
 have:=G2.mp h a b (by simpa using Y2 c d) (by simpa using d) c
 rw[F7,F7,B9 (Y2 c d),B9 d];simpa using this
theorem qHW {xs:Array Nat}{j:Nat}(h:xs.toList.Pairwise (·<·)):E2 xs j<=xs.size/\(∀i,i<E2 xs j->xs.getD i j<j)/\(∀i,E2 xs j<=i->i<xs.size->j<=xs.getD i j):=by
 unfold E2;exact qMQ (qYN j h) xs.size 0 xs.size (E8 _) (A7 _) (by lia) (λi a=>absurd a (by lia)) (λi a b=>absurd b (by lia))
theorem qCE {α:Type}(xs:Array α)(p:Nat)(x:α):(F2 xs p x).toList=xs.toList.take p++x::xs.toList.drop p:=by
 unfold F2;simp[Array.toList_extract,C7]
structure T7 (byText:Bool)(t:B64)(n:Nat):Prop where
 mask:t.mask=7
 dum:t.dummies=#[]
 plain:t.plain=true
 led:t.led=!byText
 size:t.place.size=n
 up:t.place.toList.Pairwise (·<·)
 le:∀j∈t.place.toList,j<=7
section
variable{byText:Bool}{t:B64}{n:Nat}
theorem T7.slot (T:T7 byText t n)(j:Nat):(t.slot j=.empty/\j∉t.place.toList)\/(∃i,t.slot j=.live i/\j∈t.place.toList):=by
 unfold SetTable.slot;dsimp only;have d:B09 t.dummies j=false:=by rw[T.dum];rfl
 obtain⟨o,h,e⟩:=qHW (j:=j) T.up;by_cases b:t.place[E2 t.place j]?=some j
 ·rw[if_pos (by rw[b];simp)]
  exact .inr ⟨_,rfl,by rw[<- Array.mem_def];exact Array.mem_of_getElem? b⟩
 ·rw[if_neg (by simpa using b),d,if_neg (by simp)]
  refine .inl ⟨rfl,λf=>?_⟩;obtain⟨i,m,c⟩:=W8.mp f;have a:i<t.place.size:=by simpa using m
  have k:t.place.getD i j=j:=by
   rw[F7,B9 a];simpa using c
  have l:¬i<E2 t.place j:=λz=>by have:=h i z;lia
  have g:E2 t.place j=i:=by
   apply Nat.le_antisymm (V0 l);apply V0;intro z;have:=e (E2 t.place j) (A7 _) (by lia)
   have:=qYN j T.up _ _ z a
   lia
  apply b;rw[g,B9 a];simpa using c
def pr (i pt:Nat):SetTable.Probe:={j:=i,more:=0,i:=i,perturb:=pt,dummy:=none}
theorem T7.adv (T:T7 byText t n)(i a:Nat):t.advance (pr i a)=pr ((i*5+1+a/32)%8) (a/32):=by
 unfold SetTable.advance pr SetTable.leap A82;rw[T.mask];dsimp only;rw[if_neg (by lia),if_neg (by lia),A10]
theorem T7.go1 (T:T7 byText t n)(h:Int)(f i a:Nat):
  (Q7 t (λ_=>h+1) h (f+1) (pr i a)=some (.empty i none)/\i∉t.place.toList)\/
  (Q7 t (λ_=>h+1) h (f+1) (pr i a)=Q7 t (λ_=>h+1) h f (pr ((i*5+1+a/32)%8) (a/32))/\i∈t.place.toList):=by
 rcases T.slot i with⟨e,m⟩|⟨k,e,m⟩
 ·left
  refine⟨?_,m⟩;unfold Q7;rw[show(pr i a).j=i from rfl,e]
  rfl
 ·right
  refine⟨?_,m⟩;rw[Q7];rw[show(pr i a).j=i from rfl,e];dsimp only;rw[if_neg (by simp;lia),T.adv]
def F8 (i:Nat):Nat:=(i*5+1)%8
def F8n:Nat->Nat->Nat
 |0,i=>i
 |m+1,i=>F8n m (F8 i)
theorem T7.go0 (T:T7 byText t n)(h:Int)(f:Nat):∀(m i:Nat),(∃j,Q7 t (λ_=>h+1) h (m+f) (pr i 0)=some (.empty j none)/\j∉t.place.toList/\∃q,q<m/\j=F8n q i)\/(∀q,q<m->F8n q i∈t.place.toList)
 |0,i=>.inr λq hq=>absurd hq (by lia)
 |m+1,i=>by
  rcases T.go1 h (m+f) i 0 with⟨e,z⟩|⟨e,z⟩
  ·exact .inl ⟨i,by rw[show m+1+f=m+f+1 by lia];exact e,z,0,by lia,rfl⟩
  ·rw[show m+1+f=m+f+1 by lia,e]
   have e2:(i*5+1+0/32)%8=F8 i:=by unfold F8;lia
   rw[e2];rcases T.go0 h f m (F8 i) with⟨j,e3,z3,q,hq,e4⟩|e3
   ·exact .inl ⟨j,e3,z3,q+1,by lia,e4⟩
   ·refine .inr λq hq=>?_;cases q with
    |zero=>exact z
    |succ q=>exact e3 q (by lia)
theorem qcD:∀i:_root_.Fin 8,∀j:_root_.Fin 8,∃q:_root_.Fin 8,F8n q.1 i.1=j.1:=by decide
theorem qcC:∀(q i:Nat),i<8->F8n q i<8
 |0,i,h=>h
 |q+1,i,h=>qcC q (F8 i) (A16 _ (by decide))
theorem T7.goK (T:T7 byText t n)(hn:n<=7)(h:Int)(f:Nat):∀(k i pt:Nat),i<8->pt<32^k->∃j,Q7 t (λ_=>h+1) h (k+(8+f)) (pr i pt)=some (.empty j none)/\j∉t.place.toList/\j<=7
 |0,i,pt,hi,hp=>by
  have e:pt=0:=by lia
  subst e;rw[Nat.zero_add];rcases T.go0 h f 8 i with⟨j,e,z,q,hq,e2⟩|e
  ·exact⟨j,e,z,by have:=qcC q i hi;lia⟩
  ·exfalso
   have sub:[0,1,2,3,4,5,6,7] ⊆ t.place.toList:=λj hj=>by
    have hj8:j<8:=by
     simp at hj
     lia
    obtain⟨q,hq⟩:=qcD ⟨i,hi⟩ ⟨j,hj8⟩;rw[<- show F8n q.1 i=j from hq];exact e q.1 q.2
   have:=U3 (by decide:[0,1,2,3,4,5,6,7].Nodup) sub
   have hs:=T.size;simp at this
   lia
 |k+1,i,pt,hi,hp=>by
  rw[show k+1+(8+f)=k+(8+f)+1 by lia]
  rcases T.go1 h (k+(8+f)) i pt with⟨e,z⟩|⟨e,z⟩
  ·exact⟨i,e,z,by lia⟩
  ·rw[e];refine T.goK hn h f k _ _ (A16 _ (by decide)) ?_
   rw[Nat.pow_succ] at hp
   lia
theorem T7.free (T:T7 byText t n)(f:n<=7)(h:Int):∃j,t.freeSlot h=some (j,false)/\j∉t.place.toList/\j<=7:=by
 have b:Y9 h<32^13:=by
  unfold Y9;have d:0<=h%(2^64:Int):=V8 _ (by decide)
  have c:h%(2^64:Int)<2^64:=R7 _ (by decide)
  have:((2:Int)^64)=18446744073709551616:=by decide
  rw[this] at d c ⊢;have g:(32:Nat)^13=36893488147419103232:=by decide
  lia
 obtain⟨j,e,z,l⟩:=T.goK f h 199 13 (Y9 h%8) (Y9 h) (A16 _ (by decide)) b
 refine⟨j,?_,z,l⟩;have a:t.probeStart h=pr (Y9 h%8) (Y9 h):=by
  unfold SetTable.probeStart pr A82;rw[T.mask];dsimp only;rw[if_neg (by lia),A10]
 unfold SetTable.freeSlot SetTable.probe;rw[a,show 10*SetTable.turns t.mask=13+(8+199) by rw[T.mask];rfl,e]
 rfl
theorem T7.lay (T:T7 byText t n)(hn:n<=3){es:Array (Int×Value)}(he:es.size=n)(h:Int)(x:Value):
  ∃p t',layNew t es h x=(F2 es p (h,x),t',false,false)/\T7 byText t' (n+1)/\t'.tooFull=false/\p<=es.size:=by
 obtain⟨j,e,z,l⟩:=T.free (by lia) h
 obtain⟨r,y,b3⟩:=qHW (j:=j) T.up;have v:B09 t.dummies j=false:=by rw[T.dum];rfl
 have o:(F2 t.place (E2 t.place j) j).toList=t.place.toList.take (E2 t.place j)++j::t.place.toList.drop (E2 t.place j):=qCE _ _ _;have m:(F2 t.place (E2 t.place j) j).size=n+1:=by
  rw[<- C8,o,A9,D6,C4,G7,C8,T.size];rw[T.size] at r
  lia
 have T':T7 byText {t with place:=F2 t.place (E2 t.place j) j,dummies:=t.dummies} (n+1):=by
  refine⟨T.mask,T.dum,T.plain,T.led,m,?_,?_⟩
  ·show(F2 t.place (E2 t.place j) j).toList.Pairwise (·<·);rw[o];have s:∀i,i<t.place.size->t.place.getD i j=t.place.toList.getD i j:=λi hi=>by
    rw[F7,P3,E5]
   have u:∀a∈t.place.toList.take (E2 t.place j),a<j:=λa f=>by
    obtain⟨i,hi,c⟩:=W8.mp f;rw[C4,C8] at hi;have k:i<E2 t.place j:=by lia
    have d:i<t.place.size:=by lia
    have:=y i k;rw[F7,B9 d] at this;rw[t7] at c;rw[<- c];simpa using this
   have hi:∀a∈t.place.toList.drop (E2 t.place j),j<a:=λa f=>by
    have w:a∈t.place.toList:=T3 f;obtain⟨i,hi,c⟩:=W8.mp f;rw[G7,C8] at hi;have d:E2 t.place j+i<t.place.size:=by lia
    have:=b3 _ (Nat.le_add_right _ i) d;rw[F7,B9 d] at this;rw[t8] at c;have h3:j<=a:=by
     rw[<- c];simpa using this
    rcases Nat.lt_or_eq_of_le h3 with h4|h4
    ·exact h4
    ·exact absurd (h4▸w) z
   refine M7.mpr ⟨T.up.sublist (T6 _ _),P0.mpr ⟨hi,T.up.sublist (U0 _ _)⟩,λa f b hb=>?_⟩;rcases C0.mp hb with e|hb
   ·rw[e];exact u a f
   ·exact Y2 (u a f) (hi b hb)
  ·show∀i∈(F2 t.place (E2 t.place j) j).toList,i<=7;rw[o];intro i hi;rcases A8.mp hi with hi|hi
   ·exact T.le i (P1 hi)
   ·rcases C0.mp hi with e|hi
    ·lia
    ·exact T.le i (T3 hi)
 have g:A41 {t with place:=F2 t.place (E2 t.place j) j,dummies:=t.dummies} (n+1)=true:=by
  unfold A41 A42;dsimp only;rw[m,T.dum,T.mask];have:((#[]:Array Nat)).size=0:=rfl;simp only[this,beq_self_eq_true,j8,decide_eq_true_eq]
  lia
 have q:(F2 es (E2 t.place j) (h,x)).size=n+1:=by
  rw[<- C8,qCE,A9,D6,C4,G7,C8];rw[T.size] at r
  lia
 refine⟨E2 t.place j,{t with place:=F2 t.place (E2 t.place j) j,dummies:=t.dummies},?_,T',?_,by rw[he,<- T.size];exact r⟩
 ·unfold layNew;rw[e];dsimp only;unfold SetTable.put;rw[v];dsimp only;rw[q];unfold SetTable.orStandIn;simp only[G9,if_false];rw[g];simp
 ·unfold SetTable.tooFull A42;dsimp only;rw[m,T.dum,T.mask];have:((#[]:Array Nat)).size=0:=rfl;rw[this];exact decide_eq_false (by lia)
end
theorem qL4 {α:Type}:∀(l:List α) (i:Nat) (h:i<l.length),(l[i]::l.eraseIdx i).Perm l
 |[],i,h=>absurd h (by simp)
 |a::r,0,h=>.refl _
 |a::r,i+1,h=>by
  have hi:i<r.length:=by simpa using h
  have ih:=qL4 r i hi;show(r[i]::a::r.eraseIdx i).Perm (a::r);exact(List.Perm.swap _ _ _).trans (ih.cons a)
theorem qTG {α:Type}(next:Nat->Nat):∀(fuel k:Nat) (left:List α) (out:Array α),fuel=left.length->(A64 next fuel k left out).toList.Perm (out.toList++left)
 |0,k,left,out,h=>by
  have:left=[]:=M6.mp h.symm;subst this;unfold A64;simp
 |fuel+1,k,left,out,h=>by
  have hl:0<left.length:=by lia
  have hm:next k%left.length<left.length:=A16 _ hl;unfold A64;rw[A3 hm];dsimp only;refine(qTG next fuel (k+1) _ _ (by rw[List.length_eraseIdx_of_lt hm];lia)).trans ?_
  rw[U1,P5];exact d8 _ (qL4 left _ hm)
theorem qTF {α:Type}(next:Nat->Nat)(xs:Array α):(pickOrder next xs).toList.Perm xs.toList:=by
 unfold pickOrder;have:=qTG next xs.size 0 xs.toList #[] (by simp)
 simpa using this
abbrev Ents:List Int->List (Int×Value)->Prop:=Paired λk e=>∃tk,e=(B57 k,Q8 k tk)
theorem Ents.perm:∀{es es':List (Int×Value)} {ks:List Int},Ents ks es->es'.Perm es->∃ks',Ents ks' es'/\ks'.Perm ks:=by
 intro es es' ks h p;have d:∀{a b:List (Int×Value)},a.Perm b->∀ks,Ents ks b->∃ks',Ents ks' a/\ks'.Perm ks:=by
  intro a b p
  induction p with
  |nil=>intro ks h;exact⟨ks,h,.refl _⟩
  |cons x p ih=>
   intro ks h;cases h with
   |cons r t=>
    obtain⟨ks',e,c⟩:=ih _ t;exact⟨_::ks',.cons r e,c.cons _⟩
  |swap x y l=>
   intro ks h;cases h with
   |cons r t=>
    cases t with
    |cons r' t'=>exact⟨_,.cons r' (.cons r t'),.swap _ _ _⟩
  |trans p q ih1 ih2=>
   intro ks h;obtain⟨g,e,c⟩:=ih2 ks h;obtain⟨f,i,j⟩:=ih1 g e;exact⟨f,i,j.trans c⟩
 exact d p ks h
theorem Ents.elems {prog:B20}{w:World}{es:List (Int×Value)}{ks:List Int}(h:Ents ks es):ElemsOf (B65 prog w) es:=by
 intro e a;have b:∀{ks:List Int} {es:List (Int×Value)},Ents ks es->∀e∈es,∃k tk,e=(B57 k,Q8 k tk):=by
  intro ks es h
  induction h with
  |nil=>intro e a;cases a
  |cons r t ih=>
   intro e a;rcases C0.mp a with z|z
   ·subst z;obtain⟨tk,e⟩:=r;exact⟨_,tk,e⟩
   ·exact ih e z
 obtain⟨k,tk,rfl⟩:=b h e a;exact⟨⟨k,by simp[B65,y8],rfl⟩,rfl⟩
theorem Ents.find {prog:B20}{w:World}{k:Int}:∀{es:List (Int×Value)} {ks:List Int},Ents ks es->((B00 (λe=>(B65 prog w).is k e.2) es).isSome=true↔k∈ks)
 |_,_,.nil=>by simp
 |_,_,.cons r t=>by
  obtain⟨tk,rfl⟩:=r
  rename_i k' ks' es'
  have ih:=Ents.find (prog:=prog) (w:=w) (k:=k) t;rw[List.findIdx?_cons,C0];have hi:(B65 prog w).is k (Q8 k' tk)=decide (k=k'):=by
   by_cases e:k=k'
   ·simp[B65,y8,e]
   ·have e':¬k'=k:=λz=>e z.symm;simp[B65,y8,e,e']
  dsimp only;rw[hi];by_cases e:k=k'
  ·simp[e]
  ·simp only[e,decide_false,G9,if_false,false_or,b9];exact ih
noncomputable def byT (w:World):Bool:=w.params.followText "set-order"
def SetI (w:World)(a:Addr)(zs:List Int)(h:Heap):Prop:=
 ∃(es:Array (Int×Value)) (ep:Nat) (t:B64) (ks:List Int),h.get? a=some {cls:=.type "set",data:=.set es ep t}/\T7 (byT w) t es.size/\Ents ks es.toList/\ks.Perm zs/\zs.Nodup/\zs.length<=4
theorem SetI.at {w:World}{a:Addr}{zs:List Int}{h h':Heap}(x:SetI w a zs h)(k:∀o,h.get? a=some o->h'.get? a=some o):SetI w a zs h':=
 let⟨es,ep,t,ks,h1,r⟩:=x;⟨es,ep,t,ks,k _ h1,r⟩
theorem T7.fits {b:Bool}{t:B64}{n:Nat}(T:T7 b t n)(a:n<=7):t.fits n=true:=by
 unfold A41 A42;rw[T.size,T.dum,T.mask];have:((#[]:Array Nat)).size=0:=rfl;simp only[this,beq_self_eq_true,j8,decide_eq_true_eq]
 lia
noncomputable def addI (zs:List Int)(k:Int):List Int:=if k∈zs then zs else zs++[k]
section
variable{prog:B20}{w:World}{A:Around}{E:Value->Shared->Prop}{s:Shared}
theorem SetI.size {a:Addr}{zs:List Int}{h:Heap}{es:Array (Int×Value)}{ks:List Int}(c:Ents ks es.toList)(b:ks.Perm zs):es.size=zs.length:=by
 rw[<- b.length_eq,C3 c,C8]
theorem qW1 {a:Addr}{zs:List Int}{k:Int}{tk:Tok}{Q:Bool->Shared->Prop}(hS:SetI w a zs s.heap)(f:zs.length<=3\/k∈zs)
  (h:∀h',Heap.SameBut a s.heap h'->SetI w a (addI zs k) h'->∀b,Q b {s with heap:=h'}):wpAny (model prog w) A (setAddHashed a (.int k tk) (B57 k)) Q E s:=by
 obtain⟨es,ep,t,ks,q,T,n,o,v,y⟩:=id hS;have i:es.size=zs.length:=SetI.size (a:=a) (h:=s.heap) n o;have l:ElemsOf (B65 prog w) es.toList:=n.elems;have hb:es.size<scanBound:=by rw[i];unfold scanBound;lia
 have hf:t.fits es.size=true:=T.fits (by lia)
 unfold setAddHashed setAddHashedIn;refine B27 (B16 (B41 q rfl hf ?_));dsimp only;rw[byScan_of (knd:=B65 prog w) (x:=.int k tk) rfl hb l];simp only[↓reduceIte];unfold setAddByScan;refine B16 ?_;refine B16 (B56 ?_);refine B16 (wpAny_setScan_of (knd:=B65 prog w) (k:=k) (intKind_is _ _ _ _) q rfl hf l ?_);have c:=Ents.find (prog:=prog) (w:=w) (k:=k) n;cases hr:B00 (λe=>(B65 prog w).is k e.2) es.toList with
 |some j=>
  dsimp only;rw[hr] at c;have g:k∈zs:=o.mem_iff.mp (c.mp rfl);refine B17 (B17 ?_);have e:s={s with heap:=s.heap}:=by cases s;rfl
  rw[e];refine h s.heap (Heap.SameBut.refl a s.heap) ?_ _;unfold addI;rw[if_pos g];exact hS
 |none=>
  dsimp only;rw[hr] at c;have g:¬k∈zs:=λz=>by have:=c.mpr (o.mem_iff.mpr z);cases this
  have h3:zs.length<=3:=f.resolve_right g;obtain⟨p,m,e1,T',tf,a0⟩:=T.lay (by lia) rfl (B57 k) (.int k tk)
  rw[e1];dsimp only;refine B16 (B17 ?_);rw[T'.plain];simp only[↓reduceIte];rw[hashByValue_scannable 8 (x:=.int k tk) rfl];refine B16 (B17 ?_);have d:(F2 es p (B57 k,Q8 k tk)).size=es.size+1:=by
   rw[<- C8,qCE,A9,D6,C4,G7,C8]
   lia
  rw[show plainKind (Q8 k tk)=true from rfl];simp only[↓reduceIte];show wpAny _ _ (storeSet a (F2 es p (B57 k,.int k tk)) m >>= _) _ _ _;refine B16 (wpAny_storeSet_of q rfl ?_ (by rw[d,i,B28];lia))
  rw[tf];simp only[d0,G9,↓reduceIte];refine B17 (B17 ?_);refine h _ (U7 s.heap a _) ?_ _;have hg:(s.heap.update a (Obj.putSet (F2 es p (B57 k,.int k tk)) m)).get? a=some {cls:=.type "set",data:=.set (F2 es p (B57 k,.int k tk)) (ep+1) m}:=by
   have:=L4 (Obj.putSet (F2 es p (B57 k,.int k tk)) m) q (by rw[putSet_of _ _ (ep:=ep) (es:=es) (t:=t) rfl];rfl)
   rw[putSet_of _ _ (ep:=ep) (es:=es) (t:=t) rfl] at this;exact this
  have r:(F2 es p (B57 k,Q8 k tk)).toList.Perm (es.toList++[(B57 k,.int k tk)]):=by
   rw[qCE];have e3:es.toList++[(B57 k,Q8 k tk)]=es.toList.take p++(es.toList.drop p++[(B57 k,Q8 k tk)]):=by
    rw[<- P5,R8]
   rw[e3];exact d8 _ (List.perm_append_singleton _ _).symm
  obtain⟨u,h4,h5⟩:=Ents.perm (ks:=ks++[k]) (U6 n ⟨tk,rfl⟩) r;refine⟨_,_,m,u,hg,by rw[d];exact T',h4,?_,?_,?_⟩
  ·unfold addI;rw[if_neg g];exact h5.trans (o.append_right _)
  ·unfold addI;rw[if_neg g];exact qHO v g
  ·unfold addI;rw[if_neg g,A9,C2]
   lia
end
noncomputable def dedI:List Int->List Int:=λl=>l.foldl addI []
theorem qXJ (zs:List Int)(k:Int):(addI zs k).length<=zs.length+1:=by
 unfold addI
 split<;>simp
theorem qE2:∀(l zs:List Int),(l.foldl addI zs).length<=zs.length+l.length
 |[],zs=>by simp
 |k::r,zs=>by
  have h1:=qE2 r (addI zs k);have h2:=qXJ zs k;rw[V7,D6]
  lia
section
variable{prog:B20}{w:World}{A:Around}{R:Result->Shared->Prop}{I:Addr}{fp wr:List Addr}{G:Array B75->Array B75->Prop}{n:Nat}{P:Nat->Value->Prop}{St:Nat->Shared->Prop}
theorem qN5 (W:WalksS prog w A.in1 I fp wr G n P St)(S:Addr)(p:S∉fp)(ns:List Int)(a3:ns.length=n)(h4:n<=4)(m:∀i v,P i v->∃t,v=.int (ns.getD i 0) t):
  ∀(k i:Nat) (s:Shared),n-i=k->i<=n->St i s->SetI w S (dedI (ns.take i)) s.heap->
   (∀s',Moved (S::wr) G s s'->SetI w S (dedI ns) s'.heap->R (.ok (.ret .none)) s')->
   B50 (model prog w) A (.builtin "set.update.loop" ⟨[.ref S,.ref I],[]⟩) R s:=by
 have j:S∉wr:=λh=>p (W.sub _ h);have a:∀b∈wr,b∈S::wr:=λb g=>B5 _ g;intro k
 induction k with
 |zero=>
  intro i s hk hi d hS hR;have a2:i=n:=by lia
  subst a2;refine B36 F.entry_set_update_loop ?_;rw[G3 F.plain_set_update_loop _];show wpAny _ A.in1 (pyNext (.ref I) >>= _) _ _ s;refine B16 (W.done s _ _ d λs' f=>?_);show wpAny _ A.in1 (ret Q0) _ _ s';rw[C7 (by lia)] at hS
  exact B17 (hR s' (f.mono a) (hS.at λo e=>f.heap S _ j e))
 |succ k ih=>
  intro i s hk hi d hS hR;have z:i<n:=by lia
  refine B36 F.entry_set_update_loop ?_;rw[G3 F.plain_set_update_loop _];show wpAny _ A.in1 (pyNext (.ref I) >>= _) _ _ s;refine B16 (W.item i s _ _ z d λv s' hP l f=>?_);obtain⟨t,rfl⟩:=m i v hP;have a1:SetI w S (dedI (ns.take i)) s'.heap:=hS.at λo e=>f.heap S _ j e;show wpAny _ A.in1 (B62 [Q8 (ns.getD i 0) t] (setAdd S (.int (ns.getD i 0) t)) >>= _) _ _ s';refine B16 (B27 ?_);unfold setAdd;refine B27 ?_;refine B16 ((B65 prog w).pyHash (k:=ns.getD i 0) (intKind_is _ _ _ _) ?_);have c:(dedI (ns.take i)).length<=3:=by
   have:=qE2 (ns.take i) [];rw[C4] at this;unfold dedI;simp at this
   lia
  refine qW1 (s:={s' with toks:=s'.toks+1}) a1 (.inl c) λh' q y b=>?_;have e2:addI (dedI (ns.take i)) (ns.getD i 0)=dedI (ns.take (i+1)):=by
   have x:i<ns.length:=by lia
   rw[C5,A3 x,C6];unfold dedI;rw[A56,V7,A87,P3,A3 x,X3]
  rw[e2] at y;refine B17 ⟨B42 F.plain_set_update_loop _,ih (i+1) _ (by lia) z (W.frame _ s' _ _ l (R0 _) λb g o e=>?_) y λa0 r u=>?_⟩
  ·rw[q.2 b (λh:b=S=>p (by rw[<- h];exact g))];exact e
  ·refine hR a0 (Moved.trans W.gtrans ((f.mono a).then_heap (R0 _) λb o g e=>?_) r) u;rw[q.2 b (λh:b=S=>g (by rw[h];exact E7))];exact e
end
noncomputable abbrev freshSet (w:World):Obj:={cls:=.type "set",dict:=none,data:=.set #[] 0 (.fresh 0 0 (!byT w))}
section
variable{prog:B20}{w:World}{A:Around}{E:Value->Shared->Prop}{s:Shared}
theorem qT6 (a:Value){Q₁:Value->Shared->Prop}(h:Q₁ (.ref s.heap.objs.size) {s with heap:=s.heap.push (freshSet w)}):
  B50 (model prog w) A (.call (.builtin "set.__new__") ⟨[.type "set",a],[]⟩) (wants Q₁ E) s:=by
 refine codeAny_of_tree ?_;show wpAny _ A.in1 (do checkBuiltinCall "set.__new__" ⟨[.type "set",a],[]⟩;again (.builtin "set.__new__" ⟨[.type "set",a],[]⟩)) _ _ s
 refine B16 (B74 (F.newCall_set_1 a) (B17 ⟨B42 F.plain_set_new _,B36 F.entry_set_new ?_⟩));rw[G3 F.plain_set_new _];unfold Builtin.«set.__new__» A86;have b:=sub_set_self;obtain⟨c,g,d,f,e⟩:=s;dsimp only
 wp_walk
 refine B71 (B17 ?_);dsimp only;simp only[newObj];refine B16 (wpAny_alloc (B17 ?_));exact B17 h
theorem SetI.fresh {a:Addr}{h:Heap}(e:h.get? a=some (freshSet w)):SetI w a [] h:=
 ⟨#[],0,_,[],e,⟨rfl,rfl,rfl,rfl,rfl,.nil,λ_ z=>nomatch z⟩,.nil,.refl _,.nil,E8 _⟩
set_option maxHeartbeats 3200000 in
theorem qSI {l:Addr}{a:Array Value}{ns:List Int}{Q:Value->Shared->Prop}(hh:A.handled=none)(hl:s.heap.IsList l a)(hi:B25 a.toList ns)(h4:a.size<=4)
  (h:∀(h':Heap) (tk:Nat),SetI w s.heap.objs.size (dedI ns) h'->(∀b o,s.heap.get? b=some o->h'.get? b=some o)->Q (.ref s.heap.objs.size) {s with heap:=h',toks:=tk}):
  wpAny (model prog w) A (call (.type "set") [.ref l]) Q E s:=by
 have n:ns.length=a.size:=by have:=IntsAre.length hi;simpa using this.symm
 obtain⟨c,tl,ag⟩:=V9.mro;have aa:=V9.made;have ac:=V9.sub;refine wpAny_call (codeAny_of_tree ?_);show wpAny _ _ (callAny (.type "set") _) _ _ _;refine B17 ⟨Code.quiet_builtin _ (by decide +kernel),B36 F.entry_type_call ?_⟩
 rw[Around.under_plain (weight_type_call_type "set" [.ref l] []) rfl];have h1:=V9.notType;have h2:=V9.canCreate;have ah:=F.typeCall_set_1 (.ref l)
 repeat (any_goals (first|assumption|wp_step))
 refine B60 (qT6 (.ref l) (E:=E) (Q₁:=λy s₁=>y=.ref s.heap.objs.size/\s₁={s with heap:=s.heap.push (freshSet w)}) ⟨rfl,rfl⟩) λr s₁ z=>?_;cases r with
 |error e=>exact z
 |ok fl=>
  cases fl with
  |ret y=>
   obtain⟨rfl,rfl⟩:=z;have hS:(s.heap.push (freshSet w)).get? s.heap.objs.size=some (freshSet w):=B4 _ rfl;have hT:Shared.TypeIs {s with heap:=s.heap.push (freshSet w)} (.ref s.heap.objs.size) "set":=⟨_,hS,rfl⟩;have ai:=V9.init.lookup;have aj:=V9.init.bind (.ref s.heap.objs.size)
   repeat (any_goals (first|assumption|wp_step))
   refine B60 (codeAny_call_builtin (R:=wants (fun r s₂=>r=.none/\∃ h' tk,s₂={ s with heap:=h',toks:=tk }/\SetI w s.heap.objs.size (dedI ns) h'/\
     (∀b o,s.heap.get? b=some o->h'.get? b=some o)) E) V9.init.plain F.entry_set_init (check_set_init_1 hT ?_)) λr₂ s₂ d=>?_
   ·obtain⟨ol,k,a0,nl,m⟩:=hl;obtain⟨ae,j,a9,f⟩:=ol;simp only at a0 m;subst a0;subst m;have x:(s.heap.push (freshSet w)).get? l=some {cls:=.type "list",dict:=j,data:=.seq a nl,slots:=f}:=A5 _ k;have ad:=F.sub_list_set;have af:=F.sub_list_frozenset;have ak:(a8 "list" == a8 "dict")=false:=by decide
    have q:(s.heap.push (freshSet w)).IsList l a:=⟨_,x,rfl,nl,rfl⟩;unfold Builtin.«set.__init__» noKeywords A75;generalize hPI:pyIter=PI
    wp_walk
    subst hPI;refine B40 q ?_;refine B16 (wpAny_runValue ?_);have p:l<s.heap.objs.size:=B7 k;have a3:A.in1.in1.in1.handled=none:=by simp[hh]
    have a1:l≠(s.heap.push (freshSet w)).objs.size:=by
     rw[L7];exact D2 (Q6 p)
    have a5:s.heap.objs.size∉[(s.heap.push (freshSet w)).objs.size,l]:=by
     rw[L7];simp only[C0,A6,X4,or_false,not_or];exact⟨D2 (Nat.lt_succ_self _),V5 p⟩
    have u:∀(i:Nat) (v:Value),a[i]?=some v->∃t,v=.int (ns.getD i 0) t:=λi v hv=>
     A83 hi i v (by rw[E5];exact hv)
    refine qN5 ((A57 a3 _ l a1 a).toS) s.heap.objs.size a5 ns n h4 u (a.size-0) 0 _ (by lia) (E8 _)
     ⟨⟨_,B4 _ rfl,rfl,rfl⟩,(q.push _)⟩ ?hS0 ?hR
    case hS0=>exact SetI.fresh (A5 _ hS)
    case hR=>
     intro s' hm g;obtain⟨h',g',d',a6,a2⟩:=s';have eg:g'=s.gens:=hm.gens;have ed:d'=s.drawn:=hm.drawn;have eo:a2=s.os:=hm.os;subst eg;subst ed;subst eo;show wpAny _ _ _ _ _ _;refine B17 ?_;show wpAny _ _ (ret Q0) _ _ _;refine B17 ⟨rfl,h',a6,rfl,g,λb o e=>?_⟩;have hb:=B7 e;have a7:b≠s.heap.objs.size:=D2 hb;have a4:b≠(s.heap.push (freshSet w)).objs.size:=by
      rw[L7];exact D2 (Q6 hb)
     exact hm.heap b o (by simp only[C0,A6,X4,or_false,not_or];exact⟨a7,a4⟩) (A5 _ (A5 _ e))
   ·cases r₂ with
    |error e=>exact d
    |ok fl₂=>
     cases fl₂ with
     |ret r=>
      obtain⟨rfl,h',tk,rfl,g,ab⟩:=d
      repeat (any_goals (first|assumption|wp_step))
      exact h _ _ g ab
     |next=>exact d
     |brk=>exact d
     |cont=>exact d
  |next=>exact z
  |brk=>exact z
  |cont=>exact z
end
theorem slot_si_next:Slot "set_iterator" "__next__" "set_iterator.__next__":=
 .of (owner:="set_iterator") (n:="__next__") (by rw[typeLookup_type,B88];kernel_rfl) (by decide +kernel) (by decide +kernel) (by decide +kernel)
  (by first|exact .inl (by decide +kernel)|exact .inr (by decide +kernel)) (by rw[isSubtype_type];kernel_rfl)
theorem qI1:Slot "set_iterator" "__iter__" "set_iterator.__iter__":=
 .of (owner:="set_iterator") (n:="__iter__") (by rw[typeLookup_type,B88];kernel_rfl) (by decide +kernel) (by decide +kernel) (by decide +kernel)
  (by first|exact .inl (by decide +kernel)|exact .inr (by decide +kernel)) (by rw[isSubtype_type];kernel_rfl)
theorem qHB:entryFor table "set_iterator.__next__" = some Builtin.«set_iterator.__next__»:=entryFor_of_tree (by kernel_rfl)
theorem qMD:entryFor table "set_iterator.__iter__" = some Builtin.«dict_keyiterator.__iter__»:=
 entryFor_alias (id':="dict_keyiterator.__iter__") (by kernel_rfl) rfl (by decide +kernel) (by kernel_rfl)
theorem qKC:entryFor table "set.__iter__" = some Builtin.«frozenset.__iter__»:=
 entryFor_alias (id':="frozenset.__iter__") (by kernel_rfl) rfl (by decide +kernel) (by kernel_rfl)
theorem qQR:Manifest.owners.lookup (String.ofList "set_iterator".toList.reverse.reverse)=some Manifest.sig_set_iterator:=by kernel_rfl
theorem qI7 (a:Value):argsOk "set_iterator.__next__" ⟨[a],[]⟩:=by
 unfold argsOk;rw[signature?_of (id:="set_iterator.__next__") (n:="__next__".toList.reverse) (o:="set_iterator".toList.reverse) (by kernel_rfl) qQR];kernel_rfl
theorem qOD (a:Value):argsOk "set_iterator.__iter__" ⟨[a],[]⟩:=by
 unfold argsOk;rw[signature?_of (id:="set_iterator.__iter__") (n:="__iter__".toList.reverse) (o:="set_iterator".toList.reverse) (by kernel_rfl) qQR];kernel_rfl
noncomputable def qF7 (w:World)(a:Addr)(ep:Nat)(es:Array (Int×Value)):List (Int×Value):=if byT w=true then(pickOrder (w.params.setOrder a ep) es).toList else es.toList
noncomputable def qF8 (w:World)(t:B64)(i:Nat):Nat:=if byT w=true then 0 else if i=0 then 0 else t.place.getD (i-1) 0+1
theorem qF6 (w:World)(a:Addr)(ep:Nat)(es:Array (Int×Value)):(qF7 w a ep es).Perm es.toList:=by
 unfold qF7
 split
 ·exact qTF _ _
 ·exact .refl _
theorem T7.below_at {b:Bool}{t:B64}{n:Nat}(T:T7 b t n)(i:Nat)(hi:i<=n):E2 t.place (if i=0 then 0 else t.place.getD (i-1) 0+1)=i:=by
 obtain⟨k,e,f⟩:=qHW (j:=if i=0 then 0 else t.place.getD (i-1) 0+1) T.up
 have o:=T.size;have h:∀a c d,a<t.place.size->t.place.getD a c=t.place.getD a d:=λa c d l=>by
  rw[F7,F7,B9 l]
  rfl
 by_cases g:i=0
 ·rw[if_pos g] at k e f ⊢;subst g;apply Nat.eq_zero_of_not_pos;intro z;have:=e 0 z;omega
 ·rw[if_neg g] at k e f ⊢;have p:¬E2 t.place (t.place.getD (i-1) 0+1)<i:=λz=>by
   have:=f (i-1) (by omega) (by omega)
   rw[h (i-1) (t.place.getD (i-1) 0+1) 0 (by omega)] at this
   omega
  have m:¬i<E2 t.place (t.place.getD (i-1) 0+1):=λz=>by
   have q:=e i z;have:=qYN 0 T.up (i-1) i (by omega) (by omega)
   rw[h i (t.place.getD (i-1) 0+1) 0 (by omega)] at q
   omega
  omega
def SetIt (w:World)(a I:Addr)(es:Array (Int×Value))(ep:Nat)(t:B64)(i:Nat)(h:Heap):Prop:=
 (∃o,h.get? I=some o/\o.cls=.type "set_iterator"/\o.data=.fields #[.int (qF8 w t i) 0,.int i 0,.ref a,.int es.size 0,.int ep 0])/\h.get? a=some {cls:=.type "set",data:=.set es ep t}
section
variable{prog:B20}{w:World}{A:Around}{E:Value->Shared->Prop}{s:Shared}{a I:Addr}{es:Array (Int×Value)}{ep:Nat}{t:B64}{i:Nat}
theorem SetIt.typeIs (x:SetIt w a I es ep t i s.heap):s.TypeIs (.ref I) "set_iterator":=let⟨⟨o,h1,h2,_⟩,_⟩:=x;⟨o,h1,h2⟩
theorem qN6 {Q:Option (Value×Nat)->Shared->Prop} (T:T7 (byT w) t es.size) (k:es.size<=7) (f:s.heap.get? a=some {cls:=.type "set",data:=.set es ep t}) (hi:i<=es.size)
  (h:Q (match(qF7 w a ep es)[i]? with|some e=>some (e.2,qF8 w t (i+1))|none=>none) s):wpAny (model prog w) A (setNext a (qF8 w t i) i ep) Q E s:=by
 have d:=T.fits k;unfold setNext;refine B16 (B41 f rfl d ?_);dsimp only;unfold setsByText;refine B16 (B16 (B71 (B17 ?_)));show wpAny _ _ (if byT w=true then _ else _) _ _ _
 cases hb:byT w with
 |true=>
  rw[if_pos rfl];simp only[bne_self_eq_false,G9,if_false];refine B16 ?_;unfold setWalk;refine B16 (B41 f rfl d ?_);dsimp only;unfold setsByText;refine B16 (B16 (B71 (B17 ?_)));show wpAny _ _ (if byT w=true then _ else _) _ _ _
  rw[hb,if_pos rfl];refine B16 (B71 (B17 (B17 ?_)));have e:qF7 w a ep es=(pickOrder (w.params.setOrder a ep) es).toList:=by unfold qF7;rw[if_pos hb]
  have c:∀j,qF8 w t j=0:=λj=>by unfold qF8;rw[if_pos hb]
  rw[e,E5,c] at h;rw[c];show Q (Option.map _ (pickOrder (w.params.setOrder a ep) es)[i]?) s;cases hx:(pickOrder (w.params.setOrder a ep) es)[i]? with
  |none=>rw[hx] at h;exact h
  |some v=>rw[hx] at h;exact h
 |false=>
  rw[if_neg (by simp)]
  show wpAny _ _ (if(!t.plain&&decide (es.size>1))=true then _ else _) _ _ _
  rw[T.plain];simp only[A43,o8,G9,if_false];refine B16 ?_;show wpAny _ _ (if(!t.led && !es.isEmpty)=true then _ else _) _ _ _
  rw[T.led,hb];simp only[Bool.not_false,A43,o8,G9,if_false];refine B17 (B17 ?_);have e:qF7 w a ep es=es.toList:=by unfold qF7;rw[if_neg (by rw[hb];simp)]
  have c:∀j,qF8 w t j=if j=0 then 0 else t.place.getD (j-1) 0+1:=λj=>by unfold qF8;rw[if_neg (by rw[hb];simp)]
  rw[e,E5] at h;rw[c,T.below_at i hi];cases hx:es[i]? with
  |none=>rw[hx] at h;exact h
  |some v=>
   rw[hx] at h;have b:i<t.place.size:=by rw[T.size];exact(Array.getElem?_eq_some_iff.mp hx).1
   rw[B9 b];dsimp only at h ⊢;have g:qF8 w t (i+1)=t.place[i]+1:=by
    rw[c,if_neg (by omega),A44,F7,B9 b]
    rfl
   rw[g] at h;exact h
theorem qYX {Q:Option Value->Shared->Prop}(T:T7 (byT w) t es.size)(k:es.size<=7)(c:SetIt w a I es ep t i s.heap)(d:a≠I){e:Int×Value}(n:(qF7 w a ep es)[i]?=some e)
  (r:∀h',SetIt w a I es ep t (i+1) h'->(∀b o,b≠I->s.heap.get? b=some o->h'.get? b=some o)->Q (some e.2) {s with heap:=h'}):wpAny (model prog w) A (pyNext (.ref I)) Q E s:=by
 obtain⟨⟨o,j,u,f⟩,h⟩:=id c;have p:i<es.size:=by
  have:=(A4.mp n).1;rw[(qF6 w a ep es).length_eq,C8] at this;exact this
 unfold pyNext;refine B16 (B84 (wpAny_callSpecial?_slot (name:=D3 "__next__") c.typeIs slot_si_next (B32 slot_si_next c.typeIs qHB ?_ (qI7 _))));unfold Builtin.«set_iterator.__next__»;refine B16 (B17 ?_);refine B16 (wpAny_fieldsOf j f ?_);dsimp only;unfold setEntries;refine B16 (B16 (B41 h rfl (T.fits k) (B17 ?_)));rw[if_neg (by simp)]
 simp only[B8];refine B16 (qN6 T k h (U2 p) ?_);rw[n];dsimp only;show wpAny _ _ (setField (.ref I) 0 (rawInt _) >>= _) _ _ s;refine B16 (B59 j f (by simp) ?_)
 have m:=L4 (j9 (·.setIfInBounds 0 (rawInt ((qF8 w t (i+1):Nat):Int)))) j (d9 (R9 f _));have g:=R9 f (·.setIfInBounds 0 (rawInt ((qF8 w t (i+1):Nat):Int)));refine B16 (B59 m g (by simp) ?_)
 have v:=L4 (j9 (·.setIfInBounds 1 (rawInt ((i:Int)+1)))) m (d9 (R9 g _));have q:=R9 g (·.setIfInBounds 1 (rawInt ((i:Int)+1)));refine B17 ⟨_,rfl,B17 (r _ ⟨⟨_,v,(t9 ..).trans ((t9 ..).trans u),?_⟩,?_⟩ λb x l e=>?_)⟩
 ·rw[q];simp[rawInt]
 ·exact(F5 _ _ (J3 d)).trans ((F5 _ _ (J3 d)).trans h)
 ·exact(F5 _ _ (J3 l)).trans ((F5 _ _ (J3 l)).trans e)
theorem qb6 {Q:Option Value->Shared->Prop}(h:A.handled=none)(T:T7 (byT w) t es.size)(g:es.size<=7)(c:SetIt w a I es ep t es.size s.heap)
  (i:∀h',(∀b o,b≠I->s.heap.get? b=some o->h'.get? b=some o)->Q none {s with heap:=h'}):wpAny (model prog w) A (pyNext (.ref I)) Q E s:=by
 obtain⟨⟨o,f,k,d⟩,e⟩:=id c;unfold pyNext;refine B16 (B84 (wpAny_callSpecial?_slot (name:=D3 "__next__") c.typeIs slot_si_next (B32 slot_si_next c.typeIs qHB ?_ (qI7 _))));unfold Builtin.«set_iterator.__next__»;refine B16 (B17 ?_);refine B16 (wpAny_fieldsOf f d ?_);dsimp only;unfold setEntries;refine B16 (B16 (B41 e rfl (T.fits g) (B17 ?_)));rw[if_neg (by simp)]
 simp only[B8];have j:(qF7 w a ep es)[es.size]?=none:=J1 (by rw[(qF6 w a ep es).length_eq,C8];exact A7 _)
 refine B16 (qN6 T g e (A7 _) ?_);rw[j];dsimp only;show wpAny _ _ (setField (.ref I) 2 .none >>= _) _ _ s;refine B16 (B59 f d (by simp) ?_)
 show wpAny _ _ (newExc (.type "StopIteration") [] >>= _) _ _ _;refine B16 ?_;simp only[newExc,newTuple];refine B16 (B29 ?_ (by size_fits))
 refine B16 (m:=B66 _ _) (B74 (a:=Q0) (by first|rfl|(simp only[B66];rfl)) ?_)
 refine B29 ?_ (by size_fits)
 simp only[raiseNew];refine B16 (wpAny_handled ?_);rw[show A.in1.handled=none from h];refine B16 (B17 (wpAny_throw ?_));refine B16 (wpAny_isInstance (T:="StopIteration") (b:=true) ⟨_,B4 _ rfl,rfl⟩ isSubtype_stop ?_);exact B17 (i _ (((U7 ..).extBut.push _).push _))
theorem qYW {Q:Value->Shared->Prop}(b:SetIt w a I es ep t i s.heap)(h:Q (.ref I) s):wpAny (model prog w) A (pyIter (.ref I)) Q E s:=by
 refine wpAny_pyIter_slot b.typeIs qI1 (B32 qI1 b.typeIs qMD ?_ (qOD _));show wpAny _ _ (ret (.ref I)) _ _ s;exact B17 ⟨_,rfl,"set_iterator",_,b.typeIs,slot_si_next.lookup,h⟩
theorem qb5 {Q:Value->Shared->Prop} (T:T7 (byT w) t es.size) (e:es.size<=7) (b:s.heap.get? a=some {cls:=.type "set",data:=.set es ep t})
  (f:Q (.ref s.heap.objs.size) {s with heap:=s.heap.push {cls:=.type "set_iterator",data:=.fields #[.int 0 0,.int 0 0,.ref a,.int es.size 0,.int ep 0]}}):wpAny (model prog w) A (pyIter (.ref a)) Q E s:=by
 have d:s.TypeIs (.ref a) "set":=⟨_,b,rfl⟩;have c:=T.fits e;refine wpAny_pyIter_slot d F.slot_set_iter (B32 F.slot_set_iter d qKC ?_ (F.args_set_iter_1 _));unfold Builtin.«frozenset.__iter__» B01 A94 setEntries;refine B16 (B16 (B17 ?_));show wpAny _ _ (pure a) _ _ s;refine B17 ?_;refine B16 (B16 (B16 (B41 b rfl c (B17 (B17 ?_)))));unfold setDrawn setsByText;refine B16 (B16 (B41 b rfl c ?_));dsimp only;refine B16 (B16 (B71 (B17 (B17 ?_))));show wpAny _ _ (if(!byT w&&(!t.plain&&decide (es.size>1)))=true then _ else _) _ _ _
 rw[T.plain];simp only[A43,o8,d0,G9,if_false];refine B16 (B17 ?_);unfold setEpoch;refine B16 (B16 (B41 b rfl c (B17 ?_)));refine B16 (B29 (B17 ⟨_,rfl,"set_iterator",_,⟨_,B4 _ rfl,rfl⟩,slot_si_next.lookup,?_⟩));simpa[rawInt] using f
theorem qYY {Q:Bool->Shared->Prop} (e:s.TypeIs (.ref a) "set") (h:Q false s):wpAny (model prog w) A (l7 (.ref a)) Q E s:=by
 unfold l7;refine B16 (wpAny_specialOf e PySem.F.slot_set_len.lookup ?_);generalize hid:("set.__len__" : String)=d
 wp_delta
 rw[show splitId d=some ("set","__len__") from by subst hid;decide +kernel]
 subst hid;refine B16 (wpAny_isInstance (T:="set") (b:=true) e (by rw[isSubtype_type];kernel_rfl) ?_)
 refine wpAny_ite_split (λc=>absurd c (by decide)) (λ_=>?_)
 refine wpAny_ite_split (λ_=>?_) (λc=>absurd (by decide +kernel) c)
 refine B16 (wpAny_typeOf e ?_);exact B17 h
theorem qb4 (T:T7 (byT w) t es.size) (m:es.size<=7):PySem.W.KdlSrc prog w "set" a a es.size (λi v=>∃e,(qF7 w a ep es)[i]?=some e/\v=e.2) (λh=>h.get? a=some {cls:=.type "set",data:=.set es ep t}) where
 type:=λs h=>⟨_,h,rfl⟩
 there:=λh x=>⟨B7 x,B7 x⟩
 keep:=λh f x k=>k a (.inl rfl) _ x
 notList:=by decide
 notTuple:=by decide
 hint:=λA E s Q x q=>qYY ⟨_,x,rfl⟩ q
 iter:=λA s p x=>by
  have l:a≠s.heap.objs.size:=D2 (B7 x);refine⟨_,λi h=>SetIt w a s.heap.objs.size es ep t i h,λE Q q=>qb5 T m x q,?_,⟨⟨_,B4 _ rfl,rfl,?_⟩,A5 _ x⟩⟩
  ·refine⟨λb d=>?_,λi h f c k=>?_,λi g Q E hi c q=>?_,λg Q E c q=>?_,λi g Q E c q=>qYW c q⟩
   ·have e:b=s.heap.objs.size:=by simpa using d
    simp[e]
   ·obtain⟨⟨o,h1,r,y⟩,u⟩:=c;exact⟨⟨o,k _ (by simp) _ h1,r,y⟩,k _ (by simp) _ u⟩
   ·have n:i<(qF7 w a ep es).length:=by rw[(qF6 w a ep es).length_eq,C8];exact hi
    refine qYX T m c l (A3 n) λf j k=>?_;exact q _ f g.toks ⟨_,A3 n,rfl⟩ j λb o d e=>k b o (λz=>d (by simp[z])) e
   ·refine qb6 p T m c λf k=>?_;exact q f g.toks λb o d e=>k b o (λz=>d (by simp[z])) e
  ·unfold qF8
   split<;>rfl
end
theorem qDJ {ns:List Int}:∀{us:List Value},Vals (ns.map V.int) us->B25 us ns:=by
 induction ns with
 |nil=>intro us h;cases h;exact .nil
 |cons n r ih=>
  intro us h;cases h with
  |cons r1 r2=>
   obtain⟨t,rfl⟩:=r1;exact IntsAre.cons _ _ (ih r2)
theorem qHZ:∀{us:List Value} {ns:List Int},B25 us ns->Vals (ns.map V.int) us:=qIX
section
variable{X:Cx}
def SetO (w:World)(a:Addr)(zs:List Int):HO:=.ext (SetI w a zs)
theorem qMN (i:X.calm=true):qCF X (.type "set") (λxs H Q=>∃p ns,xs=[.ref p]/\SqL X.K H p (ns.map V.int)/\ns.length<=4/\∀a,H a=none->Q (.ref a) (Ag H a (SetO X.w a (dedI ns)))):=by
 intro o s σ H xs us Q I r h;obtain⟨p,ns,rfl,m,h4,q⟩:=h;obtain⟨u,rfl,f⟩:=qE1 r;cases f;obtain⟨n,d,l,hz⟩:=I.list m;have b:=d.length;rw[A0] at b;refine qSI (ns:=ns) (I.ok.hd i) l.isList (by simpa using qDJ d) (by simp;lia) λh' g c j=>?_
 refine⟨.ref s.heap.objs.size,_,I.laid (t':=g) j (A7 _) ?_,rfl,q _ (I.hok.fresh (A7 _))⟩;obtain⟨y,ep,t,z,e,_⟩:=id c;exact⟨c,⟨_,e⟩,λh1 v x k=>x.at k⟩
theorem Inv.track {Ab:List (Addr×Obj)}{s:Shared}{σ:St}{H:Hp}{T:Addr}{o:HO}(I:Inv X Ab σ H s)(h0:H T=none)(h1:X.s₀.heap.objs.size<=T)(j:T≠X.env.locals)(y:∀x c,X.env.cells.lookup x=some c->c≠T)(m:∀p∈X.pn++Ab,p.1≠T)
  (d:ObjOk X.prog X.w (Ag H T o) s.heap T o):Inv X Ab σ (Ag H T o) s:=by
 have f:∀b ob,X.s₀.heap.get? b=some ob->b≠T:=λb ob e=>D2 (D4 (B7 e) h1);have a:∀b u,H b=some u->(Ag H T o) b=some u:=λb u e=>by rw[qAA (qA5 e h0)];exact e
 refine⟨I.ok,I.os,I.bare,⟨I.base.keep,I.base.slot,λb ob e n k=>?_,I.base.there,λb z e=>a _ _ (I.base.tups b z e),λb ob u e=>a _ _ (I.base.frzs b ob u e),λb l e=>?_⟩,I.loc,I.cell,?_,λx c e=>?_,λp g=>?_,λb u e=>?_,I.len⟩
 ·rw[qAA (f b ob e)];exact I.base.free b ob e n k
 ·exact a _ _ (I.base.tbls b l e)
 ·rw[qAA (J3 j)];exact I.free
 ·rw[qAA (y x c e)];exact I.freeC x c e
 ·obtain⟨i,n,r⟩:=I.pin p g;exact⟨i,by rw[qAA (m p g)];exact n,r⟩
 ·by_cases h:b=T
  ·subst h;rw[qA1] at e;cases e;exact d
  ·rw[qAA h] at e;exact(I.hok b u e).stay (λc v _ q=>q) (λc q=>a _ _ q) (λc ys q=>a _ _ q) λc t q=>a _ _ q
theorem qQ6 {Ab:List (Addr×Obj)}{s:Shared}{σ:St}{H:Hp}{Q:VK}{A:Around}{E:Value->Shared->Prop}{vs:List Value}{ns:List Int}{D:Addr}(I:Inv X Ab σ (Ag H D (.lst (ns.map V.int))) s)(v:H D=none)(p:ns.length<64)
  (q:∀ns':List Int,ns'.Perm ns->ns'.Pairwise (·<=·)->Q (.ref D) (Ag H D (.lst (ns'.map V.int)))):
  wpAny (model X.prog X.w) A (call (.builtin "list.sort") [.ref D]) (λ_ s'=>EP X Ab σ Q (.ref D) s') E s:=by
 obtain⟨z,g,n,i,t,e⟩:=I.lstM qA1;have o:=qDJ i;have d:=i.length;rw[A0] at d;refine B32 slot_list_sort ⟨_,e,rfl⟩ entry_list_sort (list_sort_tree (ns:=ns) (n:=n) e o (by lia) λout ns' k h j=>⟨_,rfl,?_⟩) (args_list_sort _)
 have a:=sortedHeap_at (vs:=g) (out:=out) e;obtain⟨r,a⟩:=a;refine⟨.ref D,Ag H D (.lst (ns'.map V.int)),?_,rfl,q ns' h j⟩;have m:Ag (Ag H D (.lst (ns.map V.int))) D (.lst (ns'.map V.int))=Ag H D (.lst (ns'.map V.int)):=qIY;rw[<- m];refine I.write (x:=D) (e:=D) (t':=s.toks) (by rw[qA1];exact trivial) (.inl rfl) (λb u l c=>?_) ⟨_,a⟩ ?_
 ·rw[sortedHeap_old l (B7 c)];exact c
 ·refine⟨?_,out.toList,r,qHZ k,by simpa using a⟩
  rw[A0,h.length_eq,<- A0 (f:=V.int)];exact z
theorem qKQ {Ab:List (Addr×Obj)}{s:Shared}{σ:St}{H:Hp}{vs:List Value}{ns:List Int}(I:Inv X Ab σ H s)(a:B25 vs ns)(b:ns.length<=B18):
  Inv X Ab σ (Ag H s.heap.objs.size (.lst (ns.map V.int))) {s with heap:=s.heap.push {cls:=.type "list",data:=.seq vs.toArray}}:=
 I.lnew (t':=s.toks) (qHZ a) (by rw[A0];exact b)
theorem qEY (hc:X.calm=true):qCF X (.builtin "sorted") (fun xs H Q=>∃ p ns,xs=[.ref p]/\(SqL X.K H p (ns.map V.int)\/SqT X.K H p (ns.map V.int)\/H p=some (SetO X.w p ns))/\ns.length<64/\
  ∀(a:Addr) (ns':List Int),H a=none->ns'.Perm ns->ns'.Pairwise (·<=·)->Q (.ref a) (Ag H a (.lst (ns'.map V.int)))):=by
 intro Ab s σ H xs us Q I r h;obtain ⟨p,ns,rfl,hq,a3,q⟩:=h;obtain ⟨u,rfl,rx⟩:=qE1 r;cases rx;refine X0 kind_sorted plain_sorted entry_sorted (args_sorted1 _) ?_;unfold Builtin.«sorted»;refine B16 (m:=checkCount "sorted" 1 1 _) (B17 ?_);have d:∀ (s1:Shared) (vs:List Value) (zs:List Int),Inv X Ab σ H s1->B25 vs zs->zs.Perm ns->wpAny (model X.prog X.w) X.A.in1 (do
   let l <- newList vs
   let _ <- B62 [l] (call (.builtin "list.sort") [l] [])
   ret l) (λd s'=>∃r,d=.done (.ret r)/\EP X Ab σ Q r s') X.xe s1:=by
  intro s1 vs zs I1 hv g;have c:=IntsAre.length hv;have hz:zs.length<=B18:=by rw[g.length_eq,B28];lia
  refine B16 (wpAny_newList ?_ (by rw[c];exact hz))
  have hf:=I1.hok.fresh (A7 s1.heap.objs.size);refine B16 (B27 (B26 (qQ6 (E:=X.xe) (vs:=vs) (qKQ I1 hv hz) hf (by rw[g.length_eq];exact a3) λns' a b=>q _ ns' hf (a.trans g) b) (λ_ s' x=>?_) λ_ _ e=>e))
  exact B17 ⟨_,rfl,x⟩
 rcases hq with hq|hq|hq
 ·obtain⟨a5,k,pl,hz⟩:=I.list hq;obtain⟨o,ho,f,n,hd⟩:=pl.isList;have c:=k.length;refine B16 (wpAny_collect_seq p (.inl rfl) ho f hd (λh' j=>?_) (by simp;lia))
  exact d _ _ ns (I.kept (t':=s.toks) j) (by simpa using qDJ k) (.refl _)
 ·obtain⟨a5,k,pl,hz⟩:=I.tuple hq;obtain⟨o,ho,f,n,hd⟩:=pl;have c:=k.length;refine B16 (wpAny_collect_seq p (.inr rfl) ho f hd (λh' j=>?_) (by simp;lia))
  exact d _ _ ns (I.kept (t':=s.toks) j) (by simpa using qDJ k) (.refl _)
 ·obtain⟨hS,_,_⟩:=(show ObjOk X.prog X.w H s.heap p (.ext (SetI X.w p ns)) from I.hok p _ hq);obtain⟨es,ep,t,ks,e,T,z,g,a6,h4⟩:=hS;have a0:es.size=ns.length:=SetI.size (a:=p) (h:=s.heap) z g;obtain⟨a4,h1,h2⟩:=z.perm (qF6 X.w p ep es);refine B16 (l8 (A:=X.A.in1) (qb4 (ep:=ep) T (by lia)) (I.ok.hd hc) e (by rw[a0,B28];lia) λh' tk a2 j y=>?_)
  refine d _ _ a4 (I.kept (t':=tk) j) ?_ (h2.trans g);obtain⟨l1,l2⟩:=y;have a1:∀{ks:List Int} {l:List (Int×Value)},Ents ks l->∀vs:List Value,vs.length=l.length->(∀(i:Nat) (v:Value),vs[i]?=some v->∃e:Int×Value,l[i]?=some e/\v=e.2)->B25 vs ks:=by
   intro ks l h
   induction h with
   |nil=>
    intro vs hl _;have:vs=[]:=M6.mp hl;subst this;exact .nil
   |cons r t ih=>
    intro vs hl hv;cases vs with
    |nil=>simp at hl
    |cons v vs=>
     obtain⟨tk,rfl⟩:=r;obtain⟨e,z,rfl⟩:=hv 0 v rfl;simp at z;subst z;exact IntsAre.cons _ _ (ih vs (by simpa using hl) λi v hi=>by simpa using hv (i+1) v (by simpa using hi))
  refine a1 h1 a2.toList ?_ λi v hi=>l2 i v (by rw[<- E5];exact hi)
  rw[C8,l1,(qF6 X.w p ep es).length_eq,C8]
noncomputable def qDD (lo hi:Int):List V:=(F6 (hi-lo).toNat).map λ(i:Nat)=>V.int (lo+i)
theorem qO3:qCF X (.type "range") (λxs H Q=>∃j,xs=[.int j]/\∀p,H p=none->Q (.ref p) (Ag H p (.rng 0 j))):=by
 intro c s σ H xs a Q I r h;obtain⟨j,rfl,q⟩:=h;obtain⟨u,rfl,t,rfl⟩:=qE1 r;refine call_range_1 ⟨.ref s.heap.objs.size,_,I.laid (λb o e=>A5 _ e) (A7 _) ?_,rfl,q _ (I.hok.fresh (A7 _))⟩;exact⟨_,_,_,B4 _ rfl⟩
theorem qVJ:qCF X (.type "range") (λxs H Q=>∃i j,xs=[.int i,.int j]/\∀p,H p=none->Q (.ref p) (Ag H p (.rng i j))):=by
 intro d s σ H xs a Q I r h;obtain⟨i,j,rfl,q⟩:=h;obtain⟨u,v,rfl,⟨t,rfl⟩,⟨c,rfl⟩⟩:=qMU r;refine call_range_2 ⟨.ref s.heap.objs.size,_,I.laid (λb o e=>A5 _ e) (A7 _) ?_,rfl,q _ (I.hok.fresh (A7 _))⟩;exact⟨_,_,_,B4 _ rfl⟩
theorem qQB {lo hi:Int}{n:Nat}{acc:List Value}(c:n=(hi-lo).toNat)(a:acc.length=n)(h:∀(i:Nat) (v:Value),acc[i]?=some v->∃t,v=.int (lo+i*1) t):Vals (qDD lo hi) acc:=by
 have b:∀(m:Nat) (acc:List Value),acc.length=m->∀lo:Int,(∀(i:Nat) (v:Value),acc[i]?=some v->∃t,v=.int (lo+i) t)->Vals ((F6 m).map λ(i:Nat)=>V.int (lo+i)) acc:=by
  intro m
  induction m with
  |zero=>
   intro acc a lo h;have:acc=[]:=M6.mp a;subst this;exact .nil
  |succ m ih=>
   intro acc a lo h;cases acc with
   |nil=>simp at a
   |cons v acc=>
    rw[List.range_succ_eq_map,D0,Y3];have f:=h 0 v rfl;refine .cons f ?_;have d:=ih acc (by simpa using a) (lo+1) λi v hi=>by
     have:=h (i+1) v (by simpa using hi)
     obtain⟨t,e⟩:=this;refine⟨t,?_⟩;rw[e];congr 1
     push_cast
     lia
    have e:((λ(i:Nat)=>V.int (lo+i)) ∘ Nat.succ)=λ(i:Nat)=>V.int (lo+1+i):=by
     funext i
     simp only[Function.comp];congr 1
     push_cast
     lia
    rw[e];exact d
 unfold qDD;rw[<- c];refine b n acc a lo λi v hi=>?_;obtain⟨t,e⟩:=h i v hi;exact⟨t,by rw[e,Int.mul_one]⟩
theorem qKK (lo hi:Int):(qDD lo hi).length=(hi-lo).toNat:=by unfold qDD;simp
theorem qb8 {lo hi:Int}:Q3 lo hi 1=((hi-lo).toNat:Nat):=by rw[rangeSize_one];split<;>lia
theorem qMI {prog:B20}{w:World}{A:Around}{E:Value->Shared->Prop}{s:Shared}{R:List Value->Shared->Prop}{r:Addr}{a b:Int}{t u v:Tok}{n:Nat}(hh:A.handled=none)(hr:IsRange s.heap r a b 1 t u v)(g:A33 a b 1=true)
  (hn:Q3 a b 1=n) (j:n<=2^24)
  (h:∀(h':Heap) (tk:Nat) (acc:Array Value),(∀b o,s.heap.get? b=some o->h'.get? b=some o)->ItemsOf (λi v=>∃t,v=.int (a+i*1) t) acc n->R acc.toList {s with heap:=h',toks:=tk}):
  wpAny (model prog w) A (collect (.ref r)) R E s:=by
 unfold collect;refine B16 (wpAny_runValue (B36 entry_proto_collect' ?_));rw[G3 PySem.F.plain_proto_collect _];show wpAny _ A.in1 (newList [] >>= λl=>again (.builtin "list.__iadd__" ⟨[l,.ref r],[]⟩)) _ _ s;refine B16 (B29 ?_);refine B17 ⟨B42 y9 _,B36 entry_list_iadd' ?_⟩;rw[G3 y9 _];have m:(s.heap.push {cls:=.type "list",data:=.seq ([]:List Value).toArray}).get? s.heap.objs.size=some {cls:=.type "list",data:=.seq #[]}:=B4 _ rfl;show wpAny _ A.in1 (Builtin.List.listExtendWith (.ref s.heap.objs.size) (.ref r) (.ref s.heap.objs.size)) _ _ _;have p:=wpAny_extend_range (prog:=prog) (w:=w) (A:=A) (s:={s with heap:=s.heap.push {cls:=.type "list",data:=.seq ([]:List Value).toArray}})
  (R:=fun (q:Result) (s':Shared)=>∃ (h':Heap) (tk:Nat) (acc':Array Value) (c':Nat),q=.ok (.ret (.ref s.heap.objs.size))/\s'={ s with heap:=h',toks:=tk }/\
   (∀b o,s.heap.get? b=some o->h'.get? b=some o)/\h'.get? s.heap.objs.size=some {cls:=.type "list",dict:=none,data:=.seq acc' c',slots:=#[]}/\ItemsOf (λi v=>∃t,v=.int (a+i*1) t) acc' n)
  hh (A5 _ hr) g hn j s.heap.objs.size (.ref s.heap.objs.size) 0 m
  (λh' tk acc' c' k d c=>⟨h',tk,acc',c',rfl,rfl,λb o e=>k b o (D2 (B7 e)) (A5 _ e),d,c⟩)
 refine B26 p (λz s' x=>?_) λe s' x=>?_
 ·cases z with
  |done f=>
   obtain⟨h',tk,acc',c',e,rfl,k,d,c⟩:=x;cases e;show wpAny _ A (load s.heap.objs.size >>= _) _ _ _;refine B16 (wpAny_load d ?_);exact B17 (h h' tk acc' k c)
  |again c₁=>
   refine⟨x.1,B60 x.2 λq s₂ y=>?_⟩;obtain⟨h',tk,acc',c',rfl,rfl,k,d,c⟩:=y;show wpAny _ A (load s.heap.objs.size >>= _) _ _ _;refine B16 (wpAny_load d ?_);exact B17 (h h' tk acc' k c)
 ·obtain⟨_,_,_,_,e',_⟩:=x;cases e'
theorem qIZ {prog:B20}{w:World}{A:Around}{E:Value->Shared->Prop}{s:Shared}{Q:Value->Shared->Prop}{r:Addr}{a b:Int}{t u v:Tok}{n:Nat}(y:A.handled=none)(x:IsRange s.heap r a b 1 t u v)(d:A33 a b 1=true)
  (hn:Q3 a b 1=n) (k:n<=2^24)
  (h:∀(h':Heap) (tk:Nat) (acc:Array Value),(∀b o,s.heap.get? b=some o->h'.get? b=some o)->ItemsOf (λi v=>∃t,v=.int (a+i*1) t) acc n->Q (.ref h'.objs.size) {s with heap:=h'.push {cls:=.type "tuple",data:=.seq acc},toks:=tk}):
  wpAny (model prog w) A (call (.type "tuple") [.ref r]) Q E s:=by
 have j:B50 (model prog w) A.in1 (.call (.builtin "tuple.__new__") ⟨[.type "tuple",.ref r],[]⟩) (wants (λc g=>g.TypeIs c "tuple"/\Q c g) E) s:=by
  refine codeAny_of_tree ?_;show wpAny _ A.in1.in1 (do checkBuiltinCall "tuple.__new__" ⟨[.type "tuple",.ref r],[]⟩;again (.builtin "tuple.__new__" ⟨[.type "tuple",.ref r],[]⟩)) _ _ s
  refine B16 (B74 (F.newCall_tuple_1 _) (B17 ⟨B42 A58 _,B36 F.entry_tuple_new ?_⟩));rw[G3 A58 _];have q:=sub_tuple_self;have m:=init_tuple_lookup;have z:=madeHere_tuple;have p:s.TypeIs (.ref r) "range":=⟨_,x,rfl⟩
  wp_walk using wpAny_typeOf p,qMI (prog:=prog) (w:=w) (A:=A.in1.in1) y x d hn k
  intro h' tk acc hk f;show wpAny _ _ (u7 acc.toList.toArray >>= λv=>ret v) _ _ _;unfold u7;refine B16 (B29 ?_ (by show acc.toList.toArray.size<=B18;simp only[Array.toArray_toList];rw[f.1,B28];lia))
  refine B17 ?_;have e:acc.toList.toArray=acc:=by simp
  rw[e];exact⟨⟨_,B4 _ rfl,rfl⟩,h h' tk acc hk f⟩
 refine callType_codes (Q₁:=λc g=>g.TypeIs c "tuple"/\Q c g) A29 (F.typeCall_tuple_1 _) F.entry_object_init j λc g l=>?_;exact⟨l.1,A21 c _,object_init_meets A29.init.lookup A29.made (by decide) prog w A.in1 _ g ⟨l.1,rfl,l.2⟩⟩
theorem qKD (y:X.calm=true):qCF X (.type "tuple") (λxs H Q=>∃p lo hi,xs=[.ref p]/\H p=some (.rng lo hi)/\-1000000<=lo/\lo<=1000000/\-1000000<=hi/\hi<=1000000/\∀l,H l=none->Q (.ref l) (Ag H l (.tup (qDD lo hi)))):=by
 intro m s σ H xs us Q I r h;obtain⟨p,lo,hi,rfl,z,l1,l2,l3,l4,q⟩:=h;obtain⟨u,rfl,x⟩:=qE1 r;cases x;obtain⟨t,u,v,e⟩:=(show∃t u v,s.heap.get? p=some {cls:=.type "range",data:=.fields #[.int lo t,.int hi u,.int 1 v]} from I.hok p _ z);refine qIZ (n:=(hi-lo).toNat) (I.ok.hd y) (show IsRange s.heap p lo hi 1 t u v from e) (small_one (by lia) (by lia) (by lia) (by lia)) qb8 (by lia) λd g a hk c=>?_
 obtain⟨k,j⟩:=c;have f:Inv X m σ H {s with heap:=d,toks:=g}:=I.kept hk;refine⟨.ref d.objs.size,_,f.laid (t':=g) (λb o e=>A5 _ e) (A7 _) (show ObjOk X.prog X.w _ _ _ (.tup (qDD lo hi)) from⟨?_,a.toList,qQB rfl (by simpa using k) λi v hi=>j i v (by rw[<- E5];exact hi),?_⟩),rfl,q _ (f.hok.fresh (A7 _))⟩
 ·rw[qKK,B28]
  lia
 ·have:=IsTup.new d a;simpa using this
theorem qRS:∀(bs:List Bool),((F6 bs.length).all λi=>(bs[i]?).getD true)=bs.all id:=by
 intro bs;rw[J4,J5,J5]
 constructor
 ·intro h b d;obtain⟨i,c,e⟩:=W8.mp d;have:=h i (G1.mpr c);rw[A3 c,e] at this;exact this
 ·intro h i c;have a:=G1.mp c;rw[A3 a];exact h _ (X5 a)
theorem qRC (w:X.calm=true):qCF X (.builtin "all") (λxs H Q=>∃(p:Addr) (bs:List Bool),xs=[.ref p]/\SqL X.K H p (bs.map V.bl)/\Q (.bl (bs.all id)) H):=by
 intro Ab s σ H xs us Q I r h;obtain⟨p,bs,rfl,hq,q⟩:=h;obtain⟨u,rfl,o⟩:=qE1 r;cases o;obtain⟨c,k,z,hz⟩:=I.list hq;have g:=z.isList;have j:p<s.heap.objs.size:=by obtain⟨_,e,_⟩:=g;exact B7 e
 have a:=k.length;rw[A0] at a;refine call_all_walk (B40 g ?_);refine⟨s.heap.objs.size,[s.heap.objs.size,p],[s.heap.objs.size],c.toArray.size,_,_,λi=>(bs[i]?).getD true,rfl,A57 (A:=X.A.in1) (I.ok.hd w) _ p (D2 j) c.toArray,
  ⟨⟨_,B4 _ rfl,rfl,rfl⟩,g.push _⟩,λi v s' Q' E' t f=>?_,λh' tk y=>?_⟩
 ·have d:c[i]?=some v:=by simpa using t
  have l:i<bs.length:=by rw[a];exact(A4.mp d).1
  obtain⟨u,m,ru⟩:=k.get (i:=i) (x:=.bl bs[i]) (by rw[B6,A3 l];rfl)
  rw[d] at m;cases m;cases ru;dsimp only at f;rw[A3 l,X3] at f;exact B33 f
 ·have e:((F6 c.toArray.size).all λi=>(bs[i]?).getD true)=bs.all id:=by
   rw[C1,<- a];exact qRS bs
  refine⟨.bl (bs.all id),H,I.kept λb x e=>y b x (λn=>by rw[A6.mp n] at e;exact O2 _ (B7 e)) (A5 _ e),?_,q⟩
  rw[e]
  rfl
theorem qBT:qCF X (.builtin "isinstance") (λxs H Q=>∃x T t b,xs=[x,.ty T]/\TyOf X.K H x t/\W9 X.K t (.type T)=some b/\Q (.bl b) H):=by
 intro f s σ H xs i Q I r h;obtain⟨x,T,t,b,rfl,c,e,q⟩:=h;obtain⟨u,v,rfl,d,a⟩:=qMU r;cases a;exact qUI I d c e λg=>⟨.bl b,H,I.tok _,rfl,q⟩
theorem qTT (f:X.A.units<cLine):OpR X (B35 .Eq) (λx y H Q=>∃p l xs,x=.ref p/\y=.ref l/\SqL X.K H p xs/\SqL X.K H l []/\Q (.bl xs.isEmpty) H):=by
 intro w s σ H x y v u Q I n i h;obtain⟨p,l,xs,rfl,rfl,t,k,q⟩:=h;cases n;cases i;obtain⟨o,c,b,z⟩:=I.list t;obtain⟨g,m,d,z2⟩:=I.list k;cases m;cases xs with
 |nil=>
  cases c;exact SeqAt.eq_listAt (e:=λ_=>true) b.isList d.isList rfl f (λj h _=>absurd h (by simp)) ⟨.bl true,H,I,rfl,q⟩
 |cons a r=>
  cases c;exact SeqAt.eq_list_lengthsAt b.isList d.isList (by simp) f ⟨.bl false,H,I,rfl,q⟩
end
theorem qO1 {X:Cx} {K:PySem.W.Frag} {w:World} (b:X.K=K) (d:X.w=w) (c:X.calm=true):qCF X (.builtin "sorted") (fun xs H Q=>∃ p ns,xs=[.ref p]/\(SqL K H p (ns.map V.int)\/SqT K H p (ns.map V.int)\/H p=some (SetO w p ns))/\ns.length<64/\
  ∀(a:Addr) (ns':List Int),H a=none->ns'.Perm ns->ns'.Pairwise (·<=·)->Q (.ref a) (Ag H a (.lst (ns'.map V.int)))):=by subst b d;exact qEY c
theorem qVI {X:Cx} {K:PySem.W.Frag} {w:World} (b:X.K=K) (d:X.w=w) (c:X.calm=true):qCF X (.type "set") (λxs H Q=>∃p ns,xs=[.ref p]/\SqL K H p (ns.map V.int)/\ns.length<=4/\∀a,H a=none->Q (.ref a) (Ag H a (SetO w a (dedI ns)))):=by subst b d;exact qMN c
def Ite (K:PySem.W.Frag)(l:Addr):It:=
 ⟨λi H=>∃xs x,SqL K H l xs/\xs[i]?=some x,λi H v H'=>∃T x,H T=none/\v=.ref T/\H'=Ag H T (.tup [.int (i:Int),x])/\∀xs,SqL K H l xs->xs[i]?=some x,λi H=>∃xs,SqL K H l xs/\xs.length<=i⟩
section
variable{X:Cx}
theorem Inv.turnedL {Ab:List (Addr×Obj)}{s:Shared}{σ:St}{H:Hp}{h':Heap}{t':Nat}{ch:List Addr}(I:Inv X Ab σ H s)(k:∀b o,b∉ch->s.heap.get? b=some o->h'.get? b=some o)(d:∀b∈ch,FpOk X Ab H b):Inv X Ab σ H {s with heap:=h',toks:=t'}:=by
 have f:∀b u,H b=some u->b∉ch:=λb u e z=>by rw[(d b z).1] at e;cases e
 refine I.step (g':=s.gens) (d':=s.drawn) (ch:=ch) (λb g=>⟨(d b g).2.2.2.1,(d b g).2.1,(d b g).2.2.2.2.1,(d b g).2.2.2.2.2⟩) (λb o _ _ a e _=>k b o a e) (λb o _ _ a e _=>⟨o.slots,k b o a e⟩) (λ_ _ _ _ n=>n)
  (λb o a e=>⟨o,k b o a e⟩) (λ_ _ e=>e) (λ_ _ _ e=>e) (λ_ _ e=>e) (λm i=>?_) (λb u e=>?_) I.bare
 ·obtain⟨o,h,l,j,r⟩:=i;exact⟨o,h,l,k _ o (λz=>(d _ z).2.1 rfl) j,r⟩
 ·refine(I.hok b u e).stay (λc v a q=>k c v ?_ q) (λ_ q=>q) λ_ _ q=>q;rcases a with z|z
  ·rw[z];exact f b u e
  ·exact f c _ z
theorem qMY {P:B20}{w:World}{K:PySem.W.Frag}{n:List Expr}{k:Nat}{pos:Pos}(l c e:Addr)(r:e≠c):Turn P w K (.Tuple n k pos) (Ite K l) [e,c] e (λi h=>(∃old,IsEnum h e c i old)/\h.IsListIter c l i) where
 mem:=by simp
 obj:=λi h g b f=>by
  obtain⟨⟨old,d⟩,o,a,_,h4⟩:=g;have e':b=e\/b=c:=by simpa using f
  rcases e' with rfl|rfl
  ·exact⟨_,d,λv z=>by
    have z':A31 _=A77 v:=z;cases z'⟩
  ·exact⟨o,a,λv z=>by rw[h4] at z;cases z⟩
 keep:=λi h h' g kk=>by
  obtain⟨⟨old,d⟩,a⟩:=g;exact⟨⟨old,kk e (by simp) _ d⟩,a.at λo q=>kk c (by simp) o q⟩
 item:=by
  intro X hP hw hK hc i Ab s σ H E I y g hg;subst hP hw hK;obtain⟨xs,x,t,hx⟩:=hg;obtain⟨a7,rv,p,hz⟩:=I.list t;obtain⟨u,hu,ru⟩:=rv.get hx;obtain⟨⟨old,d⟩,a⟩:=g;refine wpAny_pyNext_enum_item d a p.isList (x:=u) (by simpa using hu) r λh' a1 a2 a3 a4 a5=>?_
  refine ⟨_,rfl,wpAny_letOwnedTupleGo_enum a1 fun a b1 b2=>?_⟩;have m:e<s.heap.objs.size:=B7 d;have I1:Inv X Ab σ H { s with heap:=a,toks:=s.toks+1 }:=I.turnedL (ch:=[e,c]) (fun b o f q=>by
   have j:b≠e:=λz=>f (by simp[z])
   have a0:b≠c:=λz=>f (by simp[z])
   exact(b2.2 b j).trans (a5 b o j a0 q)) y
  have hT:H s.heap.objs.size=none:=I.hok.fresh (A7 _);have fT:=I.fpOk (H':=H) (b:=s.heap.objs.size) (A7 _) hT;have gT:a.get? s.heap.objs.size=some {cls:=.type "tuple",data:=.seq #[.int i s.toks,u]}:=(b2.2 _ (V5 m)).trans a3;refine⟨.ref s.heap.objs.size,Ag H s.heap.objs.size (.tup [.int (i:Int),x]),I1.track hT I.sz fT.2.1 fT.2.2.2.2.1 fT.2.2.2.2.2 ⟨by simp only[D6,N9];rw[B28];decide,[.int (i:Int) s.toks,u],.cons ⟨_,rfl⟩ (.cons ru .nil),⟨_,gT,rfl,_,rfl⟩⟩,rfl,
   ⟨_,x,hT,rfl,rfl,λys hy=>by rw[I.list_inj hy t];exact hx⟩,⟨⟨_,b1⟩,a2.at λo q=>(b2.2 c (J3 r)).trans q⟩,λb f=>?_⟩
  have a6:b<s.heap.objs.size:=by
   have e':b=e\/b=c:=by simpa using f
   rcases e' with rfl|rfl
   ·exact m
   ·obtain⟨o,q,_⟩:=a;exact B7 (by assumption)
  rw[qAA (D2 a6)];exact(y b f).1
 done:=by
  intro X hP hw hK hc i Ab s σ H E I y g hg;subst hP hw hK;obtain⟨xs,t,hx⟩:=hg;obtain⟨a7,rv,p,hz⟩:=I.list t;have hl:=rv.length;obtain⟨⟨old,d⟩,a⟩:=g;exact wpAny_pyNext_enum_end (I.ok.hd hc) d a p.isList (by simp;lia) λh' eb=>⟨rfl,I.turnedL (t':=s.toks) (ch:=[e,c]) (λb o f q=>eb b o (λz=>f (by simp[z])) q) y⟩
 self:=λ_ _ _ _ _ g h=>by
  obtain⟨⟨old,d⟩,a⟩:=g;exact B55 d h
def qdJ (K:PySem.W.Frag)(ta:TA):TI:=λσ H R=>ta σ H λvs H1=>∃l,vs=[.ref l]/\(∃xs,SqL K H1 l xs)/\R (Ite K l) H1
theorem qZA {d:List Expr} {k:Nat} {c:Pos} {a:Expr} {g:TA} {p pos:Pos} (z:Gl X "enumerate") (n:X.mg "enumerate" = none) (y:B23 "enumerate" = some (.type "enumerate")) (t:PA X [a] g) (hs:B24 [a] X.env=[(false,eval a X.env)]:=by rfl):
  PI X (.Tuple d k c) (.Call (.Name "enumerate" p) [a] [] pos) (qdJ X.K g):=by
 intro f s σ H R I h;refine Call_ (qGZ I z n y (K9 (thn (t pos f s σ H _ I h) λus s1 ⟨vs,H1,I1,r1,q1⟩=>?_) hs rfl));obtain⟨l,e,⟨xs,hq⟩,q⟩:=q1;subst e;obtain⟨u,rfl,o⟩:=qE1 r1;cases o;obtain⟨a0,rv,x,hz⟩:=I1.list hq;refine call_enumerate_list x.isList λw i hi j v=>?_;refine B55 i ?_;have I2:Inv X f σ H1 {s1 with heap:=w}:=I1.kept (t':=s1.toks) v;refine⟨s1.heap.objs.size+1,[s1.heap.objs.size+1,s1.heap.objs.size],_,_,H1,rfl,I2,qMY l s1.heap.objs.size (s1.heap.objs.size+1) (X6 _),⟨⟨_,i⟩,hi⟩,λb m=>?_,q⟩;have r:b=s1.heap.objs.size+1\/b=s1.heap.objs.size:=by simpa using m
 rcases r with rfl|rfl
 ·exact I1.fpOk (R0 _) (I1.hok.fresh (R0 _))
 ·exact I1.fpOk (A7 _) (I1.hok.fresh (A7 _))
end
theorem qU7 {K:PySem.W.Frag}{a:Addr}{xs:List V}{g:TG}{f:TT}{h:TE}{Kf:Hp->Prop}{σ0:St}{H0:Hp}{p:Addr}(Pv:Nat->St->Hp->Prop)(u:Pv 0 σ0 H0)(n:∀i σ H,i<=xs.length->Pv i σ H->SqL K H a xs)
  (s:∀i x σ H T,xs[i]?=some x->Pv i σ H->H T=none->g (.ref T) σ (Ag H T (.tup [.int (i:Int),x])) λσ2 H2=>f σ2 H2 λb H3=>if b=true then h σ2 H3 λy H4=>∃ys,H4 p=some (.lst ys)/\ys.length<B18/\Pv (i+1) σ2 (Ag H4 p (.lst (ys++[y]))) else Pv (i+1) σ2 H3)
  (k:∀σ H,Pv xs.length σ H->Kf H):
  LcG (Ite K a) g f h Kf σ0 H0 p:=by
 refine⟨λi m σ H=>m=xs.length-i/\i<=xs.length/\Pv i σ H,⟨xs.length,by simp,E8 _,u⟩,?_⟩
 rintro i m σ H ⟨rfl,hi,q⟩;have d:=n i σ H hi q;by_cases c:i<xs.length
 ·refine .inr ⟨⟨xs,xs[i],d,by simp[c]⟩,Pv (i+1),λσ' l o=>⟨xs.length-(i+1),by lia,rfl,c,o⟩,λv l y=>?_⟩
  obtain⟨T,x,t,j,r,y⟩:=y;subst j r;exact s i x σ H T (y xs d) q t
 ·have e:i=xs.length:=by lia
  subst e;exact .inl ⟨⟨xs,d,A7 _⟩,k σ H q⟩
theorem qHM {prog:B20}{w:World}{A:Around}{E:Value->Shared->Prop}{s:Shared}{c t:Addr}{i:Nat}{a:Array Value}{x:Value}{Q:Value->Shared->Prop}(b:s.heap.IsTupleIter c t i)(h:s.heap.IsTuple t a)(l:a[i]?=some x)
  (j:∀h':Heap,h'.IsTupleIter c t (i+1)->Heap.SameBut c s.heap h'->Q x {s with heap:=h'}):wpAny (model prog w) A (o9 (.ref c)) Q E s:=by
 obtain⟨o,e,k,d⟩:=id b;obtain⟨m,f,_,n,g⟩:=h;refine B16 (wpAny_callSpecial?_slot b.typeIs R4 (B32 R4 b.typeIs l9 ?_ (k5 _)));show wpAny _ _ (field (.ref c) 0 >>= _) _ _ _;refine B16 (wpAny_field e d rfl ?_);refine B92 rfl ?_;show wpAny _ _ (field (.ref c) 1 >>= _) _ _ _;refine B16 (wpAny_field e d rfl ?_);show wpAny _ _ (seqItems? (.ref t) >>= _) _ _ _;refine B16 (B67 f g ?_);show wpAny _ _ (match a[i]? with|some x=>_|none=>_) _ _ _
 rw[l];refine B16 (B59 e d (by simp) ?_)
 refine B17 ⟨x,rfl,B17 (j _ ⟨_,L4 _ e (d9 (R9 d _)),(t9 o _).trans k,?_⟩ (U7 _ _ _))⟩;rw[R9 d];simp
 rfl
theorem qIF {prog:B20}{w:World}{A:Around}{E:Value->Shared->Prop}{s:Shared}{d t:Addr}{i:Nat}{b:Array Value}{Q:Value->Shared->Prop}(l:A.handled=none)(c:s.heap.IsTupleIter d t i)(n:s.heap.IsTuple t b)(p:b[i]?=none)
  (k:∀(h':Heap) (e:Addr),Heap.ExtBut d s.heap h'->(∃o,h'.get? e=some o/\o.cls=.type "StopIteration")->E (.ref e) {s with heap:=h'}):wpAny (model prog w) A (o9 (.ref d)) Q E s:=by
 obtain⟨o,j,r,h⟩:=id c;obtain⟨q,f,_,u,g⟩:=n;refine B16 (wpAny_callSpecial?_slot c.typeIs R4 (B32 R4 c.typeIs l9 ?_ (k5 _)));show wpAny _ _ (field (.ref d) 0 >>= _) _ _ _;refine B16 (wpAny_field j h rfl ?_);refine B92 rfl ?_;show wpAny _ _ (field (.ref d) 1 >>= _) _ _ _;refine B16 (wpAny_field j h rfl ?_);show wpAny _ _ (seqItems? (.ref t) >>= _) _ _ _;refine B16 (B67 f g ?_);show wpAny _ _ (match b[i]? with|some x=>_|none=>_) _ _ _
 rw[p];refine B16 (B56 ?_);refine B16 (B59 j h (by simp) ?_)
 show wpAny _ _ (newExc (.type "StopIteration") [] >>= _) _ _ _;refine B16 ?_;simp only[newExc,newTuple];refine B16 (B29 ?_ (by size_fits))
 refine B16 (m:=B66 _ _) (B74 (a:=Q0) (by first|rfl|(simp only[B66];rfl)) ?_)
 refine B29 ?_ (by size_fits)
 simp only[raiseNew];refine B16 (wpAny_handled ?_);rw[show A.in1.handled=none from l];refine B16 (B17 (wpAny_throw ?_));exact k _ _ (((U7 ..).extBut.push _).push _) ⟨_,B4 _ rfl,rfl⟩
def SIt (b:Bool)(h:Heap)(it l:Addr)(i:Nat):Prop:=match b with|true=>h.IsTupleIter it l i|false=>h.IsListIter it l i
def SSq (b:Bool)(h:Heap)(l:Addr)(xs:Array Value):Prop:=match b with|true=>h.IsTuple l xs|false=>h.IsList l xs
section
variable{b:Bool}{prog:B20}{w:World}{A:Around}{E:Value->Shared->Prop}{s:Shared}{z TI TO i1 i2 l1 l2:Addr}{k1 k2:Nat}{xs ys:Array Value}
end
noncomputable abbrev itObj (b:Bool) (l:Addr):Obj:={cls:=.type (match b with|true=>"tuple_iterator" |false=>"list_iterator"),data:=.fields #[.ref l,.int 0 0]}
theorem qRT {b:Bool}{prog:B20}{w:World}{A:Around}{E:Value->Shared->Prop}{s:Shared}{l:Addr}{xs:Array Value}{Q:Value->Shared->Prop}(h:SSq b s.heap l xs)(a:Q (.ref s.heap.objs.size) {s with heap:=s.heap.push (itObj b l)}):wpAny (model prog w) A (pyIter (.ref l)) Q E s:=by
 cases b
 ·exact B40 h a
 ·exact wpAny_pyIter_tuple h a
section
variable{X:Cx}
end
theorem qSH {M:Model}{A:Around}{E:Value->Shared->Prop}{s:Shared}{c:Value}{Q:Bool->Shared->Prop}(h:∀b,Q b s):wpAny M A (X1 c) Q E s:=by
 unfold X1;exact B16 (wpAny_stack_any λa=>B17 (h _))
theorem qV3 (l:Addr) (a:Array Value):Meets (Builtin.«enumerate.__new__» {pos:=[.type "enumerate",.ref l]}) λ_ R s=>
  s.heap.IsTuple l a/\R (.ok (.ret (.ref (s.heap.push (itObj true l)).objs.size))) {s with heap:=(s.heap.push (itObj true l)).push {cls:=.type "enumerate",data:=.fields #[.none,.bool false,.ref s.heap.objs.size,rawInt 0,.none,.none]}}:=by
 refine Meets.of_wp λc w A R s h=>?_;obtain⟨k,h⟩:=h;refine B16 ?_;refine B16 (B17 ?_);refine B92 rfl ?_;refine B16 (B74 sub_enumerate ?_);refine B92 rfl ?_;refine B17 ?_;refine wpAny_ite_true rfl ?_;refine B16 (qSH λj=>?_);have g:wpAny (model c w) A.in1 (pyIter (.ref l) >>= λi=>k6 (.type "enumerate") (A34++[i,rawInt 0,.none,.none]) >>= λv=>ret v) (λf d=>∃v,f=.done (.ret v)/\R (.ok (.ret v)) d) (λe d=>R (.error e) d) s:=by
  refine B16 (qRT (b:=true) k ?_);refine B16 ?_;unfold k6;dsimp only;refine B29 ?_ (by first|rfl|(show(6:Nat)<=B18+2;rw[B28];decide))
  exact B17 ⟨_,rfl,h⟩
 cases j
 ·exact g
 ·exact g
theorem qL6 {prog:B20}{w:World}{A:Around}{E:Value->Shared->Prop}{s:Shared}{l:Addr}{a:Array Value}{Q:Value->Shared->Prop}(f:s.heap.IsTuple l a)
  (h:∀h':Heap,IsEnum h' (s.heap.objs.size+1) s.heap.objs.size 0 .none->h'.IsTupleIter s.heap.objs.size l 0->h'.objs.size=s.heap.objs.size+2->(∀(b:Addr) (o:Obj),s.heap.get? b=some o->h'.get? b=some o)->Q (.ref (s.heap.objs.size+1)) {s with heap:=h'}):
  wpAny (model prog w) A (call (.type "enumerate") [.ref l]) Q E s:=by
 refine callType_new F.called_enumerate (by decide) (F.typeCall_enumerate_1 _) (F.newCall_enumerate_1 _) (λc=>A21 c _) F.entry_enumerate_new (qV3 l a) ⟨f,?_⟩
 have d:(s.heap.push (itObj true l)).objs.size=s.heap.objs.size+1:=L7 ..;rw[d];have g:((s.heap.push (itObj true l)).push {cls:=.type "enumerate",data:=.fields #[.none,.bool false,.ref s.heap.objs.size,rawInt 0,.none,.none]}).get? (s.heap.objs.size+1)=some {cls:=.type "enumerate",data:=.fields #[.none,.bool false,.ref s.heap.objs.size,rawInt 0,.none,.none]}:=by
  rw[<- d];exact B4 _ rfl
 exact⟨⟨_,g,rfl⟩,h _ g ⟨_,A5 _ (B4 _ rfl),rfl,rfl⟩ ((L7 ..).trans (by rw[d])) λb o e=>A5 _ (A5 _ e)⟩
theorem qYA {prog:B20}{w:World}{A:Around}(g:A.handled=none)(d l:Addr)(f:l≠d)(c:Array Value):Draws prog w A d [d,l] c.size (λi v=>c[i]?=some v) λi h=>h.IsTupleIter d l i/\h.IsTuple l c where
 live:=λi h ⟨⟨o,e,_⟩,_⟩=>⟨o,e⟩
 frame:=λi h h' ⟨⟨o,e,r⟩,⟨o2,e2,r2⟩⟩ k=>⟨⟨o,k d (by simp) _ e,r⟩,⟨o2,k l (by simp) _ e2,r2⟩⟩
 item:=λi s Q E hi ⟨h1,h2⟩ hQ=>qHM h1 h2 (B9 hi) λh' a b=>hQ _ h' s.toks (B9 hi) ⟨a,by obtain⟨o,e,r⟩:=h2;exact⟨o,(b.2 l f).trans e,r⟩⟩ b
 done:=λs Q E ⟨h1,h2⟩ hE=>qIF g h1 h2 (by simp) hE
def IteT (K:PySem.W.Frag)(l:Addr):It:=
 ⟨λi H=>∃xs x,SqT K H l xs/\xs[i]?=some x,λi H v H'=>∃T x,H T=none/\v=.ref T/\H'=Ag H T (.tup [.int (i:Int),x])/\∀xs,SqT K H l xs->xs[i]?=some x,λi H=>∃xs,SqT K H l xs/\xs.length=i⟩
section
variable{X:Cx}
theorem qKG {P:B20}{w:World}{K:PySem.W.Frag}{a6:List Expr}{k:Nat}{pos:Pos}(l a e:Addr)(n:e≠a)(hl:l≠a)(a8:l≠e):Turn P w K (.Tuple a6 k pos) (IteT K l) [e,a] e (λi h=>(∃old,IsEnum h e a i old)/\h.IsTupleIter a l i) where
 mem:=by simp
 obj:=λi h j b f=>by
  obtain⟨⟨old,d⟩,o,g,_,h4⟩:=j;have e':b=e\/b=a:=by simpa using f
  rcases e' with rfl|rfl
  ·exact⟨_,d,λv z=>by
    have z':A31 _=A77 v:=z;cases z'⟩
  ·exact⟨o,g,λv z=>by rw[h4] at z;cases z⟩
 keep:=λi h h' j kk=>by
  obtain⟨⟨old,d⟩,g⟩:=j;exact⟨⟨old,kk e (by simp) _ d⟩,g.at λo q=>kk a (by simp) o q⟩
 item:=by
  intro X hP hw hK hc i Ab s σ H E I hf j hg;subst hP hw hK;obtain⟨xs,x,hq,hx⟩:=hg;obtain⟨c,rv,p,hz⟩:=I.tuple hq;obtain⟨u,hu,ru⟩:=rv.get hx;obtain⟨⟨old,d⟩,g⟩:=j;have m:i<c.toArray.size:=by have:=(A4.mp hu).1;simpa using this
  refine wpAny_pyNext_enum_itemD (qYA (A:=X.A.in1) (I.ok.hd hc) a l hl c.toArray) d ⟨g,p⟩ m n (by simp[n,J3 a8]) λu' h' tk a0 a1 a2 a3 a4 a5=>?_
  have eu:u'=u:=by
   have:c[i]?=some u':=by simpa using a0
   rw[hu] at this;exact(D5 this).symm
  subst eu;refine ⟨_,rfl,wpAny_letOwnedTupleGo_enum a1 fun r b1 b2=>?_⟩;have y:e<s.heap.objs.size:=B7 d;have I1:Inv X Ab σ H { s with heap:=r,toks:=tk+1 }:=I.turnedL (ch:=[e,a]) (fun b o f q=>by
   have t:b≠e:=λz=>f (by simp[z])
   have a7:b≠a:=λz=>f (by simp[z])
   exact(b2.2 b t).trans (a5 b o t a7 q)) hf
  have hT:H s.heap.objs.size=none:=I.hok.fresh (A7 _);have fT:=I.fpOk (H':=H) (b:=s.heap.objs.size) (A7 _) hT;have gT:r.get? s.heap.objs.size=some {cls:=.type "tuple",data:=.seq #[.int i tk,u']}:=(b2.2 _ (V5 y)).trans a3;refine⟨.ref s.heap.objs.size,Ag H s.heap.objs.size (.tup [.int (i:Int),x]),I1.track hT I.sz fT.2.1 fT.2.2.2.2.1 fT.2.2.2.2.2 ⟨by simp only[D6,N9];rw[B28];decide,[.int (i:Int) tk,u'],.cons ⟨_,rfl⟩ (.cons ru .nil),⟨_,gT,rfl,_,rfl⟩⟩,rfl,
   ⟨_,x,hT,rfl,rfl,λys hy=>by rw[I.tuple_inj hy hq];exact hx⟩,⟨⟨_,b1⟩,a2.1.at λo q=>(b2.2 a (J3 n)).trans q⟩,λb f=>?_⟩
  have a9:b<s.heap.objs.size:=by
   have e':b=e\/b=a:=by simpa using f
   rcases e' with rfl|rfl
   ·exact y
   ·obtain⟨o,q,_⟩:=g;exact B7 q
  rw[qAA (D2 a9)];exact(hf b f).1
 done:=by
  intro X hP hw hK hc i Ab s σ H E I hf j hg;subst hP hw hK;obtain⟨xs,hq,hx⟩:=hg;obtain⟨c,rv,p,hz⟩:=I.tuple hq;have aa:=rv.length;obtain⟨⟨old,d⟩,g⟩:=j;have m:i=c.toArray.size:=by simp;lia
  subst m;exact wpAny_pyNext_enum_endD (qYA (A:=X.A.in1) (I.ok.hd hc) a l hl c.toArray) d ⟨g,p⟩ λh' eb=>⟨rfl,I.turnedL (t':=s.toks) (ch:=[e,a]) (λb o f q=>eb b o (λz=>f (by simp[z])) q) hf⟩
 self:=λ_ _ _ _ _ j h=>by
  obtain⟨⟨old,d⟩,g⟩:=j;exact B55 d h
def qc0 (K:PySem.W.Frag)(ta:TA):TI:=λσ H R=>ta σ H λvs H1=>∃l,vs=[.ref l]/\(∃xs,SqT K H1 l xs)/\R (IteT K l) H1
theorem qQK {f:List Expr} {k:Nat} {d:Pos} {a:Expr} {i:TA} {p pos:Pos} (hg:Gl X "enumerate") (t:X.mg "enumerate" = none) (hv:B23 "enumerate" = some (.type "enumerate")) (x:PA X [a] i) (hs:B24 [a] X.env=[(false,eval a X.env)]:=by rfl):
  PI X (.Tuple f k d) (.Call (.Name "enumerate" p) [a] [] pos) (qc0 X.K i):=by
 intro g s σ H R I h;refine Call_ (qGZ I hg t hv (K9 (thn (x pos g s σ H _ I h) λus s1 ⟨vs,H1,I1,r1,q1⟩=>?_) hs rfl));obtain⟨l,e,⟨xs,hq⟩,q⟩:=q1;subst e;obtain⟨u,rfl,v⟩:=qE1 r1;cases v;obtain⟨a0,rv,m,hz⟩:=I1.tuple hq;have c:l<s1.heap.objs.size:=by obtain⟨o,e,_⟩:=m;exact B7 e
 refine qL6 m λz j hi n y=>?_;refine B55 j ?_;have I2:Inv X g σ H1 {s1 with heap:=z}:=I1.kept (t':=s1.toks) y;refine⟨s1.heap.objs.size+1,[s1.heap.objs.size+1,s1.heap.objs.size],_,_,H1,rfl,I2,qKG l s1.heap.objs.size (s1.heap.objs.size+1) (X6 _) (D2 c) (D2 (Q6 c)),⟨⟨_,j⟩,hi⟩,λb r=>?_,q⟩;have w:b=s1.heap.objs.size+1\/b=s1.heap.objs.size:=by simpa using r
 rcases w with rfl|rfl
 ·exact I1.fpOk (R0 _) (I1.hok.fresh (R0 _))
 ·exact I1.fpOk (A7 _) (I1.hok.fresh (A7 _))
end
theorem qQZ {K:PySem.W.Frag}{a:Addr}{xs:List V}{g:TG}{f:TT}{h:TE}{Kf:Hp->Prop}{σ0:St}{H0:Hp}{p:Addr}(Pv:Nat->St->Hp->Prop)(u:Pv 0 σ0 H0)(n:∀i σ H,i<=xs.length->Pv i σ H->SqT K H a xs)
  (s:∀i x σ H T,xs[i]?=some x->Pv i σ H->H T=none->g (.ref T) σ (Ag H T (.tup [.int (i:Int),x])) λσ2 H2=>f σ2 H2 λb H3=>if b=true then h σ2 H3 λy H4=>∃ys,H4 p=some (.lst ys)/\ys.length<B18/\Pv (i+1) σ2 (Ag H4 p (.lst (ys++[y]))) else Pv (i+1) σ2 H3)
  (k:∀σ H,Pv xs.length σ H->Kf H):
  LcG (IteT K a) g f h Kf σ0 H0 p:=by
 refine⟨λi m σ H=>m=xs.length-i/\i<=xs.length/\Pv i σ H,⟨xs.length,by simp,E8 _,u⟩,?_⟩
 rintro i m σ H ⟨rfl,hi,q⟩;have d:=n i σ H hi q;by_cases c:i<xs.length
 ·refine .inr ⟨⟨xs,xs[i],d,by simp[c]⟩,Pv (i+1),λσ' l o=>⟨xs.length-(i+1),by lia,rfl,c,o⟩,λv l y=>?_⟩
  obtain⟨T,x,t,j,r,y⟩:=y;subst j r;exact s i x σ H T (y xs d) q t
 ·have e:i=xs.length:=by lia
  subst e;exact .inl ⟨⟨xs,d,rfl⟩,k σ H q⟩
theorem qUU {K:PySem.W.Frag}{a:Addr}{xs:List V}{g:TG}{d:TS}{D:Ends}{σ0:St}{H0:Hp}(Pv:Nat->St->Hp->Prop)(p:Pv 0 σ0 H0)(k:∀i σ H,i<=xs.length->Pv i σ H->SqT K H a xs)
  (n:∀i x σ H T,xs[i]?=some x->Pv i σ H->H T=none->g (.ref T) σ (Ag H T (.tup [.int (i:Int),x])) λσ2 H2=>d {D with nx:=Pv (i+1),ct:=Pv (i+1),bk:=D.nx} σ2 H2)
  (h:∀σ H,Pv xs.length σ H->D.nx σ H):
  ∃W:Nat->Nat->St->Hp->Prop,(∃m,W 0 m σ0 H0)/\∀i m σ H,W i m σ H->
   ((IteT K a).stop i H/\D.nx σ H)\/((IteT K a).go i H/\∃N:St->Hp->Prop,(∀σ' H',N σ' H'->∃m',m'<m/\W (i+1) m' σ' H')/\∀x H',(IteT K a).yld i H x H'->g x σ H' λσ2 H2=>d {D with nx:=N,ct:=N,bk:=D.nx} σ2 H2):=by
 refine⟨λi m σ H=>m=xs.length-i/\i<=xs.length/\Pv i σ H,⟨xs.length,by simp,E8 _,p⟩,?_⟩
 rintro i m σ H ⟨rfl,hi,q⟩;have c:=k i σ H hi q;by_cases b:i<xs.length
 ·refine .inr ⟨⟨xs,xs[i],c,by simp[b]⟩,Pv (i+1),λσ' H' j=>⟨xs.length-(i+1),by lia,rfl,b,j⟩,λv H' y=>?_⟩
  obtain⟨T,x,o,f,l,y⟩:=y;subst f l;exact n i x σ H T (y xs c) q o
 ·have e:i=xs.length:=by lia
  subst e;exact .inl ⟨⟨xs,c,rfl⟩,h σ H q⟩
open PySem
section
variable{es:List Expr}{env:Env}{p:Pos}
end
@[irreducible] def cst (i:Int)(p:Pos):Expr:=.Constant (.int i) 0 p
theorem qTZ {P:(St->Hp->Prop)->Prop}{B:St->Hp->Prop}(h:∀N:St->Hp->Prop,(∀σ H,B σ H->N σ H)->P N):∃N:St->Hp->Prop,(∀σ' H',N σ' H'->B σ' H')/\P N:=⟨B,λ_ _ z=>z,h B λ_ _ z=>z⟩
theorem qJV {K:PySem.W.Frag}{a:Addr}{xs:List V}{g:TG}{b:TS}{D:Ends}{σ:St}{H:Hp}(Pv:Nat->St->Hp->Prop)(j:Pv 0 σ H)(f:∀i σ H,i<=xs.length->Pv i σ H->SqL K H a xs)
  (h:∀i x σ H,xs[i]?=some x->Pv i σ H->∀N:St->Hp->Prop,(∀σ H,Pv (i+1) σ H->N σ H)->g x σ H λσ2 H2=>b {D with nx:=N,ct:=N,bk:=D.nx} σ2 H2) (d:∀σ H,Pv xs.length σ H->D.nx σ H):
  ForG (Itl K a) g b D σ H:=
 qIS Pv j f (λi x σ H e c=>h i x σ H e c _ λ_ _ z=>z) d
theorem qL1 {lo:Int}{n:Nat}{g:TG}{a:TS}{D:Ends}{σ:St}{H:Hp}(Pv:Nat->St->Hp->Prop)(f:Pv 0 σ H)
  (d:∀i σ H,i<n->Pv i σ H->∀N:St->Hp->Prop,(∀σ H,Pv (i+1) σ H->N σ H)->g (.int (lo+i)) σ H λσ2 H2=>a {D with nx:=N,ct:=N,bk:=D.nx} σ2 H2) (c:∀σ H,Pv n σ H->D.nx σ H):
  ForG (Itr lo n) g a D σ H:=
 qFI Pv f (λi σ H e b=>d i σ H e b _ λ_ _ z=>z) c
@[elab_as_elim] theorem us0 {α:Type}{P:List α->Prop}(a:List α)(b:a.length=0)(h:P []):P a:=by
 match a,b with
 |[],_=>exact h
@[elab_as_elim] theorem us1 {α:Type}{P:List α->Prop}(b:List α)(c:b.length=1)(h:∀a,P [a]):P b:=by
 match b,c with
 |[a],_=>exact h a
@[elab_as_elim] theorem us2 {α:Type}{P:List α->Prop}(c:List α)(d:c.length=2)(h:∀a b,P [a,b]):P c:=by
 match c,d with
 |[a,b],_=>exact h a b
@[elab_as_elim] theorem us3 {α:Type}{P:List α->Prop}(d:List α)(e:d.length=3)(h:∀a b c,P [a,b,c]):P d:=by
 match d,e with
 |[a,b,c],_=>exact h a b c
@[elab_as_elim] theorem us4 {α:Type}{P:List α->Prop}(e:List α)(f:e.length=4)(h:∀a b c d,P [a,b,c,d]):P e:=by
 match e,f with
 |[a,b,c,d],_=>exact h a b c d
end L2
namespace L2.G
open PySem PyProof.Rows
abbrev gSM:=StateT SortSt Sem
class NM where
 nm:Value->Int
 good:Value->Prop
variable[NM]
def gkv (p:Keyed):Int:=NM.nm p.1
def gIK (p:Keyed):Prop:=NM.good p.1
class LtOk (prog:B20)(w:World)(A:Around)(s:Shared)(κ0:B47):Prop where
 lt:∀{x y:Value} {Q:Bool->Shared->Prop} {E:Value->Shared->Prop},NM.good x->NM.good y->Q (decide (NM.nm x<NM.nm y)) s->wpAny (model prog w) A (keyLt' κ0 x y) Q E s
noncomputable def gK (xs:Array Keyed)(i:Nat):Int:=match xs[i]? with
 |some p=>NM.nm p.1
 |none=>0
def qH6 (xs:Array Keyed)(k:Nat):Prop:=∀i j,i<=j->j<k->gK xs i<=gK xs j
def qC2 (xs:Array Keyed):Prop:=∀p,p∈xs.toList->NM.good p.1
theorem qZY {xs:Array Keyed}{i:Nat}(hi:i<xs.size):gK xs i=NM.nm xs[i].1:=by unfold gK;rw[getElem?_pos xs i hi]
theorem qG1 {xs a:Array Keyed}{i j:Nat}(h:xs[i]?=a[j]?):gK xs i=gK a j:=by unfold gK;rw[h]
theorem qJU {xs:Array Keyed}{a d:Nat}(g:a<xs.size)(f:d<=a)(k:Nat):
  gK (bubble xs a d) k=if k=a-d then gK xs a else if a-d<k/\k<=a then gK xs (k-1) else gK xs k:=by
 have e:=getElem?_bubble g d f k;by_cases c:k=a-d
 ·rw[if_pos c] at e ⊢;exact qG1 e
 ·rw[if_neg c] at e ⊢;by_cases b:a-d<k/\k<=a
  ·rw[if_pos b] at e ⊢;exact qG1 e
  ·rw[if_neg b] at e ⊢;exact qG1 e
theorem qH7 {xs:Array Keyed}{i j:Nat}(b:j<=xs.size)(k:Nat):
  gK (mirror xs i j ((j-i)/2)) k=if i<=k/\k<j then gK xs (i+j-1-k) else gK xs k:=by
 have e:=getElem?_mirror_all (i:=i) b k;by_cases a:i<=k/\k<j
 ·rw[if_pos a] at e ⊢;exact qG1 e
 ·rw[if_neg a] at e ⊢;exact qG1 e
theorem qB0 {xs:Array Keyed}{i j:Nat}(c:j<=xs.size)(a:∀k,i<=k->k<j->gK xs k=gK xs (j-1))(k:Nat):
  gK (mirror xs i j ((j-i)/2)) k=gK xs k:=by
 rw[qH7 c]
 split
 ·rw[a _ (by omega) (by omega),a k (by omega) (by omega)]
 ·rfl
noncomputable def qX8:Bool->Keyed->Array Keyed->Nat->Nat->Nat->gSM (Option Nat):=sortPriv% PySem.Builtin.gallop
noncomputable def gbey (left:Bool)(key:Keyed)(arr:Array Keyed)(base i:Nat):gSM (Option Bool):=do
 let x <- elem' arr (base+i)
 if left=true then lt' x key else do
  let r <- lt' key x
  pure (r.map λb=>!b)
section
variable{prog:B20}{w:World}{A:Around}{E:Value->Shared->Prop}{s:Shared}{κ0:B47}[LtOk prog w A s κ0]
theorem qH3 {st:SortSt}{x y:Keyed}{Q:Option Bool->SortSt->Prop}(c:kindOf st=κ0)(a:gIK x)(b:gIK y)(h:Q (some (decide (gkv x<gkv y))) st):wpS (model prog w) A E s (lt' x y) Q st:=by
 rw[lt'_eq];refine B19 (B63 ?_);rw[c];refine B19 (wpS_lift (B84 (LtOk.lt a b ⟨rfl,?_⟩)));exact B21 h
theorem qB8 {st:SortSt}{a:Array Keyed}{i:Nat}{x:Keyed}{Q:Keyed->SortSt->Prop}(h:a[i]?=some x)(b:Q x st):wpS (model prog w) A E s (elem' a i) Q st:=by
 rw[elem'_eq,h];exact B21 b
noncomputable def qAO (left:Bool)(key:Keyed)(a:Array Keyed)(base i:Nat):Bool:=match a[base+i]? with
 |some x=>if left=true then decide (gkv x<gkv key) else decide (gkv x<=gkv key)
 |none=>false
theorem qH4 {st:SortSt}{left:Bool}{b:Keyed}{a:Array Keyed}{base i:Nat}{Q:Option Bool->SortSt->Prop}(f:kindOf st=κ0)(c:gIK b)(g:∀x∈a.toList,gIK x)(hi:base+i<a.size)(h:Q (some (qAO left b a base i)) st):
  wpS (model prog w) A E s (gbey left b a base i) Q st:=by
 unfold gbey;have e:a[base+i]?=some (a[base+i]'hi):=B9 hi;have d:gIK (a[base+i]'hi):=g _ (by simp)
 unfold qAO at h;rw[e] at h;refine B19 (qB8 e ?_);cases left with
 |true=>exact qH3 f d c h
 |false=>
  refine B19 (qH3 f c d ?_);refine B21 ?_;have:(!decide (gkv b<gkv a[base+i]))=decide (gkv a[base+i]<=gkv b):=by
   by_cases q:gkv b<gkv a[base+i]
   ·rw[decide_eq_true q,decide_eq_false (by omega)];rfl
   ·rw[decide_eq_false q,decide_eq_true (by omega)];rfl
  show Q (some (!decide (gkv b<gkv a[base+i]))) st;rw[this];exact h
theorem qFZ {st:SortSt}{left:Bool}{b:Keyed}{a:Array Keyed}{base n hint:Nat}{Q:Option Nat->SortSt->Prop}(hk:kindOf st=κ0)(p:gIK b)(ha:∀x∈a.toList,gIK x)(hn:base+n<=a.size)(hh:hint<n)
  (t:∀i j,i<=j->j<n->qAO left b a base j=true->qAO left b a base i=true)
  (h:∀k,k<=n->(∀i,i<k->qAO left b a base i=true)->(∀i,k<=i->i<n->qAO left b a base i=false)->Q (some k) st):
  wpS (model prog w) A E s (qX8 left b a base n hint) Q st:=by
 have m:∀i j,i<=j->j<n->qAO left b a base i=false->qAO left b a base j=false:=λi j a0 hj e=>by
  cases q:qAO left b a base j with
  |false=>rfl
  |true=>rw[t i j a0 hj q] at e;cases e
 unfold qX8;show wpS _ _ _ _ (gbey left b a base hint >>= _) _ _;refine B19 (qH4 hk p ha (by omega) ?_)
 dsimp only;cases e:qAO left b a base hint with
 |true=>
  rw [if_pos rfl];refine B19 (B44 (B31 (I:=fun x c f=>f=st/\∃ l o,c=(none,l,o)/\l<o/\x+1<=o/\hint+l<n/\qAO left b a base (hint+l)=true)
   (Q:=λc f=>f=st/\∃l o,c=(none,l,o)/\l<o/\hint+l<n/\qAO left b a base (hint+l)=true/\(o>=n-hint\/qAO left b a base (hint+o)=false)) ?step ?fin ⟨rfl,0,1,rfl,by omega,by omega,by omega,e⟩) ?post)
  case fin=>
   rintro c f ⟨rfl,l,o,rfl,h1,h2,h3,h4⟩;exact⟨rfl,l,o,rfl,h1,h3,h4,.inl (by omega)⟩
  case step=>
   rintro x c f _ hx ⟨rfl,l,o,rfl,h1,h2,h3,h4⟩;dsimp only;by_cases g:o>=n-hint
   ·rw[if_pos g];exact B21 ⟨rfl,l,o,rfl,h1,h3,h4,.inl g⟩
   ·rw[if_neg g];show wpS _ _ _ _ (gbey left b a base (hint+o) >>= _) _ _;refine B19 (qH4 hk p ha (by omega) ?_)
    dsimp only;cases e2:qAO left b a base (hint+o) with
    |false=>
     rw[if_pos (by rfl)]
     exact B21 ⟨rfl,l,o,rfl,h1,h3,h4,.inr e2⟩
    |true=>
     rw[if_neg (by simp)]
     exact B21 ⟨rfl,o,2*o+1,rfl,by omega,by omega,by omega,e2⟩
  case post=>
   rintro c f ⟨rfl,l,o,rfl,h1,h3,h4,h5⟩;dsimp only;have y:∀i,i<hint+l+1->qAO left b a base i=true:=λi v=>t i (hint+l) (by omega) h3 h4
   have z:∀i,hint+min o (n-hint)<=i->i<n->qAO left b a base i=false:=λi v u=>by
    rcases h5 with h5|h5
    ·omega
    ·exact m (hint+o) i (by omega) u h5
   refine B19 (B44 (B31 (I:=fun x c d=>d=f/\∃ l r,c=(none,l,r)/\l<=r/\r<=n/\r - l<=n - x/\(∀ i,i<l->qAO left b a base i=true)/\∀ i,r<=i->i<n->qAO left b a base i=false)
    (Q:=λc d=>d=f/\∃l,c=(none,l,l)/\l<=n/\(∀i,i<l->qAO left b a base i=true)/\∀i,l<=i->i<n->qAO left b a base i=false) ?bstep ?bfin ⟨rfl,hint+l+1,hint+min o (n-hint),rfl,by omega,by omega,by omega,y,z⟩) ?bpost)
   case bfin=>
    rintro c d ⟨rfl,l,r,rfl,h1,h2,h3,h4,h5⟩;have:l=r:=by omega
    subst this;exact⟨rfl,l,rfl,h2,h4,h5⟩
   case bpost=>
    rintro c d ⟨rfl,l,rfl,h1,h2,h3⟩;exact B21 (h l h1 h2 h3)
   case bstep=>
    rintro x c d _ hx ⟨rfl,l,r,rfl,h1,h2,h3,h4,h5⟩;dsimp only;by_cases g:l>=r
    ·rw[if_pos g];have:l=r:=by omega
     subst this;exact B21 ⟨rfl,l,rfl,h2,h4,h5⟩
    ·rw[if_neg g];show wpS _ _ _ _ (gbey left b a base (l+(r-l)/2) >>= _) _ _;refine B19 (qH4 hk p ha (by omega) ?_)
     dsimp only;cases e9:qAO left b a base (l+(r-l)/2) with
     |true=>
      rw[if_pos rfl];exact B21 ⟨rfl,_,_,rfl,by omega,h2,by omega,λi v=>t i _ (by omega) (by omega) e9,h5⟩
     |false=>
      rw[if_neg B1];exact B21 ⟨rfl,_,_,rfl,by omega,by omega,by omega,h4,λi v u=>m _ i v u e9⟩
 |false=>
  rw [if_neg B1];refine B19 (B44 (B31 (I:=fun x c f=>f=st/\∃ l o,c=(none,l,o)/\l<o/\x+1<=o/\l<=hint/\qAO left b a base (hint - l)=false)
   (Q:=λc f=>f=st/\∃l o,c=(none,l,o)/\l<o/\l<=hint/\qAO left b a base (hint-l)=false/\(o>=hint+1\/qAO left b a base (hint-o)=true)) ?step ?fin ⟨rfl,0,1,rfl,by omega,by omega,by omega,e⟩) ?post)
  case fin=>
   rintro c f ⟨rfl,l,o,rfl,h1,h2,h3,h4⟩;exact⟨rfl,l,o,rfl,h1,h3,h4,.inl (by omega)⟩
  case step=>
   rintro x c f _ hx ⟨rfl,l,o,rfl,h1,h2,h3,h4⟩;dsimp only;by_cases g:o>=hint+1
   ·rw[if_pos g];exact B21 ⟨rfl,l,o,rfl,h1,h3,h4,.inl g⟩
   ·rw[if_neg g];show wpS _ _ _ _ (gbey left b a base (hint-o) >>= _) _ _;refine B19 (qH4 hk p ha (by omega) ?_)
    dsimp only;cases e2:qAO left b a base (hint-o) with
    |true=>
     rw[if_pos rfl];exact B21 ⟨rfl,l,o,rfl,h1,h3,h4,.inr e2⟩
    |false=>
     rw[if_neg B1];exact B21 ⟨rfl,o,2*o+1,rfl,by omega,by omega,by omega,e2⟩
  case post=>
   rintro c f ⟨rfl,l,o,rfl,h1,h3,h4,h5⟩;dsimp only;have y:∀i,i<hint+1-min o (hint+1)->qAO left b a base i=true:=λi v=>by
    rcases h5 with h5|h5
    ·omega
    ·exact t i (hint-o) (by omega) (by omega) h5
   have z:∀ i,hint - l<=i->i<n->qAO left b a base i=false:=fun i v u=>m (hint - l) i v u h4;refine B19 (B44 (B31 (I:=fun x c d=>d=f/\∃ l r,c=(none,l,r)/\l<=r/\r<=n/\r - l<=n - x/\(∀ i,i<l->qAO left b a base i=true)/\∀ i,r<=i->i<n->qAO left b a base i=false)
    (Q:=λc d=>d=f/\∃l,c=(none,l,l)/\l<=n/\(∀i,i<l->qAO left b a base i=true)/\∀i,l<=i->i<n->qAO left b a base i=false) ?bstep ?bfin ⟨rfl,hint+1-min o (hint+1),hint-l,rfl,by omega,by omega,by omega,y,z⟩) ?bpost)
   case bfin=>
    rintro c d ⟨rfl,l,r,rfl,h1,h2,h3,h4,h5⟩;have:l=r:=by omega
    subst this;exact⟨rfl,l,rfl,h2,h4,h5⟩
   case bpost=>
    rintro c d ⟨rfl,l,rfl,h1,h2,h3⟩;exact B21 (h l h1 h2 h3)
   case bstep=>
    rintro x c d _ hx ⟨rfl,l,r,rfl,h1,h2,h3,h4,h5⟩;dsimp only;by_cases g:l>=r
    ·rw[if_pos g];have:l=r:=by omega
     subst this;exact B21 ⟨rfl,l,rfl,h2,h4,h5⟩
    ·rw[if_neg g];show wpS _ _ _ _ (gbey left b a base (l+(r-l)/2) >>= _) _ _;refine B19 (qH4 hk p ha (by omega) ?_)
     dsimp only;cases e9:qAO left b a base (l+(r-l)/2) with
     |true=>
      rw[if_pos rfl];exact B21 ⟨rfl,_,_,rfl,by omega,h2,by omega,λi v=>t i _ (by omega) (by omega) e9,h5⟩
     |false=>
      rw[if_neg B1];exact B21 ⟨rfl,_,_,rfl,by omega,by omega,by omega,h4,λi v u=>m _ i v u e9⟩
end
end L2.G
namespace L2.G
open PySem PyProof.Rows
variable[NM]
structure gMR (R:Keyed->Keyed->Prop)(all out ra rb:List Keyed):Prop where
 perm:(out++(ra++rb)).Perm all
 up:out.Pairwise R
 ua:ra.Pairwise R
 ub:rb.Pairwise R
 la:∀x∈out,∀y∈ra,R x y
 lb:∀x∈out,∀y∈rb,R x y
section
variable{R:Keyed->Keyed->Prop}{all out ra rb xs:List Keyed}
theorem gMR.symm (h:gMR R all out ra rb):gMR R all out rb ra:=⟨((List.Perm.refl out).append (g8)).trans h.perm,h.up,h.ub,h.ua,h.lb,h.la⟩
theorem gMR.takeA (h:gMR R all out (xs++ra) rb)(c:∀x∈xs,∀y∈rb,R x y):gMR R all (out++xs) ra rb:=by
 have ua:=M7.mp h.ua;refine⟨?_,M7.mpr ⟨h.up,ua.1,λx hx y a=>h.la x hx y (A8.mpr (.inl a))⟩,ua.2.1,h.ub,λx hx y a=>?_,λx hx y a=>?_⟩
 ·have e:out++xs++(ra++rb)=out++((xs++ra)++rb):=by simp[P5]
  rw[e];exact h.perm
 ·rcases A8.mp hx with hx|hx
  ·exact h.la x hx y (A8.mpr (.inr a))
  ·exact ua.2.2 x hx y a
 ·rcases A8.mp hx with hx|hx
  ·exact h.lb x hx y a
  ·exact c x hx y a
theorem gMR.takeB (h:gMR R all out ra (xs++rb))(c:∀x∈xs,∀y∈ra,R x y):gMR R all (out++xs) ra rb:=(gMR.takeA h.symm c).symm
theorem gMR.allA (h:gMR R all out ra []):(out++ra).Perm all/\(out++ra).Pairwise R:=by
 have a:gMR R all out (ra++[]) []:=by rw[Q9];exact h
 have q:=a.takeA λ_ _ _ z=>nomatch z;exact⟨by have:=q.perm;simpa using this,q.up⟩
theorem gMR.allB (h:gMR R all out [] rb):(out++rb).Perm all/\(out++rb).Pairwise R:=h.symm.allA
theorem gMR.lastA {z:Keyed}(h:gMR R all out [z] rb)(c:∀y∈rb,R y z):(out++rb++[z]).Perm all/\(out++rb++[z]).Pairwise R:=by
 have b:gMR R all out [z] (rb++[]):=by rw[Q9];exact h
 exact(b.takeB λx a y d=>by rw[A6.mp d];exact c x a).allA
end
abbrev grUp (x y:Keyed):Prop:=gkv x<=gkv y
abbrev grDn (x y:Keyed):Prop:=gkv y<=gkv x
def gRes (all r:List Keyed):Prop:=r.Perm all/\r.Pairwise grUp
def gSE (st st':SortSt):Prop:=kindOf st'=kindOf st/\arrOf st'=arrOf st/\B22 st'=B22 st/\failedOf st'=failedOf st
theorem gSE.refl (st:SortSt):gSE st st:=⟨rfl,rfl,rfl,rfl⟩
def gmLo:Array Keyed->Array Keyed->gSM (Array Keyed):=sortPriv% PySem.Builtin.mergeLo
def gmHi:Array Keyed->Array Keyed->gSM (Array Keyed):=sortPriv% PySem.Builtin.mergeHi
theorem qDA {l:List Keyed}{i:Nat}{x:Keyed}(h:l[i]?=some x):l.drop i=[x]++l.drop (i+1):=by
 obtain⟨a,e⟩:=A4.mp h;rw[J6 a,e]
 rfl
theorem qBY {a:Array Keyed}{i:Nat}(h:i<a.size):∃x,a[i]?=some x/\a.toList[i]?=some x/\x∈a.toList:=⟨a[i],B9 h,by simp[h],by simp⟩
theorem qAU (a:Array Keyed)(i j:Nat):(a.extract i j).toList=(a.toList.drop i).take (j-i):=by simp
theorem qGE {l:List Keyed}{i k:Nat}:l.drop i=(l.drop i).take k++l.drop (i+k):=by
 rw[<- p6,R8]
theorem qEQ {left:Bool}{b:Keyed}{a:Array Keyed}{base n:Nat}(m:base+n<=a.size)(u:(a.toList.drop base).Pairwise grUp):∀i j,i<=j->j<n->qAO left b a base j=true->qAO left b a base i=true:=by
 intro i j h k e;by_cases c:i=j
 ·subst c;exact e
 have f:base+j<a.size:=by omega
 have d:base+i<a.size:=by omega
 have l:gkv a[base+i]<=gkv a[base+j]:=by
  have:=G2.mp u i j (by simp;omega) (by simp;omega) (by omega)
  simpa using this
 unfold qAO at e ⊢;rw[B9 f] at e;rw[B9 d];cases left with
 |true=>
  have g:decide (gkv a[base+j]<gkv b)=true:=e;show decide (gkv a[base+i]<gkv b)=true;have:=of_decide_eq_true g;exact decide_eq_true (by omega)
 |false=>
  have g:decide (gkv a[base+j]<=gkv b)=true:=e;show decide (gkv a[base+i]<=gkv b)=true;have:=of_decide_eq_true g;exact decide_eq_true (by omega)
theorem qNO {b:Keyed}{a:Array Keyed}{base n k:Nat}(j:k<=n)(g:base+n<=a.size)(h:∀i,i<k->qAO true b a base i=true):∀x∈(a.toList.drop base).take k,gkv x<gkv b:=by
 intro x d;obtain⟨i,f,rfl⟩:=L5 d;simp only[C4,G7,C8] at f;have e:=h i (by omega)
 unfold qAO at e;rw[B9 (show base+i<a.size by omega)] at e
 have c:decide (gkv a[base+i]<gkv b)=true:=e;simpa using of_decide_eq_true c
theorem qNP {b:Keyed}{a:Array Keyed}{base n k:Nat}(j:k<=n)(g:base+n<=a.size)(h:∀i,i<k->qAO false b a base i=true):∀x∈(a.toList.drop base).take k,gkv x<=gkv b:=by
 intro x d;obtain⟨i,f,rfl⟩:=L5 d;simp only[C4,G7,C8] at f;have e:=h i (by omega)
 unfold qAO at e;rw[B9 (show base+i<a.size by omega)] at e
 have c:decide (gkv a[base+i]<=gkv b)=true:=e;simpa using of_decide_eq_true c
theorem qKZ {b:Keyed}{a:Array Keyed}{base n k:Nat}(g:base+n<=a.size)(h:∀i,k<=i->i<n->qAO true b a base i=false):∀x∈((a.toList.drop base).take n).drop k,gkv b<=gkv x:=by
 intro x d;obtain⟨i,f,rfl⟩:=L5 d;simp only[C4,G7,C8] at f;have e:=h (k+i) (by omega) (by omega)
 unfold qAO at e;rw[B9 (show base+(k+i)<a.size by omega)] at e
 have c:decide (gkv a[base+(k+i)]<gkv b)=false:=e;have:=of_decide_eq_false c;simp only[t8,t7,A22];omega
theorem qKY {b:Keyed}{a:Array Keyed}{base n k:Nat}(g:base+n<=a.size)(h:∀i,k<=i->i<n->qAO false b a base i=false):∀x∈((a.toList.drop base).take n).drop k,gkv b<gkv x:=by
 intro x d;obtain⟨i,f,rfl⟩:=L5 d;simp only[C4,G7,C8] at f;have e:=h (k+i) (by omega) (by omega)
 unfold qAO at e;rw[B9 (show base+(k+i)<a.size by omega)] at e
 have c:decide (gkv a[base+(k+i)]<=gkv b)=false:=e;have:=of_decide_eq_false c;simp only[t8,t7,A22];omega
end L2.G
namespace L2.G
open PySem PyProof.Rows
variable[NM]
theorem gifT {prog:B20}{w:World}{A:Around}{E:Value->Shared->Prop}{s:Shared}{α:Type}{c:Prop}[Decidable c]{x y:gSM α}{Q:α->SortSt->Prop}{st:SortSt}(h:c)(k:wpS (model prog w) A E s x Q st):wpS (model prog w) A E s (if c then x else y) Q st:=by rw[if_pos h];exact k
theorem gifF {prog:B20}{w:World}{A:Around}{E:Value->Shared->Prop}{s:Shared}{α:Type}{c:Prop}[Decidable c]{x y:gSM α}{Q:α->SortSt->Prop}{st:SortSt}(h:¬c)(k:wpS (model prog w) A E s y Q st):wpS (model prog w) A E s (if c then x else y) Q st:=by rw[if_neg h];exact k
theorem gtwo {α:Type}{A:Prop}{M G:α->Prop}(a:(∀o,M o->G o)->A)(b:∀o,M o->G o):A:=a b
section
variable{prog:B20}{w:World}{A:Around}{E:Value->Shared->Prop}{s:Shared}{κ0:B47}[LtOk prog w A s κ0]
theorem qX2 {st:SortSt}{a b:Array Keyed}{Q:Array Keyed->SortSt->Prop}(hk:kindOf st=κ0)(ka:∀x∈a.toList,gIK x)(kb:∀x∈b.toList,gIK x)(ua:a.toList.Pairwise grUp)(ub:b.toList.Pairwise grUp)(na:0<a.size)(nb:0<b.size)
  (first:∀y,b.toList[0]?=some y->∀x∈a.toList,gkv y<=gkv x) (a9:∀z,a.toList[a.size-1]?=some z->∀y∈b.toList,gkv y<=gkv z)
  (h:∀r st',gSE st st'->gRes (a.toList++b.toList) r.toList->Q r st'):wpS (model prog w) A E s (gmLo a b) Q st:=by
 have tl:(a.toList++b.toList).length=a.size+b.size:=by simp
 -- ways out
 have v:∀(out:Array Keyed) (ia:Nat),gMR grUp (a.toList++b.toList) out.toList (a.toList.drop ia) (b.toList.drop b.size)->gRes (a.toList++b.toList) (out++a.extract ia a.size++b.extract b.size b.size).toList:=by
  intro out ia m;have e:b.toList.drop b.size=[]:=Z7 (by simp)
  rw[e] at m;have q:=m.allA;have e2:(out++a.extract ia a.size++b.extract b.size b.size).toList=out.toList++a.toList.drop ia:=by
   rw[E1,E1,qAU,qAU,e,z8,Q9,C7 (by simp)]
  rw[e2];exact q
 have ab:∀(out:Array Keyed) (ib:Nat),gMR grUp (a.toList++b.toList) out.toList (a.toList.drop a.size) (b.toList.drop ib)->gRes (a.toList++b.toList) (out++a.extract a.size a.size++b.extract ib b.size).toList:=by
  intro out ib m;have e:a.toList.drop a.size=[]:=Z7 (by simp)
  rw[e] at m;have q:=m.allB;have e2:(out++a.extract a.size a.size++b.extract ib b.size).toList=out.toList++b.toList.drop ib:=by
   rw[E1,E1,qAU,qAU,e,z8,Q9,C7 (by simp)]
  rw[e2];exact q
 have t:∀(out:Array Keyed) (ia ib:Nat),ia+1=a.size->gMR grUp (a.toList++b.toList) out.toList (a.toList.drop ia) (b.toList.drop ib)->gRes (a.toList++b.toList) (out++b.extract ib b.size++a.extract ia a.size).toList:=by
  intro out ia ib ak m;obtain⟨z,_,hz,_⟩:=qBY (a:=a) (i:=ia) (by lia)
  have e:a.toList.drop ia=[z]:=by rw[qDA hz,Z7 (by simp;lia)];rfl
  rw[e] at m;have q:=m.lastA λy hy=>a9 z (by rw[show a.size-1=ia by lia];exact hz) y (T3 hy)
  have e2:(out++b.extract ib b.size++a.extract ia a.size).toList=out.toList++b.toList.drop ib++[z]:=by
   rw[E1,E1,qAU,qAU,e,C7 (by simp),C7 (by simp;lia)]
  rw[e2];exact q
 -- the first of b
 obtain⟨y0,ae,a4,_⟩:=qBY (a:=b) (i:=0) nb;have m0:gMR grUp (a.toList++b.toList) #[y0].toList (a.toList.drop 0) (b.toList.drop 1):=by
  have m:gMR grUp (a.toList++b.toList) [] a.toList ([y0]++b.toList.drop 1):=by
   rw[<- qDA a4];exact⟨.refl _,.nil,ua,ub,(λ_ z=>nomatch z),(λ_ z=>nomatch z)⟩
  exact m.takeB λx f y hy=>by rw[A6.mp f];exact first y0 a4 y hy
 -- a step of b,a step of a
 have a3:∀{out:Array Keyed} {ia ib:Nat} {y:Keyed},gMR grUp (a.toList++b.toList) out.toList (a.toList.drop ia) (b.toList.drop ib)->b.toList[ib]?=some y->(∀x∈a.toList.drop ia,gkv y<=gkv x)->gMR grUp (a.toList++b.toList) (out.push y).toList (a.toList.drop ia) (b.toList.drop (ib+1)):=by
  intro out ia ib y m hy c;rw[qDA hy] at m;rw[U1];exact m.takeB λx f z hz=>by rw[A6.mp f];exact c z hz
 have a2:∀{out:Array Keyed} {ia ib:Nat} {x:Keyed},gMR grUp (a.toList++b.toList) out.toList (a.toList.drop ia) (b.toList.drop ib)->a.toList[ia]?=some x->(∀y∈b.toList.drop ib,gkv x<=gkv y)->gMR grUp (a.toList++b.toList) (out.push x).toList (a.toList.drop (ia+1)) (b.toList.drop ib):=by
  intro out ia ib x m f c;rw[qDA f] at m;rw[U1];exact m.takeA λz hz y hy=>by rw[A6.mp hz];exact c y hy
 have d:∀{l:List Keyed} {i:Nat} {x:Keyed},l.Pairwise grUp->l[i]?=some x->∀y∈l.drop i,gkv x<=gkv y:=by
  intro l i x u f y hy;have u':=u.sublist (U0 i l);rw[qDA f] at u' hy;rcases A8.mp hy with hy|hy
  ·rw[A6.mp hy];exact P6 _
  ·exact(M7.mp u').2.2 x (by simp) y hy
 have aj:∀{out:Array Keyed} {ia ib:Nat},gMR grUp (a.toList++b.toList) out.toList (a.toList.drop ia) (b.toList.drop ib)->ia<a.size->ib<b.size->ia+ib<a.size+b.size:=λ_ _ _=>by lia
 unfold gmLo;show wpS _ _ _ _ (liftM (rule "list.sort.merge-lo") >>= _) _ _;refine B19 (wpS_lift (B56 ⟨rfl,?_⟩));refine B19 (qB8 ae ?_);dsimp only;by_cases a6:b.size=1
 ·refine gifT (by simp[a6]) ?_
  refine B21 (h _ _ (.refl st) ?_);have:=v #[y0] 0 (by rw[a6];exact m0)
  rw[a6] at this ⊢;exact this
 refine gifF (by simp;lia) ?_
 by_cases ag:a.size=1
 ·refine gifT (by simp[ag]) ?_
  exact B21 (h _ _ (.refl st) (t #[y0] 0 1 (by lia) m0))
 refine gifF (by simp;lia) ?_
 refine B19 (B63 ?_);refine B19 (B44 (B31
  (I:=λx c st'=>gSE st st'/\∃(out:Array Keyed) (ia ib mg:Nat),c=(none,out,ia,ib,mg)/\gMR grUp (a.toList++b.toList) out.toList (a.toList.drop ia) (b.toList.drop ib)/\ia+1<a.size/\ib<b.size/\x+1<=ia+ib)
  (Q:=λc st'=>gSE st st'/\∃r rest,c=(some r,rest)/\gRes (a.toList++b.toList) r.toList) ?ostep ?ofin ⟨.refl st,_,0,1,_,rfl,m0,by lia,by lia,by lia⟩) ?opost)
 case opost=>
  rintro c st' ⟨se,r,rest,rfl,hr⟩;exact B21 (h r st' se hr)
 case ofin=>
  rintro c st' ⟨se,out,ia,ib,mg,rfl,m,h1,h2,h3⟩
  lia
 case ostep=>
  rintro x c st1 _ f ⟨se,out,ia,ib,mg,rfl,m,h1,h2,h3⟩;dsimp only;refine B19 (B44 (B31
   (I:=λy c st'=>gSE st st'/\∃(out:Array Keyed) (ia' ib' ac bc:Nat),c=(none,out,ia',ib',ac,bc)/\gMR grUp (a.toList++b.toList) out.toList (a.toList.drop ia') (b.toList.drop ib')/\ia'+1<a.size/\ib'<b.size/\ia+ib+y<=ia'+ib')
   (Q:=λc st'=>gSE st st'/\((∃r rest,c=(some r,rest)/\gRes (a.toList++b.toList) r.toList)\/∃(out:Array Keyed) (ia' ib' ac bc:Nat),c=(none,out,ia',ib',ac,bc)/\gMR grUp (a.toList++b.toList) out.toList (a.toList.drop ia') (b.toList.drop ib')/\ia'+1<a.size/\ib'<b.size/\ia+ib+1<=ia'+ib')) ?istep ?ifin ⟨se,out,ia,ib,0,0,rfl,m,h1,h2,by lia⟩) ?ipost)
  case ifin=>
   rintro c st' ⟨se,out,ia',ib',ac,bc,rfl,m,g1,g2,g3⟩
   lia
  case istep=>
   rintro y c st' _ hy ⟨se,out,ia',ib',ac,bc,rfl,m,g1,g2,g3⟩;dsimp only;obtain⟨yb,e1,a0,mb⟩:=qBY (a:=b) (i:=ib') g2;obtain⟨xa,e2,a1,ma⟩:=qBY (a:=a) (i:=ia') (by lia)
   have ai:kindOf st'=κ0:=se.1.trans hk;refine B19 (qB8 e1 (B19 (qB8 e2 (B19 (qH3 ai (kb _ mb) (ka _ ma) ?_)))));dsimp only;by_cases hw:gkv yb<gkv xa
   ·rw[decide_eq_true hw,if_pos rfl];refine B19 (qB8 e1 ?_);have m':=a3 m a0 λx f=>by have:=d ua a1 x f;lia
    by_cases g:ib'+1=b.size
    ·refine gifT (by simp[g]) ?_
     refine B21 ⟨se,.inl ⟨_,_,rfl,?_⟩⟩;rw[g] at m' ⊢;exact v _ _ m'
    ·refine gifF (by simp;exact g) ?_
     split
     ·exact B21 ⟨se,.inr ⟨_,_,_,_,_,rfl,m',g1,by lia,by lia⟩⟩
     ·exact B21 ⟨se,_,_,_,_,_,rfl,m',g1,by lia,by lia⟩
   ·rw[decide_eq_false hw,if_neg B1];refine B19 (qB8 e2 ?_);have m':=a2 m a1 λy hy=>by have:=d ub a0 y hy;lia
    by_cases j:ia'+1+1=a.size
    ·refine gifT (by simp[j]) ?_
     exact B21 ⟨se,.inl ⟨_,_,rfl,t _ _ _ j m'⟩⟩
    ·refine gifF (by simp;exact j) ?_
     split
     ·exact B21 ⟨se,.inr ⟨_,_,_,_,_,rfl,m',by lia,g2,by lia⟩⟩
     ·exact B21 ⟨se,_,_,_,_,_,rfl,m',by lia,g2,by lia⟩
  case ipost=>
   rintro c st2 ⟨se,⟨r,rest,rfl,hr⟩|⟨out,ia1,ib1,ac,bc,rfl,m,g1,g2,g3⟩⟩
   ·exact B21 ⟨se,r,_,rfl,hr⟩
   dsimp only;refine B19 (wpS_lift (B56 ⟨rfl,?_⟩));refine B19 (B44 (B31
    (I:=λy c st'=>gSE st st'/\∃(out:Array Keyed) (ia' ib' mg ac bc:Nat),c=(none,out,ia',ib',mg,ac,bc)/\gMR grUp (a.toList++b.toList) out.toList (a.toList.drop ia') (b.toList.drop ib')/\ia'+1<a.size/\ib'<b.size/\ia1+ib1+y<=ia'+ib')
    (Q:=λc st'=>gSE st st'/\((∃r rest,c=(some r,rest)/\gRes (a.toList++b.toList) r.toList)\/∃(out:Array Keyed) (ia' ib' mg ac bc:Nat),c=(none,out,ia',ib',mg,ac,bc)/\gMR grUp (a.toList++b.toList) out.toList (a.toList.drop ia') (b.toList.drop ib')/\ia'+1<a.size/\ib'<b.size/\ia1+ib1<=ia'+ib')) ?gstep ?gfin ⟨se,out,ia1,ib1,_,ac,bc,rfl,m,g1,g2,by lia⟩) ?gpost)
   case gfin=>
    rintro c st' ⟨se,out,ia',ib',mg,ac,bc,rfl,m,q1,q2,q3⟩
    lia
   case gpost=>
    rintro c st3 ⟨se,⟨r,rest,rfl,hr⟩|⟨out,ia',ib',mg,ac,bc,rfl,m,q1,q2,q3⟩⟩
    ·exact B21 ⟨se,r,_,rfl,hr⟩
    dsimp only;refine B19 (B34 (B21 ?_));exact⟨⟨se.1,se.2.1,se.2.2.1,se.2.2.2⟩,out,ia',ib',_,rfl,m,q1,q2,by lia⟩
   case gstep=>
    rintro y c st0 _ hy ⟨se,out,ia',ib',mg,ac,bc,rfl,m,q1,q2,q3⟩;dsimp only;obtain⟨yb,e1,a0,mb⟩:=qBY (a:=b) (i:=ib') q2;have hm:b.toList.drop ib'=[yb]++b.toList.drop (ib'+1):=qDA a0;apply gtwo (α:=Nat) (M:=λ_=>True)
    ·intro J;by_cases aa:mg>1
     ·refine gifT aa ?_;refine B19 (B34 ?_);generalize mg-1=n;exact J n trivial
     ·refine gifF aa ?_;refine B19 (B34 ?_);generalize mg=n;exact J n trivial
    ·intro n _;have p:gSE st st0:=se;refine B19 (qB8 e1 ?_);refine B19 (qFZ (left:=false) (n:=a.size-ia') (hint:=0) (se.1.trans hk) (kb _ mb) ka (by lia) (by lia) (qEQ (by lia) (ua.sublist (U0 _ _))) λk k1 k2 k3=>?_)
     dsimp only;have ad:∀x∈a.toList.drop (ia'+k),gkv yb<=gkv x:=λx f=>by
      have q:=qKY (base:=ia') (n:=a.size-ia') (by lia) k3 x
      rw[C7 (by simp),p6] at q
      exact n6 (q f)
     apply gtwo (α:=Array Keyed) (M:=λo=>gMR grUp (a.toList++b.toList) o.toList (a.toList.drop (ia'+k)) (b.toList.drop ib')/\ia'+k+1<a.size)
     ·intro J;by_cases k0:k>0
      ·refine gifT k0 ?_;have mk:gMR grUp (a.toList++b.toList) (out++a.extract ia' (ia'+k)).toList (a.toList.drop (ia'+k)) (b.toList.drop ib'):=by
        rw[E1,qAU,show ia'+k-ia'=k by lia]
        rw[qGE (l:=a.toList) (i:=ia') (k:=k)] at m;exact m.takeA λx f z hz=>by
         have q1:=qNP k1 (by lia) k2 x f
         have q2:=d ub a0 z hz;show gkv x<=gkv z
         lia
       by_cases c1:ia'+k+1=a.size
       ·refine gifT (by simp[c1]) ?_
        exact B21 ⟨p,.inl ⟨_,_,rfl,t _ _ _ c1 mk⟩⟩
       refine gifF (by simp;exact c1) ?_
       by_cases c2:ia'+k=a.size
       ·refine gifT (by simp[c2]) ?_
        refine B21 ⟨p,.inl ⟨_,_,rfl,?_⟩⟩;rw[c2] at mk ⊢;exact ab _ _ mk
       refine gifF (by simp;exact c2) ?_
       generalize out++a.extract ia' (ia'+k)=o at mk ⊢;exact J o ⟨mk,by lia⟩
      ·refine gifF k0 ?_;have af:k=0:=by lia
       subst af;exact J out ⟨m,by lia⟩
     ·rintro o ⟨mk,kp⟩;refine B19 (qB8 e1 ?_);have m1:=a3 mk a0 ad;by_cases g:ib'+1=b.size
      ·refine gifT (by simp[g]) ?_
       refine B21 ⟨p,.inl ⟨_,_,rfl,?_⟩⟩;rw[g] at m1 ⊢;exact v _ _ m1
      refine gifF (by simp;exact g) ?_
      obtain⟨xa,e2,a1,ma⟩:=qBY (a:=a) (i:=ia'+k) (by lia)
      refine B19 (qB8 e2 ?_);refine B19 (qFZ (left:=true) (n:=b.size-(ib'+1)) (hint:=0) (se.1.trans hk) (ka _ ma) kb (by lia) (by lia) (qEQ (by lia) (ub.sublist (U0 _ _))) λk' j1 j2 j3=>?_)
      dsimp only;have ah:∀y∈b.toList.drop (ib'+1+k'),gkv xa<=gkv y:=λy hy=>by
       have q:=qKZ (base:=ib'+1) (n:=b.size-(ib'+1)) (by lia) j3 y
       rw[C7 (by simp),p6] at q
       exact q hy
      generalize o.push yb=o1 at m1 ⊢;apply gtwo (α:=Array Keyed) (M:=λo=>gMR grUp (a.toList++b.toList) o.toList (a.toList.drop (ia'+k)) (b.toList.drop (ib'+1+k'))/\ib'+1+k'<b.size)
      ·intro J;by_cases a7:k'>0
       ·rw[if_pos a7];have m2:gMR grUp (a.toList++b.toList) (o1++b.extract (ib'+1) (ib'+1+k')).toList (a.toList.drop (ia'+k)) (b.toList.drop (ib'+1+k')):=by
         rw[E1,qAU,show ib'+1+k'-(ib'+1)=k' by lia]
         rw[qGE (l:=b.toList) (i:=ib'+1) (k:=k')] at m1;exact m1.takeB λx f z hz=>by
          have q1:=qNO j1 (by lia) j2 x f
          have q2:=d ua a1 z hz;show gkv x<=gkv z
          lia
        by_cases a5:ib'+1+k'=b.size
        ·refine gifT (by simp[a5]) ?_
         refine B21 ⟨p,.inl ⟨_,_,rfl,?_⟩⟩;rw[a5] at m2 ⊢;exact v _ _ m2
        refine gifF (by simp;exact a5) ?_
        generalize o1++b.extract (ib'+1) (ib'+1+k')=o2 at m2 ⊢;exact J o2 ⟨m2,by lia⟩
       ·rw[if_neg a7];have a8:k'=0:=by lia
        subst a8;exact J o1 ⟨m1,by lia⟩
      ·rintro o2 ⟨m2,kp'⟩;refine B19 (qB8 e2 ?_);have m3:=a2 m2 a1 ah;by_cases j:ia'+k+1+1=a.size
       ·refine gifT (by simp[j]) ?_
        exact B21 ⟨p,.inl ⟨_,_,rfl,t _ _ _ j m3⟩⟩
       refine gifF (by simp;exact j) ?_
       split
       ·exact B21 ⟨p,.inr ⟨_,_,_,_,_,_,rfl,m3,by lia,by lia,by lia⟩⟩
       ·exact B21 ⟨p,_,_,_,_,_,_,rfl,m3,by lia,by lia,by lia⟩
end
end L2.G
namespace L2.G
open PySem PyProof.Rows
variable[NM]
theorem qDK {l:List Keyed}{i:Nat}{x:Keyed}(b:0<i)(h:l[i-1]?=some x):(l.take i).reverse=[x]++(l.take (i-1)).reverse:=by
 obtain⟨j,rfl⟩:∃j,i=j+1:=⟨i-1,by lia⟩
 have a:l[j]?=some x:=h;rw[C5,a,C6,U8]
 rfl
theorem qJR {l:List Keyed}{i j:Nat}(h:i<=j):(l.take j).reverse=((l.drop i).take (j-i)).reverse++(l.take i).reverse:=by
 rw[<- U8];congr 1;have e:=B02 (l:=l) (i:=i) (j:=j-i);rw[show i+(j-i)=j by lia] at e
 exact e
section
variable{prog:B20}{w:World}{A:Around}{E:Value->Shared->Prop}{s:Shared}{κ0:B47}[LtOk prog w A s κ0]
theorem qX3 {st:SortSt}{a b:Array Keyed}{Q:Array Keyed->SortSt->Prop}(hk:kindOf st=κ0)(ka:∀x∈a.toList,gIK x)(kb:∀x∈b.toList,gIK x)(ua:a.toList.Pairwise grUp)(ub:b.toList.Pairwise grUp)(na:0<a.size)(nb:0<b.size)
  (first:∀y,b.toList[0]?=some y->∀x∈a.toList,gkv y<=gkv x) (ah:∀z,a.toList[a.size-1]?=some z->∀y∈b.toList,gkv y<=gkv z)
  (h:∀r st',gSE st st'->gRes (a.toList++b.toList) r.toList->Q r st'):wpS (model prog w) A E s (gmHi a b) Q st:=by
 have a0:∀{l:List Keyed},l.Perm (a.toList++b.toList)/\l.Pairwise grDn->gRes (a.toList++b.toList) l.reverse:=λ{l} q=>⟨(u8 l).trans q.1,W2.mpr q.2⟩;have t:∀(out:Array Keyed) (nb':Nat),gMR grDn (a.toList++b.toList) out.toList (a.toList.take 0).reverse (b.toList.take nb').reverse->gRes (a.toList++b.toList) (a.extract 0 0++b.extract 0 nb'++out.reverse).toList:=by
  intro out nb' m;have q:=a0 (gMR.allB m);have e2:(a.extract 0 0++b.extract 0 nb'++out.reverse).toList=(out.toList++(b.toList.take nb').reverse).reverse:=by
   rw[E1,E1,qAU,qAU,T4,U8,A23];simp
  rw[e2];exact q
 have af:∀(out:Array Keyed) (na':Nat),gMR grDn (a.toList++b.toList) out.toList (a.toList.take na').reverse (b.toList.take 0).reverse->gRes (a.toList++b.toList) (a.extract 0 na'++b.extract 0 0++out.reverse).toList:=by
  intro out na' m;have q:=a0 (gMR.allA m);have e2:(a.extract 0 na'++b.extract 0 0++out.reverse).toList=(out.toList++(a.toList.take na').reverse).reverse:=by
   rw[E1,E1,qAU,qAU,T4,U8,A23];simp
  rw[e2];exact q
 obtain⟨y0,ao,aa,_⟩:=qBY (a:=b) (i:=0) nb;have g:∀(out:Array Keyed) (na':Nat),gMR grDn (a.toList++b.toList) out.toList (a.toList.take na').reverse (b.toList.take 1).reverse->gRes (a.toList++b.toList) (b.extract 0 1++a.extract 0 na'++out.reverse).toList:=by
  intro out na' m;have e:(b.toList.take 1).reverse=[y0]:=by rw[qDK (by decide) aa];simp
  rw[e] at m;have q:=a0 (m.symm.lastA λy hy=>first y0 aa y (P1 (i8.mp hy)));have e1:b.toList.take 1=[y0]:=by have:=congrArg List.reverse e;simpa using this
  have e2:(b.extract 0 1++a.extract 0 na'++out.reverse).toList=(out.toList++(a.toList.take na').reverse++[y0]).reverse:=by
   rw[E1,E1,qAU,qAU,T4];simp only[p8,A65,e1];simp
  rw[e2];exact q
 obtain⟨z0,aj,a9,_⟩:=qBY (a:=a) (i:=a.size-1) (by lia)
 have m0:gMR grDn (a.toList++b.toList) #[z0].toList (a.toList.take (a.size-1)).reverse (b.toList.take b.size).reverse:=by
  have m:gMR grDn (a.toList++b.toList) [] ([z0]++(a.toList.take (a.size-1)).reverse) (b.toList.take b.size).reverse:=by
   rw[<- qDK na a9,C7 (by simp),C7 (by simp)]
   refine⟨?_,.nil,W2.mpr ua,W2.mpr ub,(λ_ z=>nomatch z),(λ_ z=>nomatch z)⟩;exact(u8 _).append (u8 _)
  exact m.takeA λx f y hy=>by rw[A6.mp f];exact ah z0 a9 y (P1 (i8.mp hy))
 have a4:∀{out:Array Keyed} {na' nb':Nat} {y:Keyed},gMR grDn (a.toList++b.toList) out.toList (a.toList.take na').reverse (b.toList.take nb').reverse->0<nb'->b.toList[nb'-1]?=some y->(∀x∈(a.toList.take na').reverse,gkv x<=gkv y)->gMR grDn (a.toList++b.toList) (out.push y).toList (a.toList.take na').reverse (b.toList.take (nb'-1)).reverse:=by
  intro out na' nb' y m h0 hy c;rw[qDK h0 hy] at m;rw[U1];exact m.takeB λx f z hz=>by rw[A6.mp f];exact c z hz
 have a3:∀{out:Array Keyed} {na' nb':Nat} {x:Keyed},gMR grDn (a.toList++b.toList) out.toList (a.toList.take na').reverse (b.toList.take nb').reverse->0<na'->a.toList[na'-1]?=some x->(∀y∈(b.toList.take nb').reverse,gkv y<=gkv x)->gMR grDn (a.toList++b.toList) (out.push x).toList (a.toList.take (na'-1)).reverse (b.toList.take nb').reverse:=by
  intro out na' nb' x m h0 f c;rw[qDK h0 f] at m;rw[U1];exact m.takeA λz hz y hy=>by rw[A6.mp hz];exact c y hy
 have p:∀{l:List Keyed} {i:Nat} {x:Keyed},l.Pairwise grUp->0<i->l[i-1]?=some x->∀y∈(l.take i).reverse,gkv y<=gkv x:=by
  intro l i x u h0 f y hy;have u':((l.take i).reverse).Pairwise grDn:=W2.mpr (u.sublist (T6 i l));rw[qDK h0 f] at u' hy;rcases A8.mp hy with hy|hy
  ·rw[A6.mp hy];exact P6 _
  ·exact(M7.mp u').2.2 x (by simp) y hy
 unfold gmHi;show wpS _ _ _ _ (liftM (rule "list.sort.merge-hi") >>= _) _ _;refine B19 (wpS_lift (B56 ⟨rfl,?_⟩));refine B19 (qB8 aj ?_);dsimp only;by_cases ag:a.size-1=0
 ·refine gifT (by simp[ag]) ?_
  refine B21 (h _ _ (.refl st) ?_);rw[ag] at m0 ⊢;exact t _ _ m0
 refine gifF (by simp;lia) ?_
 by_cases ae:b.size=1
 ·refine gifT (by simp[ae]) ?_
  refine B21 (h _ _ (.refl st) ?_);rw[ae] at m0 ⊢;exact g _ _ m0
 refine gifF (by simp;lia) ?_
 refine B19 (B63 ?_);refine B19 (B44 (B31
  (I:=λx c st'=>gSE st st'/\∃(na' nb':Nat) (out:Array Keyed) (mg:Nat),c=(none,na',nb',out,mg)/\gMR grDn (a.toList++b.toList) out.toList (a.toList.take na').reverse (b.toList.take nb').reverse/\(0<na'/\na'<=a.size)/\(1<nb'/\nb'<=b.size)/\na'+nb'+x+1<=a.size+b.size)
  (Q:=λc st'=>gSE st st'/\∃r rest,c=(some r,rest)/\gRes (a.toList++b.toList) r.toList) ?ostep ?ofin ⟨.refl st,_,_,_,_,rfl,m0,by lia,by lia,by lia⟩) ?opost)
 case opost=>
  rintro c st' ⟨se,r,rest,rfl,hr⟩;exact B21 (h r st' se hr)
 case ofin=>
  rintro c st' ⟨se,na',nb',out,mg,rfl,m,h1,h2,h3⟩
  lia
 case ostep=>
  rintro x c st1 _ f ⟨se,na1,nb1,out,mg,rfl,m,h1,h2,h3⟩;dsimp only;refine B19 (B44 (B31
   (I:=λy c st'=>gSE st st'/\∃(na' nb':Nat) (out:Array Keyed) (ac bc:Nat),c=(none,na',nb',out,ac,bc)/\gMR grDn (a.toList++b.toList) out.toList (a.toList.take na').reverse (b.toList.take nb').reverse/\(0<na'/\na'<=a.size)/\(1<nb'/\nb'<=b.size)/\na'+nb'+y<=na1+nb1)
   (Q:=λc st'=>gSE st st'/\((∃r rest,c=(some r,rest)/\gRes (a.toList++b.toList) r.toList)\/∃(na' nb':Nat) (out:Array Keyed) (ac bc:Nat),c=(none,na',nb',out,ac,bc)/\gMR grDn (a.toList++b.toList) out.toList (a.toList.take na').reverse (b.toList.take nb').reverse/\(0<na'/\na'<=a.size)/\(1<nb'/\nb'<=b.size)/\na'+nb'+1<=na1+nb1)) ?istep ?ifin ⟨se,na1,nb1,out,0,0,rfl,m,h1,h2,by lia⟩) ?ipost)
  case ifin=>
   rintro c st' ⟨se,na',nb',out,ac,bc,rfl,m,g1,g2,g3⟩
   lia
  case istep=>
   rintro y c st' _ hy ⟨se,na',nb',out,ac,bc,rfl,m,g1,g2,g3⟩;dsimp only;obtain⟨yb,e1,a1,mb⟩:=qBY (a:=b) (i:=nb'-1) (by lia)
   obtain⟨xa,e2,a2,ma⟩:=qBY (a:=a) (i:=na'-1) (by lia)
   have an:kindOf st'=κ0:=se.1.trans hk;refine B19 (qB8 e1 (B19 (qB8 e2 (B19 (qH3 an (kb _ mb) (ka _ ma) ?_)))));dsimp only;by_cases hw:gkv yb<gkv xa
   ·rw[decide_eq_true hw,if_pos rfl];refine B19 (qB8 e2 ?_);have m':=a3 m (by lia) a2 λz hz=>by have:=p ub (by lia) a1 z hz;lia
    by_cases a7:na'-1=0
    ·refine gifT (by simp[a7]) ?_
     refine B21 ⟨se,.inl ⟨_,_,rfl,?_⟩⟩;rw[a7] at m' ⊢;exact t _ _ m'
    ·refine gifF (by simp;lia) ?_
     split
     ·exact B21 ⟨se,.inr ⟨_,_,_,_,_,rfl,m',by lia,by lia,by lia⟩⟩
     ·exact B21 ⟨se,_,_,_,_,_,rfl,m',by lia,by lia,by lia⟩
   ·rw[decide_eq_false hw,if_neg B1];refine B19 (qB8 e1 ?_);have m':=a4 m (by lia) a1 λz hz=>by have:=p ua (by lia) a2 z hz;lia
    by_cases a5:nb'-1=1
    ·refine gifT (by simp[a5]) ?_
     refine B21 ⟨se,.inl ⟨_,_,rfl,?_⟩⟩;rw[a5] at m' ⊢;exact g _ _ m'
    ·refine gifF (by simp;lia) ?_
     split
     ·exact B21 ⟨se,.inr ⟨_,_,_,_,_,rfl,m',by lia,by lia,by lia⟩⟩
     ·exact B21 ⟨se,_,_,_,_,_,rfl,m',by lia,by lia,by lia⟩
  case ipost=>
   rintro c st2 ⟨se,⟨r,rest,rfl,hr⟩|⟨na2,nb2,out,ac,bc,rfl,m,g1,g2,g3⟩⟩
   ·exact B21 ⟨se,r,_,rfl,hr⟩
   dsimp only;refine B19 (wpS_lift (B56 ⟨rfl,?_⟩));refine B19 (B44 (B31
    (I:=λy c st'=>gSE st st'/\∃(na' nb':Nat) (out:Array Keyed) (mg ac bc:Nat),c=(none,na',nb',out,mg,ac,bc)/\gMR grDn (a.toList++b.toList) out.toList (a.toList.take na').reverse (b.toList.take nb').reverse/\(0<na'/\na'<=a.size)/\(1<nb'/\nb'<=b.size)/\na'+nb'+y<=na2+nb2)
    (Q:=λc st'=>gSE st st'/\((∃r rest,c=(some r,rest)/\gRes (a.toList++b.toList) r.toList)\/∃(na' nb':Nat) (out:Array Keyed) (mg ac bc:Nat),c=(none,na',nb',out,mg,ac,bc)/\gMR grDn (a.toList++b.toList) out.toList (a.toList.take na').reverse (b.toList.take nb').reverse/\(0<na'/\na'<=a.size)/\(1<nb'/\nb'<=b.size)/\na'+nb'<=na2+nb2)) ?gstep ?gfin ⟨se,na2,nb2,out,_,ac,bc,rfl,m,g1,g2,by lia⟩) ?gpost)
   case gfin=>
    rintro c st' ⟨se,na',nb',out,mg,ac,bc,rfl,m,q1,q2,q3⟩
    lia
   case gpost=>
    rintro c st3 ⟨se,⟨r,rest,rfl,hr⟩|⟨na',nb',out,mg,ac,bc,rfl,m,q1,q2,q3⟩⟩
    ·exact B21 ⟨se,r,_,rfl,hr⟩
    dsimp only;refine B19 (B34 (B21 ?_));exact⟨⟨se.1,se.2.1,se.2.2.1,se.2.2.2⟩,na',nb',out,_,rfl,m,q1,q2,by lia⟩
   case gstep=>
    rintro y c st0 _ hy ⟨se,na',nb',out,mg,ac,bc,rfl,m,q1,q2,q3⟩;dsimp only;obtain⟨yb,e1,a1,mb⟩:=qBY (a:=b) (i:=nb'-1) (by lia)
    apply gtwo (α:=Nat) (M:=λ_=>True)
    ·intro J;by_cases ai:mg>1
     ·refine gifT ai ?_;refine B19 (B34 ?_);generalize mg-1=n;exact J n trivial
     ·refine gifF ai ?_;refine B19 (B34 ?_);generalize mg=n;exact J n trivial
    ·intro n _;have d:gSE st st0:=se;refine B19 (qB8 e1 ?_);refine B19 (qFZ (left:=false) (base:=0) (n:=na') (hint:=na'-1) (se.1.trans hk) (kb _ mb) ka (by lia) (by lia) (qEQ (by lia) ua) λk k1 k2 k3=>?_)
     dsimp only;have am:∀x∈(a.toList.take k).reverse,gkv x<=gkv yb:=λx f=>qNP (base:=0) k1 (by lia) k2 x (by simpa using f)
     apply gtwo (α:=Array Keyed) (M:=λo=>gMR grDn (a.toList++b.toList) o.toList (a.toList.take k).reverse (b.toList.take nb').reverse/\0<k)
     ·intro J;by_cases k0:na'-k>0
      ·refine gifT k0 ?_;have mk:gMR grDn (a.toList++b.toList) (out++(a.extract k na').reverse).toList (a.toList.take k).reverse (b.toList.take nb').reverse:=by
        rw[E1,T4,qAU];rw[qJR (l:=a.toList) (i:=k) (j:=na') (by lia)] at m
        exact m.takeA λx f z hz=>by
         have q1:=qKY (base:=0) (n:=na') (by lia) k3 x (by rw[p8,A88];exact i8.mp f)
         have q2:=p ub (by lia) a1 z hz
         show gkv z<=gkv x
         lia
       by_cases c1:k=0
       ·refine gifT (by simp[c1]) ?_
        refine B21 ⟨d,.inl ⟨_,_,rfl,?_⟩⟩;subst c1;exact t _ _ mk
       refine gifF (by simp;exact c1) ?_
       generalize out++(a.extract k na').reverse=o at mk ⊢;exact J o ⟨mk,by lia⟩
      ·refine gifF k0 ?_;have ak:k=na':=by lia
       subst ak;exact J out ⟨m,by lia⟩
     ·rintro o ⟨mk,kp⟩;refine B19 (qB8 e1 ?_);have m1:=a4 mk (by lia) a1 am
      by_cases a5:nb'-1=1
      ·refine gifT (by simp[a5]) ?_
       refine B21 ⟨d,.inl ⟨_,_,rfl,?_⟩⟩;rw[a5] at m1 ⊢;exact g _ _ m1
      refine gifF (by simp;lia) ?_
      obtain⟨xa,e2,a2,ma⟩:=qBY (a:=a) (i:=k-1) (by lia)
      refine B19 (qB8 e2 ?_);refine B19 (qFZ (left:=true) (base:=0) (n:=nb'-1) (hint:=nb'-1-1) (se.1.trans hk) (ka _ ma) kb (by lia) (by lia) (qEQ (by lia) ub) λv j1 j2 j3=>?_)
      dsimp only;have al:∀y∈(b.toList.take v).reverse,gkv y<=gkv xa:=λy hy=>by
       have q:=qNO (base:=0) j1 (by lia) j2 y (by simpa using hy)
       lia
      generalize o.push yb=o1 at m1 ⊢;apply gtwo (α:=Array Keyed) (M:=λo=>gMR grDn (a.toList++b.toList) o.toList (a.toList.take k).reverse (b.toList.take v).reverse/\1<v)
      ·intro J;by_cases ab:nb'-1-v>0
       ·rw[if_pos ab];have m2:gMR grDn (a.toList++b.toList) (o1++(b.extract v (nb'-1)).reverse).toList (a.toList.take (k)).reverse (b.toList.take v).reverse:=by
         rw[E1,T4,qAU];rw[qJR (l:=b.toList) (i:=v) (j:=nb'-1) (by lia)] at m1
         exact m1.takeB λx f z hz=>by
          have q1:=qKZ (base:=0) (n:=nb'-1) (by lia) j3 x (by rw[p8,A88];exact i8.mp f)
          have q2:=p ua (by lia) a2 z hz
          show gkv z<=gkv x
          lia
        by_cases a8:v=1
        ·refine gifT (by simp[a8]) ?_
         refine B21 ⟨d,.inl ⟨_,_,rfl,?_⟩⟩;subst a8;exact g _ _ m2
        refine gifF (by simp;exact a8) ?_
        by_cases a6:v=0
        ·refine gifT (by simp[a6]) ?_
         refine B21 ⟨d,.inl ⟨_,_,rfl,?_⟩⟩;subst a6;exact af _ _ m2
        refine gifF (by simp;exact a6) ?_
        generalize o1++(b.extract v (nb'-1)).reverse=o2 at m2 ⊢;exact J o2 ⟨m2,by lia⟩
       ·rw[if_neg ab];have ad:v=nb'-1:=by lia
        subst ad;exact J o1 ⟨m1,by lia⟩
      ·rintro o2 ⟨m2,kp'⟩;refine B19 (qB8 e2 ?_);have m3:=a3 m2 (by lia) a2 al
       by_cases a7:k-1=0
       ·refine gifT (by simp[a7]) ?_
        refine B21 ⟨d,.inl ⟨_,_,rfl,?_⟩⟩;rw[a7] at m3 ⊢;exact t _ _ m3
       refine gifF (by simp;lia) ?_
       split
       ·exact B21 ⟨d,.inr ⟨_,_,_,_,_,_,rfl,m3,by lia,by lia,by lia⟩⟩
       ·exact B21 ⟨d,_,_,_,_,_,_,rfl,m3,by lia,by lia,by lia⟩
end
end L2.G
namespace L2.G
open PySem PyProof.Rows
variable[NM]
theorem qNN (b:Nat):∀(r:List Keyed) (k:Nat) (xs:Array Keyed),b+k+r.length<=xs.size->((r.zipIdx k).foldl (λa (p:Keyed×Nat)=>a.setIfInBounds (b+p.2) p.1) xs).toList=xs.toList.take (b+k)++r++xs.toList.drop (b+k+r.length)
 |[],k,xs,_=>by simp
 |p::r,k,xs,h=>by
  have hl:b+k<xs.toList.length:=by simp at h ⊢;lia
  rw[List.zipIdx_cons,V7,qNN b r (k+1) _ (by simp at h ⊢;lia)]
  simp only[m7,D6];have e1:(xs.toList.set (b+k) p).take (b+(k+1))=xs.toList.take (b+k)++[p]:=by
   rw[<- A45,C5,List.take_set_of_le (A7 _),V3 hl]
   rfl
  have e2:(xs.toList.set (b+k) p).drop (b+(k+1)+r.length)=xs.toList.drop (b+k+(r.length+1)):=by
   rw[List.drop_set_of_lt (by lia)]
   congr 1
   lia
  rw[e1,e2];simp
def gSeg (xs:Array Keyed)(lo hi:Nat):Prop:=∀i j,lo<=i->i<=j->j<hi->gK xs i<=gK xs j
theorem qUS {xs:Array Keyed}{i:Nat}(h:i<xs.size):gK xs i=gkv (xs[i]'h):=qZY h
theorem qJT {xs:Array Keyed}{i:Nat}{x:Keyed}(h:xs[i]?=some x):gK xs i=gkv x:=by
 unfold gK;rw[h]
 rfl
theorem qH5 {left:Bool}{b:Keyed}{a:Array Keyed}{base i:Nat}(h:base+i<a.size):qAO left b a base i=if left=true then decide (gK a (base+i)<gkv b) else decide (gK a (base+i)<=gkv b):=by
 unfold qAO;rw[B9 h,qUS h]
theorem qI3 {left:Bool}{b:Keyed}{a:Array Keyed}{base n:Nat}(g:base+n<=a.size)(u:gSeg a base (base+n)):∀i j,i<=j->j<n->qAO left b a base j=true->qAO left b a base i=true:=by
 intro i j c d e;have f:=u (base+i) (base+j) (by lia) (by lia) (by lia)
 rw[qH5 (by lia)] at e ⊢
 cases left with
 |true=>
  have:=of_decide_eq_true e;exact decide_eq_true (by lia)
 |false=>
  have:=of_decide_eq_true e;exact decide_eq_true (by lia)
theorem qNK {xs:Array Keyed}{lo hi:Nat}(h:hi<=xs.size)(u:gSeg xs lo hi):(xs.extract lo hi).toList.Pairwise grUp:=by
 rw[G2];intro i j a b c;have e:(xs.extract lo hi).size=hi-lo:=by simp;lia
 have f:i<hi-lo:=by simp at a;lia
 have d:j<hi-lo:=by simp at b;lia
 have:=u (lo+i) (lo+j) (by lia) (by lia) (by lia)
 rw[qUS (by lia),qUS (by lia)] at this
 simpa using this
theorem qG0 {xs:Array Keyed}{lo hi:Nat}{x:Keyed}(m:x∈(xs.extract lo hi).toList):∃j,lo<=j/\j<hi/\j<xs.size/\gK xs j=gkv x:=by
 obtain⟨i,a,e⟩:=L5 m;have b:i<hi-lo/\i<xs.size-lo:=by simp at a;lia
 refine⟨lo+i,by lia,by lia,by lia,?_⟩
 rw[qUS (by lia),<- e]
 simp
theorem qUR {xs:Array Keyed}{lo hi i:Nat}{x:Keyed}(m:(xs.extract lo hi).toList[i]?=some x):gK xs (lo+i)=gkv x:=by
 obtain⟨a,e⟩:=A4.mp m;have b:i<hi-lo/\i<xs.size-lo:=by simp at a;lia
 rw[qUS (by lia),<- e]
 simp
theorem qc4 {xs a:Array Keyed}{b:Nat}{r:List Keyed}(e:a.toList=xs.toList.take b++r++xs.toList.drop (b+r.length))(d:b+r.length<=xs.size)(j:Nat):
  (j<b\/b+r.length<=j->gK a j=gK xs j)/\(b<=j->j<b+r.length->∃x,r[j-b]?=some x/\gK a j=gkv x):=by
 have c:(xs.toList.take b).length=b:=by simp;lia
 constructor
 ·intro hj;apply qG1;rw[<- E5,<- E5,e,P5];rcases hj with hj|hj
  ·rw[G6 (by lia),Q2 hj]
  ·rw[F4 (by lia),c,F4 (by lia),A46]
   congr 1
   lia
 ·intro g f;refine⟨r[j-b]'(by lia),A3 _,qJT ?_⟩
  rw[<- E5,e,P5,F4 (by lia),c,G6 (by lia)]
  exact A3 _
section
variable{prog:B20}{w:World}{A:Around}{E:Value->Shared->Prop}{s:Shared}{κ0:B47}[LtOk prog w A s κ0]
theorem qX1 {st a:SortSt}{Q:PUnit->SortSt->Prop}(h:Q ⟨⟩ a):wpS (model prog w) A E s (set a:StateT SortSt Sem PUnit) Q st:=by
 unfold wpS;rw[StateT.run_set];exact B17 ⟨rfl,h⟩
structure gSG (κ0:B47)(a₀:Array Keyed)(st:SortSt):Prop where
 perm:(arrOf st).Perm a₀
 kind:kindOf st=κ0
 failed:failedOf st=none
theorem gSG.size {a₀:Array Keyed}{st:SortSt}(h:gSG κ0 a₀ st):(arrOf st).size=a₀.size:=h.perm.size_eq
theorem gSG.ik {a₀:Array Keyed}{st:SortSt}(h:gSG κ0 a₀ st)(b:qC2 a₀):∀x∈(arrOf st).toList,gIK x:=λx a=>b x ((W7.mp h.perm).mem_iff.mp a)
theorem qX4 {a₀:Array Keyed}{st:SortSt}{i b d p t q:Nat}{o u:List (Nat×Nat×Nat)}{Q:Bool->SortSt->Prop}(h0:qC2 a₀)(g:gSG κ0 a₀ st)
  (hp:(B22 st).toList=o++(b,d,p)::(b+d,t,q)::u) (hi:i=o.length) (ae:0<d) (ah:0<t) (hsz:b+d+t<=a₀.size)
  (ua:gSeg (arrOf st) b (b+d)) (ub:gSeg (arrOf st) (b+d) (b+d+t))
  (h:∀st',gSG κ0 a₀ st'->(B22 st').toList=o++(b,d+t,p)::u->gSeg (arrOf st') b (b+d+t)->(∀k,k<b\/b+d+t<=k->gK (arrOf st') k=gK (arrOf st) k)->Q true st'):
  wpS (model prog w) A E s (mergeAt' i) Q st:=by
 have p1:(B22 st)[i]?=some (b,d,p):=by
  rw[<- E5,hp,hi,F4 (A7 _),A10]
  rfl
 have p2:(B22 st)[i+1]?=some (b+d,t,q):=by
  rw[<- E5,hp,hi,F4 (by lia),show o.length+1-o.length=1 by lia]
  rfl
 have p3:(((B22 st).setIfInBounds i (b,d+t,p)).eraseIdxIfInBounds (i+1)).toList=o++(b,d+t,p)::u:=by
  rw[Array.toList_eraseIdxIfInBounds,m7,hp,hi];rw[List.set_append_right _ _ (A7 _),A10,List.eraseIdx_append_of_length_le (by lia),show o.length+1-o.length=1 by lia]
  rfl
 have size:=g.size;have ik:=g.ik h0;unfold mergeAt';refine B19 (B63 ?_);dsimp only;rw[p1,p2];dsimp only;obtain⟨kb,a9,_,ac⟩:=qBY (a:=arrOf st) (i:=b+d) (by lia)
 have af:gK (arrOf st) (b+d)=gkv kb:=qJT a9;refine B19 (qX1 (B19 (qB8 a9 ?_)));have g1:gSG κ0 a₀ (setPending st (((B22 st).setIfInBounds i (b,d+t,p)).eraseIdxIfInBounds (i+1))):=⟨g.perm,g.kind,g.failed⟩;show wpS _ _ _ _ (qX8 false kb (arrOf st) b d 0 >>= _) _ _;refine B19 (qFZ g1.kind (ik kb ac) ik (by lia) ae (qI3 (by lia) ua) λk hk h1 h2=>?_)
 have a1:∀j,b<=j->j<b+k->gK (arrOf st) j<=gkv kb:=λj n l=>by
  have e:=h1 (j-b) (by lia)
  rw[qH5 (by lia),show b+(j-b)=j by lia] at e
  exact of_decide_eq_true e
 have a2:∀j,b+k<=j->j<b+d->gkv kb<gK (arrOf st) j:=λj n l=>by
  have e:=h2 (j-b) (by lia) (by lia)
  rw[qH5 (by lia),show b+(j-b)=j by lia] at e
  have:=of_decide_eq_false e
  lia
 dsimp only;by_cases ek:d-k=0
 ·refine gifT (by simpa using ek) ?_
  refine B21 (h _ g1 p3 (λi j n f l=>?_) λ_ _=>rfl);show gK (arrOf st) i<=gK (arrOf st) j;by_cases c1:j<b+d
  ·exact ua i j n f c1
  ·by_cases c2:i<b+d
   ·have q1:=a1 i n (by lia)
    have q2:=ub (b+d) j (by lia) (by lia) l
    lia
   ·exact ub i j (by lia) f l
 refine gifF (by simpa using ek) ?_
 rw[show b+k+(d-k)-1=b+d-1 by lia]
 obtain⟨kz,a7,_,ab⟩:=qBY (a:=arrOf st) (i:=b+d-1) (by lia)
 have ag:gK (arrOf st) (b+d-1)=gkv kz:=qJT a7;refine B19 (qB8 a7 ?_);show wpS _ _ _ _ (qX8 true kz (arrOf st) (b+d) t (t-1) >>= _) _ _;refine B19 (qFZ g1.kind (ik kz ab) ik (by lia) (by lia) (qI3 (by lia) ub) λm hm h3 h4=>?_)
 have b1:∀j,b+d<=j->j<b+d+m->gK (arrOf st) j<gkv kz:=λj n l=>by
  have e:=h3 (j-(b+d)) (by lia)
  rw[qH5 (by lia),show b+d+(j-(b+d))=j by lia] at e
  exact of_decide_eq_true e
 have b2:∀j,b+d+m<=j->j<b+d+t->gkv kz<=gK (arrOf st) j:=λj n l=>by
  have e:=h4 (j-(b+d)) (by lia) (by lia)
  rw[qH5 (by lia),show b+d+(j-(b+d))=j by lia] at e
  have:=of_decide_eq_false e
  lia
 dsimp only;by_cases em:m=0
 ·refine gifT (by simpa using em) ?_
  refine B21 (h _ g1 p3 (λi j n f l=>?_) λ_ _=>rfl);show gK (arrOf st) i<=gK (arrOf st) j;by_cases c1:j<b+d
  ·exact ua i j n f c1
  ·by_cases c2:i<b+d
   ·have q1:=ua i (b+d-1) n (by lia) (by lia)
    have q2:=b2 j (by lia) l
    lia
   ·exact ub i j (by lia) f l
 refine gifF (by simpa using em) ?_
 have sx:((arrOf st).extract (b+k) (b+d)).size=d-k:=by simp;lia
 have sy:((arrOf st).extract (b+d) (b+d+m)).size=m:=by simp;lia
 have ux:=qNK (xs:=arrOf st) (lo:=b+k) (hi:=b+d) (by lia) λi j n f l=>ua i j (by lia) f l
 have uy:=qNK (xs:=arrOf st) (lo:=b+d) (hi:=b+d+m) (by lia) λi j n f l=>ub i j n f (by lia)
 have kx:∀x∈((arrOf st).extract (b+k) (b+d)).toList,gIK x:=λx hx=>ik x (by rw[qAU] at hx;exact T3 (P1 hx))
 have ky:∀x∈((arrOf st).extract (b+d) (b+d+m)).toList,gIK x:=λx hx=>ik x (by rw[qAU] at hx;exact T3 (P1 hx))
 have a5:∀y,((arrOf st).extract (b+d) (b+d+m)).toList[0]?=some y->∀x∈((arrOf st).extract (b+k) (b+d)).toList,gkv y<=gkv x:=by
  intro y hy x hx;have e:=qUR hy;obtain⟨j,v,j2,_,ej⟩:=qG0 hx;have:=a2 j v j2;rw[Nat.add_zero] at e
  lia
 have a6:∀z,((arrOf st).extract (b+k) (b+d)).toList[((arrOf st).extract (b+k) (b+d)).size-1]?=some z->∀y∈((arrOf st).extract (b+d) (b+d+m)).toList,gkv y<=gkv z:=by
  intro z hz y hy;have e:=qUR hz;obtain⟨j,v,j2,_,ej⟩:=qG0 hy;have:=b1 j v j2;rw[sx,show b+k+(d-k-1)=b+d-1 by lia] at e
  lia
 have a8:∀(r:Array Keyed) (st2:SortSt),gSE (setPending st (((B22 st).setIfInBounds i (b,d+t,p)).eraseIdxIfInBounds (i+1))) st2->gRes (((arrOf st).extract (b+k) (b+d)).toList++((arrOf st).extract (b+d) (b+d+m)).toList) r.toList->
   Q true (setArr st2 (r.toList.zipIdx.foldl (λa (p:Keyed×Nat)=>a.setIfInBounds (b+k+p.2) p.1) (arrOf st2))):=by
  rintro r st2 ⟨q1,q2,q3,q4⟩ ⟨rp,ru⟩;have a4:arrOf st2=arrOf st:=q2;have rl:r.toList.length=d-k+m:=by
   rw[rp.length_eq,A9,C8,C8,sx,sy]
  have e:=qNN (b+k) r.toList 0 (arrOf st2) (by rw[a4,rl];lia)
  rw[Nat.add_zero,a4] at e;have LK:=qc4 e (by rw[rl];lia)
  have e0:(arrOf st).toList=(arrOf st).toList.take (b+k)++(((arrOf st).extract (b+k) (b+d)).toList++((arrOf st).extract (b+d) (b+d+m)).toList)++(arrOf st).toList.drop (b+k+r.toList.length):=by
   rw[qAU,qAU,rl,show b+d-(b+k)=d-k by lia,show b+d+m-(b+d)=m by lia]
   have t1:(arrOf st).toList.drop (b+d)=((arrOf st).toList.drop (b+k)).drop (d-k):=by rw[p6];congr 1;lia
   have t2:(arrOf st).toList.drop (b+k)=((arrOf st).toList.drop (b+k)).take (d-k+m)++(arrOf st).toList.drop (b+k+(d-k+m)):=qGE;rw[t1,<- B02,P5,<- t2,R8]
  have gp:(r.toList.zipIdx.foldl (λa (p:Keyed×Nat)=>a.setIfInBounds (b+k+p.2) p.1) (arrOf st)).Perm (arrOf st):=by
   rw[W7,e]
   conv=>rhs;rw[e0]
   exact(d8 _ rp).append_right _
  have aa:∀x∈r.toList,∀i,b<=i->i<b+k->gK (arrOf st) i<=gkv x:=by
   intro x hx i n hi;rcases A8.mp (rp.mem_iff.mp hx) with hx|hx
   ·obtain⟨j,v,j2,_,ej⟩:=qG0 hx;rw[<- ej];exact ua i j n (by lia) j2
   ·obtain⟨j,v,j2,_,ej⟩:=qG0 hx;have z1:=a1 i n hi;have z2:=ub (b+d) j (by lia) v (by lia)
    lia
  have a0:∀x∈r.toList,∀j,b+d+m<=j->j<b+d+t->gkv x<=gK (arrOf st) j:=by
   intro x hx j n l;rcases A8.mp (rp.mem_iff.mp hx) with hx|hx
   ·obtain⟨i,v,j2,_,ej⟩:=qG0 hx;have z1:=ua i (b+d-1) (by lia) (by lia) (by lia)
    have z2:=b2 j n l
    lia
   ·obtain⟨i,v,j2,_,ej⟩:=qG0 hx;rw[<- ej];exact ub i j v (by lia) l
  rw[a4];refine h _ ⟨gp.trans g.perm,q1.trans g.kind,q4.trans g.failed⟩ ((congrArg A63 q3).trans p3) ?_ λj l=>(LK j).1 (by rw[rl];lia)
  intro i j n f l;show gK (r.toList.zipIdx.foldl (λa (p:Keyed×Nat)=>a.setIfInBounds (b+k+p.2) p.1) (arrOf st)) i<=gK (r.toList.zipIdx.foldl (λa (p:Keyed×Nat)=>a.setIfInBounds (b+k+p.2) p.1) (arrOf st)) j;have K1:∀j,j<b+k\/b+k+(d-k+m)<=j->gK (r.toList.zipIdx.foldl (λa (p:Keyed×Nat)=>a.setIfInBounds (b+k+p.2) p.1) (arrOf st)) j=gK (arrOf st) j:=λj l=>(LK j).1 (by rw[rl];exact l)
  have K2:∀j,b+k<=j->j<b+k+(d-k+m)->∃x,r.toList[j-(b+k)]?=some x/\gK (r.toList.zipIdx.foldl (λa (p:Keyed×Nat)=>a.setIfInBounds (b+k+p.2) p.1) (arrOf st)) j=gkv x:=λj h1 h2=>(LK j).2 h1 (by rw[rl];exact h2)
  by_cases c1:i<b+k
  ·rw[K1 i (.inl c1)];by_cases c2:j<b+k
   ·rw[K1 j (.inl c2)];exact ua i j n f (by lia)
   ·by_cases c3:j<b+k+(d-k+m)
    ·obtain⟨x,ex,a3⟩:=K2 j (by lia) c3
     rw[a3];exact aa x (B0 ex) i n c1
    ·rw[K1 j (.inr (by lia))]
     have z1:=a1 i n c1;have z2:=ub (b+d) j (by lia) (by lia) l
     lia
  ·by_cases c2:i<b+k+(d-k+m)
   ·obtain⟨x,ex,a3⟩:=K2 i (by lia) c2
    rw[a3];by_cases c3:j<b+k+(d-k+m)
    ·obtain⟨y,ey,ad⟩:=K2 j (by lia) c3
     rw[ad];by_cases c4:i=j
     ·rw[c4] at ex;rw[ex] at ey;cases ey;exact P6 _
     ·obtain⟨x1,x2⟩:=A4.mp ex;obtain⟨y1,y2⟩:=A4.mp ey;have:=G2.mp ru (i-(b+k)) (j-(b+k)) x1 y1 (by lia)
      rw[x2,y2] at this;exact this
    ·rw[K1 j (.inr (by lia))]
     exact a0 x (B0 ex) j (by lia) l
   ·rw[K1 i (.inr (by lia)),K1 j (.inr (by lia))]
    exact ub i j (by lia) f l
 by_cases c:d-k<=m
 ·refine gifT c ?_;show wpS _ _ _ _ (gmLo ((arrOf st).extract (b+k) (b+d)) ((arrOf st).extract (b+d) (b+d+m)) >>= _) _ _;refine B19 (qX2 g1.kind kx ky ux uy (by rw[sx];lia) (by rw[sy];lia) a5 a6 λr st2 se rs=>?_)
  refine B19 (B34 (B19 (B63 (B21 ?_))));have e:(failedOf st2).isNone=true:=by rw[se.2.2.2,g1.failed];rfl
  show Q (failedOf st2).isNone _;rw[e];exact a8 r st2 se rs
 ·refine gifF c ?_;show wpS _ _ _ _ (gmHi ((arrOf st).extract (b+k) (b+d)) ((arrOf st).extract (b+d) (b+d+m)) >>= _) _ _;refine B19 (qX3 g1.kind kx ky ux uy (by rw[sx];lia) (by rw[sy];lia) a5 a6 λr st2 se rs=>?_)
  refine B19 (B34 (B19 (B63 (B21 ?_))));have e:(failedOf st2).isNone=true:=by rw[se.2.2.2,g1.failed];rfl
  show Q (failedOf st2).isNone _;rw[e];exact a8 r st2 se rs
end
end L2.G
namespace L2.G
open PySem PyProof.Rows
variable[NM]
def gOut (xs ys:Array Keyed)(lo hi:Nat):Prop:=∀k,k<lo\/hi<=k->gK ys k=gK xs k
theorem gOut.refl (xs:Array Keyed)(lo hi:Nat):gOut xs xs lo hi:=λ_ _=>rfl
theorem gOut.trans {xs a zs:Array Keyed}{lo hi:Nat}(c:gOut xs a lo hi)(d:gOut a zs lo hi):gOut xs zs lo hi:=λk b=>(d k b).trans (c k b)
theorem gOut.wide {xs e:Array Keyed}{lo hi d c:Nat}(h:gOut xs e lo hi)(a:d<=lo)(b:hi<=c):gOut xs e d c:=λk f=>h k (by lia)
theorem gSG.lay {κ0:B47}{a₀:Array Keyed}{st:SortSt}(g:gSG κ0 a₀ st){a:Array Keyed}(p:a.Perm (arrOf st)):gSG κ0 a₀ (setArr st a):=⟨p.trans g.perm,g.kind,g.failed⟩
theorem qPF {xs:Array Keyed}{i j:Nat}(a:j<=xs.size):gOut xs (mirror xs i j ((j-i)/2)) i j:=λk b=>by rw[qH7 a,if_neg (by lia)]
section
variable{prog:B20}{w:World}{A:Around}{E:Value->Shared->Prop}{s:Shared}{κ0:B47}[LtOk prog w A s κ0]{a₀:Array Keyed}
theorem qH2 {st:SortSt}{i j:Nat}{Q:Option Bool->SortSt->Prop}(e:qC2 a₀)(g:gSG κ0 a₀ st)(hi:i<a₀.size)(k:j<a₀.size)(h:Q (some (decide (gK (arrOf st) i<gK (arrOf st) j))) st):wpS (model prog w) A E s (ltAt' i j) Q st:=by
 have b:i<(arrOf st).size:=by rw[g.size];exact hi
 have a:j<(arrOf st).size:=by rw[g.size];exact k
 obtain⟨x,c,_,l⟩:=qBY b;obtain⟨y,d,_,f⟩:=qBY a;rw[qJT c,qJT d] at h;rw[ltAt'_eq];refine B19 (B63 ?_);exact B19 (qB8 c (B19 (qB8 d (qH3 g.kind (g.ik e x l) (g.ik e y f) h))))
theorem qX7 {st:SortSt}{lo n m:Nat}{Q:Bool->SortSt->Prop}(h0:qC2 a₀)(g:gSG κ0 a₀ st)(hn:lo+n<=a₀.size)(a0:m<=n)(u:gSeg (arrOf st) lo (lo+m))
  (h:∀st2,gSG κ0 a₀ st2->B22 st2=B22 st->gSeg (arrOf st2) lo (lo+n)->gOut (arrOf st) (arrOf st2) lo (lo+n)->Q true st2):wpS (model prog w) A E s (binarySort' lo n m) Q st:=by
 rw [binarySort'_eq];refine B19 (B44 (B31 (I:=fun k c st2=>c=(none,())/\gSG κ0 a₀ st2/\B22 st2=B22 st/\gSeg (arrOf st2) lo (lo+min k n)/\gOut (arrOf st) (arrOf st2) lo (lo+n))
  (Q:=λc st2=>c=(none,())/\gSG κ0 a₀ st2/\B22 st2=B22 st/\gSeg (arrOf st2) lo (lo+n)/\gOut (arrOf st) (arrOf st2) lo (lo+n)) ?step ?fin ?init) ?post)
 case post=>
  rintro c st2 ⟨rfl,g2,pe,u2,o2⟩;exact B21 (h st2 g2 pe u2 o2)
 case init=>
  refine⟨rfl,g,rfl,λi j t f y=>?_,.refl _ _ _⟩;by_cases p:m=0
  ·rw[show i=j by lia]
   exact P6 _
  ·exact u i j t f (by lia)
 case fin=>
  rintro c st2 ⟨hc,g2,pe,u2,o2⟩;rw[show min (max (max m 1) n) n=n by lia] at u2
  exact⟨hc,g2,pe,u2,o2⟩
 case step=>
  rintro k c st2 hak hkn ⟨rfl,g2,pe,u2,o2⟩;rw[show min k n=k by lia] at u2
  have v:lo+k<a₀.size:=by lia
  refine B19 (B44 (B31 (I:=fun x c a=>a=st2/\∃ l r,c=(none,l,r)/\l<=r/\r<=k/\r - l<=k - x/\
    (∀i,lo<=i->i<lo+l->gK (arrOf st2) i<=gK (arrOf st2) (lo+k))/\(∀i,lo+r<=i->i<lo+k->gK (arrOf st2) (lo+k)<gK (arrOf st2) i))
   (Q:=fun c a=>a=st2/\∃ l r,c=(none,l,r)/\l<=k/\
    (∀i,lo<=i->i<lo+l->gK (arrOf st2) i<=gK (arrOf st2) (lo+k))/\(∀i,lo+l<=i->i<lo+k->gK (arrOf st2) (lo+k)<gK (arrOf st2) i)) ?istep ?ifin ?iinit) ?ipost)
  case iinit=>exact⟨rfl,0,k,rfl,by lia,by lia,by lia,λi _ hi=>by lia,λi p q=>by lia⟩
  case ifin=>
   rintro c a ⟨rfl,l,r,rfl,hlr,hrk,hm,ha,hb⟩;have e:l=r:=by lia
   rw[<- e] at hb hrk;exact⟨rfl,l,r,rfl,hrk,ha,hb⟩
  case istep=>
   rintro x c a _ hxk ⟨rfl,l,r,rfl,hlr,hrk,hm,ha,hb⟩;dsimp only;by_cases o:l>=r
   ·refine gifT o ?_;have e:l=r:=by lia
    rw[<- e] at hb hrk;exact B21 ⟨rfl,l,r,rfl,hrk,ha,hb⟩
   ·refine gifF o ?_;refine B19 (qH2 h0 g2 v (by lia) ?_)
    by_cases b:gK (arrOf a) (lo+k)<gK (arrOf a) (lo+(l+r)/2)
    ·rw[decide_eq_true b];dsimp only;refine gifT rfl ?_;refine B21 ⟨rfl,l,(l+r)/2,rfl,by lia,by lia,by lia,ha,λi p q=>?_⟩
     have:=u2 (lo+(l+r)/2) i (by lia) p q
     lia
    ·rw[decide_eq_false b];dsimp only;rw[if_neg B1];refine B21 ⟨rfl,(l+r)/2+1,r,rfl,by lia,by lia,by lia,λi z p=>?_,hb⟩
     have:=u2 i (lo+(l+r)/2) z (by lia) (by lia)
     lia
  case ipost=>
   rintro c a ⟨rfl,l,r,rfl,hlk,ha,hb⟩;have d:lo+k<(arrOf a).size:=by rw[g2.size];exact v
   show wpS _ _ _ _ (moveDown' (lo+k) (lo+l) >>= λ_=>pure (O1 (none,()))) _ _;rw[moveDown'_eq];refine B19 (B34 (B21 ⟨rfl,g2.lay (bubble_perm _ _ _),pe,?_,o2.trans ?_⟩))
   ·rw[show min (k+1) n=k+1 by lia]
    intro i j t f y;show gK (bubble (arrOf a) (lo+k) (lo+k-(lo+l))) i<=gK (bubble (arrOf a) (lo+k) (lo+k-(lo+l))) j;rw[qJU d (by lia),qJU d (by lia),show lo+k-(lo+k-(lo+l))=lo+l by lia]
    repeat' split
    all_goals first
     |(exfalso;lia)
     |exact P6 _
     |exact ha _ (by lia) (by lia)
     |exact n6 (hb _ (by lia) (by lia))
     |exact u2 _ _ (by lia) (by lia) (by lia)
   ·intro i hi;show gK (bubble (arrOf a) (lo+k) (lo+k-(lo+l))) i=gK (arrOf a) i;rw[qJU d (by lia),if_neg (by lia),if_neg (by lia)]
abbrev gCUp:=Option (Option Nat)×Nat
abbrev gCDn:=Option (Option Nat)×Nat×Nat
noncomputable def gupL (lo a m:Nat):gSM gCUp:=
 forIn [a:m] ((none,a):gCUp) λ_ c=>do
  let t <- ltAt' (lo+c.snd) (lo+c.snd-1)
  match t with
  |some less=>if less=true then pure (d5 (none,c.snd)) else pure (O1 (none,c.snd+1))
  |_=>pure (d5 (some none,c.snd))
noncomputable def qUP (lo n m:Nat):gSM (Option Nat):=do
 reverseSlice' lo (lo+n)
 let c <- gupL lo n m
 match c.fst with
 |some r=>pure r
 |none=>pure (some c.snd)
noncomputable def gdnL (lo n m:Nat):gSM gCDn:=
 forIn [n:m] ((none,n,0):gCDn) λ_ c=>do
  let t <- ltAt' (lo+c.snd.fst) (lo+c.snd.fst-1)
  match t with
  |some less=>
   if less=true then
    if c.snd.snd>0 then do
     reverseSlice' (lo+c.snd.fst-(c.snd.snd+1)) (lo+c.snd.fst)
     pure (O1 (none,c.snd.fst+1,0))
    else pure (O1 (none,c.snd.fst+1,0))
   else do
    let t <- ltAt' (lo+c.snd.fst-1) (lo+c.snd.fst)
    match t with
    |some more=>
     if more=true then pure (d5 (none,c.snd.fst,c.snd.snd))
     else pure (O1 (none,c.snd.fst+1,c.snd.snd+1))
    |_=>pure (d5 (some none,c.snd.fst,c.snd.snd))
  |_=>pure (d5 (some none,c.snd.fst,c.snd.snd))
noncomputable def gdnP (lo n m:Nat):gSM (Option Nat):=do
 liftM (rule "list.sort.descending-run")
 let c <- gdnL lo (n+1) m
 match c.fst with
 |some r=>pure r
 |none=>
  if c.snd.snd>0 then do
   reverseSlice' (lo+c.snd.fst-(c.snd.snd+1)) (lo+c.snd.fst)
   qUP lo c.snd.fst m
  else qUP lo c.snd.fst m
theorem qBF {α β:Type}{x y:gSM α}{f g:α->gSM β}(h:x=y)(k:∀a,f a=g a):(x >>= f)=(y >>= g):=by rw[h,show f=g from funext k]
theorem qUQ (lo m:Nat):countRun' lo m=(do
  let c <- gupL lo 1 m
  match c.fst with
  |some r=>pure r
  |none=>
   if(c.snd==m)=true then pure (some c.snd)
   else if c.snd>1 then do
    let t <- ltAt' lo (lo+c.snd-1)
    match t with
    |some rose=>if rose=true then pure (some c.snd) else do
      reverseSlice' lo (lo+c.snd)
      gdnP lo c.snd m
    |_=>pure none
   else gdnP lo c.snd m):=by
 rw[countRun'_eq];unfold gdnP qUP gdnL gupL;refine qBF rfl λc=>?_;obtain⟨r,n⟩:=c;cases r with
 |some r=>rfl
 |none=>
  have f:∀c3:gCUp,(match c3.fst with|some r=>pure r|none=>pure (some c3.snd):gSM (Option Nat))=(match c3.fst with|some r=>pure r|none=>pure (some c3.snd)):=λ_=>rfl
  dsimp only
  split
  ·rfl
  ·split
   ·refine qBF rfl λx=>?_;cases x with
    |none=>rfl
    |some rose=>
     dsimp only
     split
     ·rfl
     ·refine qBF rfl λ_=>qBF rfl λ_=>qBF rfl λe=>?_;obtain⟨b,g,h⟩:=e;cases b with
      |some b=>rfl
      |none=>
       dsimp only
       split
       ·refine qBF rfl λ_=>qBF rfl λ_=>qBF rfl λc3=>?_;obtain⟨a,d⟩:=c3;cases a<;>rfl
       ·refine qBF rfl λ_=>qBF rfl λc3=>?_;obtain⟨a,d⟩:=c3;cases a<;>rfl
   ·refine qBF rfl λ_=>qBF rfl λe=>?_;obtain⟨b,g,h⟩:=e;cases b with
    |some b=>rfl
    |none=>
     dsimp only
     split
     ·refine qBF rfl λ_=>qBF rfl λ_=>qBF rfl λc3=>?_;obtain⟨a,d⟩:=c3;cases a<;>rfl
     ·refine qBF rfl λ_=>qBF rfl λc3=>?_;obtain⟨a,d⟩:=c3;cases a<;>rfl
def gFal (xs:Array Keyed)(lo hi:Nat):Prop:=∀i j,lo<=i->i<=j->j<hi->gK xs j<=gK xs i
theorem qR3 {st:SortSt}{lo a m:Nat}{Q:gCUp->SortSt->Prop}(q:qC2 a₀)(g:gSG κ0 a₀ st)(r:lo+m<=a₀.size)(v:1<=a)(f:a<=m)(u:gSeg (arrOf st) lo (lo+a))
  (h:∀n,a<=n->n<=m->gSeg (arrOf st) lo (lo+n)->(n=m\/gK (arrOf st) (lo+n)<gK (arrOf st) (lo+n-1))->Q (none,n) st):wpS (model prog w) A E s (gupL lo a m) Q st:=by
 unfold gupL;refine B31 (I:=λx c b=>b=st/\c=(none,x)/\gSeg (arrOf st) lo (lo+x)) ?step ?fin ⟨rfl,rfl,u⟩
 case fin=>
  rintro c b ⟨rfl,rfl,u2⟩;rw[show max a m=m by lia] at u2 ⊢
  exact h m f (A7 _) u2 (.inl rfl)
 case step=>
  rintro x c b hax hxn ⟨rfl,rfl,u2⟩;dsimp only;refine B19 (qH2 q g (by lia) (by lia) ?_)
  by_cases d:gK (arrOf b) (lo+x)<gK (arrOf b) (lo+x-1)
  ·rw[decide_eq_true d];dsimp only;refine gifT rfl ?_;exact B21 (h x hax (by lia) u2 (.inr d))
  ·rw[decide_eq_false d];dsimp only;rw[if_neg B1];refine B21 ⟨rfl,rfl,λi j l e t=>?_⟩;by_cases k:j<lo+x
   ·exact u2 i j l e k
   ·have o:j=lo+x:=by lia
    rw[o];by_cases p:i=lo+x
    ·rw[p];exact P6 _
    ·have:=u2 i (lo+x-1) l (by lia) (by lia)
     lia
theorem qNJ {st:SortSt}{lo n m:Nat}{Q:Option Nat->SortSt->Prop}(q:qC2 a₀)(g:gSG κ0 a₀ st)(l:lo+m<=a₀.size)(p:1<=n)(b:n<=m)(u:gFal (arrOf st) lo (lo+n))
  (h:∀k st2,gSG κ0 a₀ st2->B22 st2=B22 st->1<=k->k<=m->gSeg (arrOf st2) lo (lo+k)->gOut (arrOf st) (arrOf st2) lo (lo+m)->Q (some k) st2):wpS (model prog w) A E s (qUP lo n m) Q st:=by
 unfold qUP;have a:lo+n<=(arrOf st).size:=by rw[g.size];lia
 rw[B85];refine B19 (B34 ?_);have d:gSG κ0 a₀ (setArr st (mirror (arrOf st) lo (lo+n) ((lo+n-lo)/2))):=g.lay (mirror_perm _ _ _ _);refine B19 (qR3 q d l p b ?_ λk o c f _=>B21 (h k _ d rfl (by lia) c f ((qPF a).wide (A7 _) (by lia))))
 intro i j r e t;show gK (mirror (arrOf st) lo (lo+n) ((lo+n-lo)/2)) i<=gK (mirror (arrOf st) lo (lo+n) ((lo+n-lo)/2)) j;rw[qH7 a,qH7 a,if_pos (by lia),if_pos (by lia)]
 exact u _ _ (by lia) (by lia) (by lia)
theorem qX5 {st:SortSt}{lo n m:Nat}{Q:gCDn->SortSt->Prop}(h0:qC2 a₀)(g:gSG κ0 a₀ st)(hm:lo+m<=a₀.size)(t:1<=n)(v:n<=m)(u:gFal (arrOf st) lo (lo+n))
  (h:∀k e st2,gSG κ0 a₀ st2->B22 st2=B22 st->n<=k->k<=m->gFal (arrOf st2) lo (lo+k)->e+1<=k->(∀i,lo+k-(e+1)<=i->i<lo+k->gK (arrOf st2) i=gK (arrOf st2) (lo+k-1))->gOut (arrOf st) (arrOf st2) lo (lo+m)->Q (none,k,e) st2):
  wpS (model prog w) A E s (gdnL lo n m) Q st:=by
 unfold gdnL;refine B31 (I:=fun x c st2=>∃ e,c=(none,x,e)/\gSG κ0 a₀ st2/\B22 st2=B22 st/\gFal (arrOf st2) lo (lo+x)/\e+1<=x/\
   (∀i,lo+x-(e+1)<=i->i<lo+x->gK (arrOf st2) i=gK (arrOf st2) (lo+x-1))/\gOut (arrOf st) (arrOf st2) lo (lo+m)) ?step ?fin ⟨0,rfl,g,rfl,u,by lia,λi t z=>by congr 1;lia,.refl _ _ _⟩
 case fin=>
  rintro c st2 ⟨e,rfl,g2,pe,u2,hq,he,o2⟩;rw[show max n m=m by lia] at u2 hq he ⊢
  exact h m e st2 g2 pe v (A7 _) u2 hq he o2
 case step=>
  rintro x c st2 hax hxn ⟨e,rfl,g2,pe,u2,hq,he,o2⟩;dsimp only;have o:lo+x<=(arrOf st2).size:=by rw[g2.size];lia
  refine B19 (qH2 h0 g2 (by lia) (by lia) ?_)
  by_cases d:gK (arrOf st2) (lo+x)<gK (arrOf st2) (lo+x-1)
  ·rw[decide_eq_true d];dsimp only;refine gifT rfl ?_;have b:∀ys:Array Keyed,(∀k,gK ys k=gK (arrOf st2) k)->gFal ys lo (lo+(x+1)):=by
    intro ys hk i j r f hj;rw[hk,hk];by_cases l:j<lo+x
    ·exact u2 i j r f l
    ·have y:j=lo+x:=by lia
     rw[y];by_cases p:i=lo+x
     ·rw[p];exact P6 _
     ·have:=u2 i (lo+x-1) r (by lia) (by lia)
      lia
   by_cases a:e>0
   ·rw[if_pos a,B85];refine B19 (B34 (B21 ⟨0,rfl,g2.lay (mirror_perm _ _ _ _),pe,b _ (qB0 o he),by lia,λi t z=>by congr 1;lia,o2.trans ?_⟩))
    exactλk _=>qB0 o he k
   ·refine gifF a ?_;exact B21 ⟨0,rfl,g2,pe,b _ (λ_=>rfl),by lia,λi t z=>by congr 1;lia,o2⟩
  ·rw[decide_eq_false d];dsimp only;rw[if_neg B1];refine B19 (qH2 h0 g2 (by lia) (by lia) ?_)
   by_cases q:gK (arrOf st2) (lo+x-1)<gK (arrOf st2) (lo+x)
   ·rw[decide_eq_true q];dsimp only;refine gifT rfl ?_;exact B21 (h x e st2 g2 pe hax (by lia) u2 hq he o2)
   ·rw[decide_eq_false q];dsimp only;rw[if_neg B1];have ex:gK (arrOf st2) (lo+x)=gK (arrOf st2) (lo+x-1):=by lia
    refine B21 ⟨e+1,rfl,g2,pe,λi j r f hj=>?_,by lia,λi t z=>?_,o2⟩
    ·by_cases l:j<lo+x
     ·exact u2 i j r f l
     ·have y:j=lo+x:=by lia
      rw[y];by_cases p:i=lo+x
      ·rw[p];exact P6 _
      ·rw[ex];exact u2 i (lo+x-1) r (by lia) (by lia)
    ·rw[show lo+(x+1)-1=lo+x by lia]
     by_cases p:i=lo+x
     ·rw[p]
     ·rw[ex];exact he i (by lia) (by lia)
theorem qR4 {st:SortSt}{lo n m:Nat}{Q:Option Nat->SortSt->Prop}(z:qC2 a₀)(g:gSG κ0 a₀ st)(p:lo+m<=a₀.size)(o:n+1<=m)(u:gFal (arrOf st) lo (lo+(n+1)))
  (h:∀k st2,gSG κ0 a₀ st2->B22 st2=B22 st->1<=k->k<=m->gSeg (arrOf st2) lo (lo+k)->gOut (arrOf st) (arrOf st2) lo (lo+m)->Q (some k) st2):wpS (model prog w) A E s (gdnP lo n m) Q st:=by
 unfold gdnP;refine B19 (wpS_lift (B56 ⟨rfl,?_⟩));refine B19 (qX5 z g p (by lia) o u λk e st2 q pe a3 f u2 hq y o2=>?_)
 dsimp only;have b:lo+k<=(arrOf st2).size:=by rw[q.size];lia
 by_cases a:e>0
 ·rw[if_pos a,B85];refine B19 (B34 (qNJ z (q.lay (mirror_perm _ _ _ _)) p (by lia) f ?_ λv d t c a1 l r x=>h v d t (c.trans pe) a1 l r ?_))
  ·intro i j hl a0 hj;show gK (mirror (arrOf st2) _ _ _) j<=gK (mirror (arrOf st2) _ _ _) i;rw[qB0 b y,qB0 b y];exact u2 i j hl a0 hj
  ·exact o2.trans (gOut.trans (λk _=>qB0 b y k) x)
 ·refine gifF a ?_;exact qNJ z q p (by lia) f u2 λv d t c a1 l r x=>h v d t (c.trans pe) a1 l r (o2.trans x)
theorem qX6 {st:SortSt}{lo m:Nat}{Q:Option Nat->SortSt->Prop}(u:qC2 a₀)(g:gSG κ0 a₀ st)(x:lo+m<=a₀.size)(h1:1<=m)
  (h:∀k st2,gSG κ0 a₀ st2->B22 st2=B22 st->1<=k->k<=m->gSeg (arrOf st2) lo (lo+k)->gOut (arrOf st) (arrOf st2) lo (lo+m)->Q (some k) st2):wpS (model prog w) A E s (countRun' lo m) Q st:=by
 rw[qUQ];refine B19 (qR3 u g x (A7 1) h1 (λi j d q hj=>by rw[show i=j by lia];exact P6 _) λn o l t or=>?_)
 dsimp only;by_cases e:n=m
 ·refine gifT (by simpa using e) ?_
  exact B21 (h n st g rfl o l t (.refl _ _ _))
 ·refine gifF (by simpa using e) ?_
  have f:gK (arrOf st) (lo+n)<gK (arrOf st) (lo+n-1):=or.resolve_left e;by_cases p:n>1
  ·refine gifT p ?_;refine B19 (qH2 u g (by lia) (by lia) ?_)
   by_cases b:gK (arrOf st) lo<gK (arrOf st) (lo+n-1)
   ·rw[decide_eq_true b];dsimp only;refine gifT rfl ?_;exact B21 (h n st g rfl o l t (.refl _ _ _))
   ·rw[decide_eq_false b];dsimp only;rw[if_neg B1,B85];have c:lo+n<=(arrOf st).size:=by rw[g.size];lia
    have a:∀k,lo<=k->k<lo+n->gK (arrOf st) k=gK (arrOf st) (lo+n-1):=by
     intro k d hk;have a1:=t lo k (by lia) d hk
     have z:=t k (lo+n-1) d (by lia) (by lia)
     lia
    refine B19 (B34 (qR4 u (g.lay (mirror_perm _ _ _ _)) x (by lia) ?_ λk st2 g2 pe a1 z u2 o2=>h k st2 g2 pe a1 z u2 (gOut.trans (λk _=>qB0 c a k) o2)))
    intro i j d q hj;show gK (mirror (arrOf st) _ _ _) j<=gK (mirror (arrOf st) _ _ _) i;rw[qB0 c a,qB0 c a];by_cases v:j<lo+n
    ·rw[a i d (by lia),a j (by lia) v]
     exact P6 _
    ·have y:j=lo+n:=by lia
     rw[y];by_cases r:i=lo+n
     ·rw[r];exact P6 _
     ·rw[a i d (by lia)]
      exact n6 f
  ·refine gifF p ?_;have e1:n=1:=by lia
   rw[e1] at f;rw[e1];refine qR4 u g x (by lia) ?_ h
   intro i j d q hj;by_cases r:i=j
   ·rw[r];exact P6 _
   ·have r:i=lo:=by lia
    have y:j=lo+1:=by lia
    rw[r,y];exact n6 f
end
end L2.G
namespace L2.G
open PySem PyProof.Rows
variable[NM]
def qD6 (xs:Array Keyed):List (Nat×Nat×Nat)->Nat->Nat->Prop
 |[],a,b=>a=b
 |r::rs,a,b=>r.1=a/\0<r.2.1/\gSeg xs a (a+r.2.1)/\qD6 xs rs (a+r.2.1) b
theorem qIQ {xs:Array Keyed}:∀{l:List (Nat×Nat×Nat)} {a b:Nat},qD6 xs l a b->a+l.length<=b
 |[],a,b,h=>by
  have:a=b:=h;simp
  lia
 |r::rs,a,b,h=>by
  have:=qIQ h.2.2.2;have:=h.2.1;simp
  lia
theorem gruns_app {xs:Array Keyed}:∀{l m:List (Nat×Nat×Nat)} {a b:Nat},qD6 xs (l++m) a b↔∃c,qD6 xs l a c/\qD6 xs m c b
 |[],m,a,b=>⟨λh=>⟨a,rfl,h⟩,λ⟨c,e,h⟩=>by cases(show a=c from e);exact h⟩
 |r::rs,m,a,b=>by
  constructor
  ·rintro⟨h1,h2,h3,h4⟩;obtain⟨c,q1,q2⟩:=gruns_app.mp h4;exact⟨c,⟨h1,h2,h3,q1⟩,q2⟩
  ·rintro⟨c,⟨h1,h2,h3,q1⟩,q2⟩;exact⟨h1,h2,h3,gruns_app.mpr ⟨c,q1,q2⟩⟩
theorem qJS {xs ys:Array Keyed}:∀{l:List (Nat×Nat×Nat)} {a b:Nat},(∀k,a<=k->k<b->gK ys k=gK xs k)->qD6 xs l a b->qD6 ys l a b
 |[],a,b,_,h=>h
 |r::rs,a,b,e,h=>by
  have le:=qIQ h.2.2.2;refine⟨h.1,h.2.1,λi j hl hij hj=>?_,qJS (λk h1 h2=>e k (by lia) h2) h.2.2.2⟩
  rw[e i hl (by lia),e j (by lia) (by lia)]
  exact h.2.2.1 i j hl hij hj
theorem qUO {α:Type}:∀{l:List α} {i:Nat},i+1<l.length->∃pre x y post,l=pre++x::y::post/\pre.length=i
 |[],_,h=>by simp at h
 |[x],_,h=>by simp at h
 |x::y::r,0,_=>⟨[],x,y,r,rfl,rfl⟩
 |x::y::r,i+1,h=>by
  obtain⟨pre,a,b,post,e,el⟩:=qUO (l:=y::r) (i:=i) (by simp at h ⊢;lia)
  exact⟨x::pre,a,b,post,by rw[e];rfl,by simp[el]⟩
section
variable{prog:B20}{w:World}{A:Around}{E:Value->Shared->Prop}{s:Shared}{κ0:B47}[LtOk prog w A s κ0]{a₀:Array Keyed}
theorem qHR {st:SortSt}{i b:Nat}{Q:Bool->SortSt->Prop}(h0:qC2 a₀)(g:gSG κ0 a₀ st)(r:qD6 (arrOf st) (B22 st).toList 0 b)(hb:b<=a₀.size)(hi:i+1<(B22 st).size)
  (h:∀st2,gSG κ0 a₀ st2->qD6 (arrOf st2) (B22 st2).toList 0 b->(B22 st2).size+1=(B22 st).size->(∀k,b<=k->gK (arrOf st2) k=gK (arrOf st) k)->Q true st2):wpS (model prog w) A E s (mergeAt' i) Q st:=by
 obtain⟨a0,⟨f,n,p⟩,⟨sb,j,q⟩,a,e,el⟩:=qUO (l:=(B22 st).toList) (i:=i) (by simpa using hi)
 rw[e] at r;obtain⟨c,r1,r2⟩:=gruns_app.mp r;obtain⟨y,t,z,y1,y2,x,m⟩:=r2;dsimp only at y t z y1 y2 x m;subst y;subst y1;have le:=qIQ m;refine qX4 h0 g e el.symm t y2 (by lia) z x λst2 g2 v u o=>h st2 g2 ?_ ?_ λk d=>o k (.inr (by lia))
 ·rw[v];refine gruns_app.mpr ⟨f,qJS (λk _ d=>o k (.inl d)) r1,rfl,by show 0<n+j;lia,?_,?_⟩
  ·show gSeg _ f (f+(n+j));rw[<- A45];exact u
  ·show qD6 _ a (f+(n+j)) b;rw[<- A45];exact qJS (λk d _=>o k (.inr d)) m
 ·have l1:=congrArg U4 v;have l2:=congrArg U4 e;simp at l1 l2
  lia
theorem qNM (f:Nat×Nat×Nat->Nat×Nat×Nat)(y:Nat×Nat×Nat):∀l:List (Nat×Nat×Nat),(l++[y]).modify l.length f=l++[f y]
 |[]=>rfl
 |z::l=>by
  show z::(l++[y]).modify l.length f=z::(l++[f y]);rw[qNM f y l]
theorem qNL {xs:Array Keyed}{p:Array (Nat×Nat×Nat)}{b pw:Nat}{f:Nat×Nat×Nat->Nat×Nat×Nat}(d:∀y,(f y).1=y.1/\(f y).2.1=y.2.1)(r:qD6 xs p.toList 0 b):qD6 xs (p.modify (p.size-1) f).toList 0 b:=by
 rw[Array.toList_modify,<- C8];generalize p.toList=l at r;rcases List.eq_nil_or_concat l with e|⟨l',y,e⟩
 ·rw[e] at r ⊢;exact r
 ·rw[e] at r ⊢;rw[List.concat_eq_append] at r ⊢;obtain⟨c,g,m⟩:=gruns_app.mp r;rw[A9,C2,A44,qNM];refine gruns_app.mpr ⟨c,g,?_⟩;obtain⟨i,n,j,h⟩:=m;have k:=(d y).1;have a:=(d y).2;refine⟨k.trans i,by rw[a];exact n,by rw[a];exact j,by rw[a];exact h⟩
theorem qUN {st:SortSt}{Q:Unit->SortSt->Prop}(h0:qC2 a₀)(g:gSG κ0 a₀ st)(hp:B22 st=#[])(h:∀st2,gSG κ0 a₀ st2->qH6 (arrOf st2) a₀.size->Q () st2):wpS (model prog w) A E s sortRuns' Q st:=by
 rw [sortRuns'_eq];refine B19 (B63 ?_);dsimp only;rw [g.size];refine B19 (B44 (B31
  (I:=λx c st2=>∃lo,c=(none,lo)/\x<=lo/\lo<=a₀.size/\gSG κ0 a₀ st2/\qD6 (arrOf st2) (B22 st2).toList 0 lo)
  (Q:=λc st2=>c.1=none/\gSG κ0 a₀ st2/\qD6 (arrOf st2) (B22 st2).toList 0 a₀.size) ?step ?fin ⟨0,rfl,A7 _,E8 _,g,by rw[hp];rfl⟩) ?post)
 case fin=>
  rintro c st2 ⟨lo,rfl,h1,h2,g2,r2⟩;have e:lo=a₀.size:=by lia
  rw[e] at r2;exact⟨rfl,g2,r2⟩
 case post=>
  rintro ⟨c,lo⟩ st2 ⟨e,g2,r2⟩;cases (show c=none from e);dsimp only;have le:=qIQ r2;refine B19 (B44 (B31 (I:=fun x c b=>c=(none,())/\gSG κ0 a₀ b/\qD6 (arrOf b) (B22 b).toList 0 a₀.size/\(B22 b).size+x<=a₀.size)
   (Q:=λc b=>c=(none,())/\gSG κ0 a₀ b/\qD6 (arrOf b) (B22 b).toList 0 a₀.size/\(B22 b).size<=1) ?_ ?_ ⟨rfl,g2,r2,by simpa using le⟩) ?_)
  ·rintro x c b _ _ ⟨rfl,g3,r3,le3⟩;refine B19 (B63 ?_);by_cases y:(B22 b).size<=1
   ·rw[if_pos y];exact B21 ⟨rfl,g3,r3,y⟩
   ·rw[if_neg y];refine B19 (qHR h0 g3 r3 (A7 _) ?_ λf g4 r4 l4 _=>?_)
    ·repeat' split
     all_goals lia
    ·rw[if_neg (by simp)]
     exact B21 ⟨rfl,g4,r4,by lia⟩
  ·rintro c b ⟨e,g3,r3,le3⟩;exact⟨e,g3,r3,by lia⟩
  ·rintro c b ⟨rfl,g3,r3,le3⟩;refine B21 (h b g3 ?_);have l3:(B22 b).toList.length<=1:=by simpa using le3
   generalize (B22 b).toList=l at r3 l3
   match l,r3,l3 with
   |[],r3,_=>
    have e:0=a₀.size:=r3;intro i j _ o
    lia
   |[r],r3,_=>
    have e:0+r.2.1=a₀.size:=r3.2.2.2;intro i j m o;exact r3.2.2.1 i j (E8 _) m (by lia)
   |_::_::_,_,l3=>simp at l3
 case step=>
  rintro x c st2 _ hx ⟨lo,rfl,hxl,hlo,g2,r2⟩;dsimp only;by_cases y:lo>=a₀.size
  ·rw[if_pos y];have e:lo=a₀.size:=by lia
   rw[e] at r2;exact B21 ⟨rfl,g2,r2⟩
  rw[if_neg y];refine B19 (qX6 h0 g2 (by lia) (by lia) λk b g3 a2 k1 k2 u3 o3=>?_)
  have r3:qD6 (arrOf b) (B22 b).toList 0 lo:=by
   rw[a2];exact qJS (λj _ o=>o3 j (.inl o)) r2
  dsimp only;have d:∀(st5:SortSt) (n:Nat),gSG κ0 a₀ st5->1<=n->lo+n<=a₀.size->gSeg (arrOf st5) lo (lo+n)->qD6 (arrOf st5) (B22 st5).toList 0 lo->
    gSG κ0 a₀ (setPending st5 ((B22 st5).push (lo,n,0)))/\qD6 (arrOf st5) ((B22 st5).push (lo,n,0)).toList 0 (lo+n):=by
   intro st5 n g5 h1 h2 u5 r5;refine⟨⟨g5.perm,g5.kind,g5.failed⟩,?_⟩;rw[U1];exact gruns_app.mpr ⟨lo,r5,rfl,h1,u5,rfl⟩
  by_cases c2:k<minRun' a₀.size a₀.size 0
  ·rw[if_pos c2];refine B19 (wpS_lift (B56 ⟨rfl,?_⟩));refine B19 (qX7 h0 g3 (by lia) (by lia) u3 λf g4 a1 u4 o4=>?_)
   have r4:qD6 (arrOf f) (B22 f).toList 0 lo:=by
    rw[a1];exact qJS (λj _ o=>o4 j (.inl o)) r3
   rw[if_neg (by simp)]
   refine B19 (B63 ?_);cases eb:(B22 f).back? with
   |none=>
    dsimp only;refine B19 (B34 (B21 ?_));obtain⟨u,v⟩:=d f (min (a₀.size-lo) (minRun' a₀.size a₀.size 0)) g4 (by lia) (by lia) u4 r4
    exact⟨_,rfl,by lia,by lia,u,v⟩
   |some t=>
    obtain ⟨s1,p,q1⟩:=t;dsimp only;refine B19 (B44 (B31 (I:=fun _ c a=>c=(none,())/\gSG κ0 a₀ a/\qD6 (arrOf a) (B22 a).toList 0 lo/\gSeg (arrOf a) lo (lo+(min (a₀.size - lo) (minRun' a₀.size a₀.size 0))))
     (Q:=λc a=>c=(none,())/\gSG κ0 a₀ a/\qD6 (arrOf a) (B22 a).toList 0 lo/\gSeg (arrOf a) lo (lo+(min (a₀.size-lo) (minRun' a₀.size a₀.size 0)))) ?_ (λ_ _ q=>q) ⟨rfl,g4,r4,u4⟩) ?_)
    ·rintro x c a _ _ ⟨rfl,g6,r6,u6⟩;refine B19 (B63 ?_);by_cases z:(B22 a).size>1
     ·rw[if_pos z];cases ep:(B22 a)[(B22 a).size-2]? with
      |none=>
       dsimp only;exact B21 ⟨rfl,g6,r6,u6⟩
      |some t=>
       obtain⟨s2,n2,a3⟩:=t;dsimp only
       split
       ·exact B21 ⟨rfl,g6,r6,u6⟩
       ·refine B19 (qHR h0 g6 r6 (by lia) (by lia) λa0 g7 r7 _ o7=>?_)
        rw[if_neg (by simp)]
        refine B21 ⟨rfl,g7,r7,λi j hl m o=>?_⟩;rw[o7 i hl,o7 j (by lia)]
        exact u6 i j hl m o
     ·rw[if_neg z];exact B21 ⟨rfl,g6,r6,u6⟩
    ·rintro c a ⟨rfl,g6,r6,u6⟩;dsimp only;refine B19 (B34 (B19 (B34 (B21 ?_))));obtain⟨u,v⟩:=d (setPending a ((B22 a).modify ((B22 a).size-1) λx=>(x.fst,x.2.fst,power' a₀.size (2*s1+p) (2*s1+p+p+(min (a₀.size-lo) (minRun' a₀.size a₀.size 0))) a₀.size))) (min (a₀.size-lo) (minRun' a₀.size a₀.size 0)) ⟨g6.perm,g6.kind,g6.failed⟩ (by lia) (by lia) u6 (qNL (pw:=0) (λ_=>⟨rfl,rfl⟩) r6)
     exact⟨_,rfl,by lia,by lia,u,v⟩
  ·rw[if_neg c2];refine B19 (B63 ?_);cases eb:(B22 b).back? with
   |none=>
    dsimp only;refine B19 (B34 (B21 ?_));obtain⟨u,v⟩:=d b k g3 (by lia) (by lia) u3 r3
    exact⟨_,rfl,by lia,by lia,u,v⟩
   |some t=>
    obtain ⟨s1,p,q1⟩:=t;dsimp only;refine B19 (B44 (B31 (I:=fun _ c a=>c=(none,())/\gSG κ0 a₀ a/\qD6 (arrOf a) (B22 a).toList 0 lo/\gSeg (arrOf a) lo (lo+k))
     (Q:=λc a=>c=(none,())/\gSG κ0 a₀ a/\qD6 (arrOf a) (B22 a).toList 0 lo/\gSeg (arrOf a) lo (lo+k)) ?_ (λ_ _ q=>q) ⟨rfl,g3,r3,u3⟩) ?_)
    ·rintro x c a _ _ ⟨rfl,g6,r6,u6⟩;refine B19 (B63 ?_);by_cases z:(B22 a).size>1
     ·rw[if_pos z];cases ep:(B22 a)[(B22 a).size-2]? with
      |none=>
       dsimp only;exact B21 ⟨rfl,g6,r6,u6⟩
      |some t=>
       obtain⟨s2,n2,a3⟩:=t;dsimp only
       split
       ·exact B21 ⟨rfl,g6,r6,u6⟩
       ·refine B19 (qHR h0 g6 r6 (by lia) (by lia) λa0 g7 r7 _ o7=>?_)
        rw[if_neg (by simp)]
        refine B21 ⟨rfl,g7,r7,λi j hl m o=>?_⟩;rw[o7 i hl,o7 j (by lia)]
        exact u6 i j hl m o
     ·rw[if_neg z];exact B21 ⟨rfl,g6,r6,u6⟩
    ·rintro c a ⟨rfl,g6,r6,u6⟩;dsimp only;refine B19 (B34 (B19 (B34 (B21 ?_))));obtain⟨u,v⟩:=d (setPending a ((B22 a).modify ((B22 a).size-1) λx=>(x.fst,x.2.fst,power' a₀.size (2*s1+p) (2*s1+p+p+k) a₀.size))) k ⟨g6.perm,g6.kind,g6.failed⟩ (by lia) (by lia) u6 (qNL (pw:=0) (λ_=>⟨rfl,rfl⟩) r6)
     exact⟨_,rfl,by lia,by lia,u,v⟩
end
end L2.G
namespace L2
open PySem PySem.Spec PyProof.Rows
section
variable{prog:B20}{w:World}{A:Around}{E:Value->Shared->Prop}{s:Shared}
end
section
variable{X:Cx}
theorem qUK:∀{vs:List Value} {ns:List Int},vs.length=ns.length->(∀(i:Nat) (v:Value),vs[i]?=some v->∃n t,ns[i]?=some n/\v=.int n t)->B25 vs ns
 |[],[],_,_=>.nil
 |[],_::_,h,_=>by simp at h
 |_::_,[],h,_=>by simp at h
 |v::vs,n::ns,h,f=>by
  obtain⟨m,t,e1,e2⟩:=f 0 v rfl;cases(show n=m from D5 e1);rw[e2];exact .cons _ _ (qUK (by simpa using h) λi u hu=>by simpa using f (i+1) u (by simpa using hu))
theorem qZT {κ:Type}:∀{Af:List (κ×V)} {vs:List (κ×Value)},KV Af vs->Af.map (·.1)=vs.map (·.1):=by
 intro Af vs r;unfold KV at r
 induction r with
 |nil=>rfl
 |cons h t ih=>rw[D0,D0,ih,h.1]
noncomputable def Itd (lo:Int)(n:Nat):It:=⟨λi _=>i<n,λi H x a=>a=H/\x=.int (lo-i),λi _=>n<=i⟩
theorem qSQ {P:B20}{w:World}{K:PySem.W.Frag}{tg:Expr}(d:Addr)(lo:Int)(n:Nat):Turn P w K tg (Itd lo n) [d] d (λi h=>IsRangeIter h d (lo+(i:Nat)*(-1)) ((n:Int)-(i:Nat)) (-1)) where
 mem:=A6.mpr rfl
 obj:=λi h a b c=>by
  cases A6.mp c;exact⟨_,a,λv z=>nomatch(show A31 _=A77 v from z)⟩
 keep:=λi h g a k=>k d (A6.mpr rfl) _ a
 item:=by
  intro X l q hK p i Ab s σ H E I j a x;subst l q hK;obtain⟨m,r,f2,u,y,f5⟩:=j d (A6.mpr rfl);refine(Walks.range (prog:=X.prog) (w:=X.w) (I.ok.hd p) d lo (-1) n).item i s _ _ x a λv g tk hv f kk=>?_;obtain⟨t,rfl⟩:=hv;have I1:Inv X Ab σ H {s with heap:=g,toks:=tk}:=I.turned (λb o c e=>kk b o (by simpa using c) e) m r u y f5
  refine⟨_,rfl,qSA (s:={s with heap:=g,toks:=tk}) (n:="range_iterator") f rfl rfl (by decide) ⟨.int (lo-i),H,I1,⟨t,?_⟩,⟨rfl,rfl⟩,f,λb c=>(j b c).1⟩⟩
  rw[show lo+(i:Int)*(-1)=lo-i by lia]
 done:=by
  intro X l q hK p i Ab s σ H E I j a x;subst l q hK;obtain⟨m,r,f2,u,y,f5⟩:=j d (A6.mpr rfl);have a0:n<=i:=x;exact wpAny_pyNext_range_end (I.ok.hd p) a (by lia) λg eb=>⟨rfl,I.turned (t':=s.toks) (λb o c e=>eb b o c e) m r u y f5⟩
 self:=λ_ _ _ _ _ a h=>wpAny_pyIter_rangeiter a h
def qdG (ta:TA):TI:=λσ H R=>ta σ H λvs H1=>∃i j:Int,vs=[.int i,.int j,.int (-1)]/\(-(2^62)<=i/\i<2^62/\-(2^62)<=j/\j<2^62)/\R (Itd i (i-j).toNat) H1
theorem qTH {tg a b c:Expr} {t:TA} {p pos:Pos} (hg:Gl X "range") (x:X.mg "range" = none) (z:PA X [a,b,c] t) (hs:B24 [a,b,c] X.env=[(false,eval a X.env),(false,eval b X.env),(false,eval c X.env)]:=by rfl)
  (f:B24 [b,c] X.env=[(false,eval b X.env),(false,eval c X.env)]:=by rfl):PI X tg (.Call (.Name "range" p) [a,b,c] [] pos) (qdG t):=by
 intro n s σ H R I h;refine Call_ (qGZ I hg x boot_range (K9 (thn (z pos n s σ H _ I h) λus s1 ⟨vs,H1,I1,r1,q1⟩=>?_) (by rw[hs,f]) (by rw[f];rfl)))
 obtain⟨i,j,e,⟨q1,q2,q3,q4⟩,q⟩:=q1;subst e;obtain⟨u1,d,rfl,⟨k,rfl⟩,r2⟩:∃u d,us=u::d/\RelV (.int i) u/\Vals [.int j,.int (-1)] d:=by cases r1 with|cons r d=>exact⟨_,_,rfl,r,d⟩
 obtain⟨u2,u3,rfl,⟨g,rfl⟩,⟨l,rfl⟩⟩:=qMU r2;refine call_range_3 (by decide) ?_ (E6 (Z2 (by lia)))
 refine wpAny_pyIter_range (B12 ..) (PySem.W.small_down q1 q2 q3 q4) ?_;have m:Inv X n σ H1 {s1 with heap:=s1.heap.push {cls:=.type "range",data:=.fields #[.int i k,.int j g,.int (-1) l]},toks:=s1.toks}:=I1.kept λb o e=>A5 _ e;refine⟨(s1.heap.push {cls:=.type "range",data:=.fields #[.int i k,.int j g,.int (-1) l]}).objs.size,[(s1.heap.push {cls:=.type "range",data:=.fields #[.int i k,.int j g,.int (-1) l]}).objs.size],_,_,H1,rfl,
  m.kept (t':=s1.toks) λb o e=>A5 _ e,qSQ _ i (i-j).toNat,?_,λb w=>?_,q⟩
 ·have v:i+((0:Nat):Int)*(-1)=i:=by simp
  have y:(((i-j).toNat:Nat):Int)-((0:Nat):Int)=Q3 i j (-1):=by rw[PySem.W.rangeSize_downNat];simp
  show IsRangeIter _ _ (i+((0:Nat):Int)*(-1)) ((((i-j).toNat:Nat):Int)-((0:Nat):Int)) (-1);rw[v,y];exact B4 _ rfl
 ·cases A6.mp w;exact m.fpOk (A7 _) (m.hok.fresh (A7 _))
theorem qR5 {lo:Int}{n:Nat}{g:TG}{a:TS}{D:Ends}{σ:St}{H:Hp}(Pv:Nat->St->Hp->Prop)(j:Pv 0 σ H)
  (h:∀i σ H,i<n->Pv i σ H->g (.int (lo-i)) σ H λσ2 H2=>a {D with nx:=Pv (i+1),ct:=Pv (i+1),bk:=D.nx} σ2 H2) (b:∀σ H,Pv n σ H->D.nx σ H):
  ForG (Itd lo n) g a D σ H:=by
 refine⟨λi m σ H=>m=n-i/\i<=n/\Pv i σ H,⟨n,by simp,E8 _,j⟩,λi m σ H ⟨e,hi,p⟩=>?_⟩
 rcases Nat.lt_or_ge i n with hlt|hge
 ·refine .inr ⟨hlt,Pv (i+1),λσ' c f=>⟨n-(i+1),by lia,rfl,hlt,f⟩,λx c y=>?_⟩
  rw[y.1,y.2];exact h i σ H hlt p
 ·have d:i=n:=by lia
  rw[d] at p;exact .inl ⟨hge,b σ H p⟩
theorem qTR (d:X.A.units<cLine):OpR X (B35 .NotEq) (λx y H Q=>∃p l xs,x=.ref p/\y=.ref l/\SqL X.K H p xs/\SqL X.K H l []/\Q (.bl (!xs.isEmpty)) H):=by
 intro w s σ H x y v u Q I m g h;obtain⟨p,l,xs,rfl,rfl,t,i,q⟩:=h;cases m;cases g;obtain⟨o,n,b,z⟩:=I.list t;obtain⟨f,k,c,z2⟩:=I.list i;cases k;cases n with
 |nil=>exact A95 (e:=λ_=>true) b.isList c.isList rfl d (λj h _=>absurd h (by simp)) _ _ _ _ ⟨.bl false,H,I,rfl,q⟩
 |cons a r=>exact A50 b.isList c.isList (by simp) d _ _ _ _ ⟨.bl true,H,I,rfl,q⟩
end
open PySem.AutoSeq1 in
section
variable{X:Cx}
end
noncomputable def topI (b:Int)(l:List Int):Int:=l.foldl (λb x=>if x>b then x else b) b
section
variable{prog:B20}{w:World}{A:Around}{R:Result->Shared->Prop}{I:Addr}{fp wr:List Addr}{n:Nat}{P:Nat->Value->Prop}{St:Nat->Heap->Prop}
end
section
variable{prog:B20}{w:World}{A:Around}{E:Value->Shared->Prop}{s:Shared}
theorem qNZ {id:String}{b:Builtin}{a:List Value}{d:List (Str×Value)}{Q:Value->Shared->Prop}(m:builtinKind id=none)(k:plainId id=true)(h:entryFor table id=some b)(l:argsOk id ⟨a,d⟩)
  (j:wpAny (model prog w) A.in1 (b ⟨a,d⟩) (λfin s'=>∃c',fin=.again c'/\c'.quiet=true/\B50 (model prog w) A c' (λr s'=>∃v,r=.ok (.ret v)/\Q v s') s') E s):wpAny (model prog w) A (call (.builtin id) a d) Q E s:=by
 refine wpAny_call (codeAny_call_builtin k h ?_);have c:=B26 j (Q':=fun fin s'=>match fin with
   |.done f=>(match(Except.ok f:Result) with|.ok (.ret v)=>Q v s'|.ok _=>False|.error e=>E e s')
   |.again c'=>c'.quiet=true/\B50 (model prog w) A c' (λr s'=>match r with|.ok (.ret v)=>Q v s'|.ok _=>False|.error e=>E e s') s')
  (λfin s' ⟨c',e,h1,c⟩=>by subst e;exact⟨h1,B60 c λr s' ⟨v,e,q⟩=>by subst e;exact q⟩) λ_ _ i=>i
 simp only[checkBuiltinCall,m];cases sg:Manifest.signature? id with
 |none=>exact B17 c
 |some sig=>
  have g:Bind.checkArgs id sig ⟨a,d⟩=pure ():=by simpa only[argsOk,sg] using l
  simp only[g];exact B17 c
end
section
variable{X:Cx}
noncomputable def topD (dv:Option Int):List Int->Option Int
 |[]=>dv
 |y::r=>some (topI y r)
end
theorem qNW:entryFor table "dict.update.loop" = some Builtin.«dict.update.loop»:=entryFor_of_tree (by kernel_rfl)
theorem qGV:plainId "dict.update.loop" = true:=by decide +kernel
theorem qP9:typeLookup (.type "list") "keys" = pure none:=by rw[typeLookup_type,B88];kernel_rfl
section
variable{prog:B20}{w:World}{A:Around}{E:Value->Shared->Prop}{s:Shared}
theorem qU2 {a:Addr} {o:Obj} {xs:Array Value} {k:Nat} {Q:Option Value->Shared->Prop} (m:s.heap.get? a=some o) (j:o.cls=.type "list") (d:o.data=.seq xs k) (i:o.dict=none) (p:A.handled=none)
  (h:∀h' tk,(∀b u,s.heap.get? b=some u->h'.get? b=some u)->Q none {s with heap:=h',toks:=tk}):wpAny (model prog w) A (getAttr? (.ref a) "keys") Q E s:=by
 obtain⟨c,x,q,r⟩:=o;simp only at j d i;subst j d i;obtain⟨v,g,n,tk,t⟩:=s;have l:∀tk',(⟨v,g,n,tk',t⟩:Shared).TypeIs (.ref a) "list":=λ_=>⟨_,m,rfl⟩;have y:=sub_AttributeError;have z:=Y4.lookup;have f4:=Y4.bind (.ref a);have f5:=am_list_getattr_none;unfold getAttr? getAttrBy? getAttrBy
 repeat (any_goals (first|assumption|exact l _|((with_reducible show wpAny _ _ (call (Value.builtin "list.__getattribute__") _ _) _ _ _);refine B80 Y4 (l _) am_entry_list_getattribute (F.args_list_getattribute_2 _ _) (meets_getattribute_miss_list a xs k r "keys" _ qP9 (by decide +kernel) (by decide +kernel)) ⟨m,p,λh' tk' e f=>?_⟩)|wp_step))
 obtain⟨t',u',he⟩:=f.there;show wpAny _ _ (getattributeRaised _ _ _ _ _ _ _) _ _ _;unfold getattributeRaised
 repeat (any_goals (first|assumption|wp_step))
 exact h _ _ f.of.keeps
end
section
variable{prog:B20}{w:World}{A:Around}{R:Result->Shared->Prop}{I:Addr}{fp wr:List Addr}{n:Nat}{P:Nat->Value->Prop}{St:Nat->Heap->Prop}
theorem qXF (W:Walks prog w A.in1 I fp wr n P St)(h0:Heap)(d:Addr)(a0:d∉fp)(ps:List (Int×Value))(hn:ps.length=n)(hz:n<=B18)
  (a9:∀i v,P i v->∃r k t x,v=.ref r/\r∉wr/\r≠d/\h0.IsTuple r #[.int k t,x]/\ps[i]?=some (k,x)):
  ∀(m i:Nat) (j:Int) (tj:Tok) (s:Shared) (Af:List (Key×Value)),n-i=m->i<=n->St i s.heap->s.heap.DictOf (qB3 prog w) d Af->Af.length<=i->(∀b o,b∉wr->b≠d->h0.get? b=some o->s.heap.get? b=some o)->
  (∀h' tk,h'.DictOf (qB3 prog w) d ((ps.drop i).foldl (λm q=>stored m (E3 q.1) q.2) Af)->(∀b o,b∉wr->b≠d->h0.get? b=some o->h'.get? b=some o)->R (.ok (.ret .none)) {s with heap:=h',toks:=tk})->
  B50 (model prog w) A (.builtin "dict.update.loop" ⟨[.ref d,.ref I,.int j tj,.none],[]⟩) R s:=by
 have y:d∉wr:=λh=>a0 (W.sub _ h);intro m
 induction m with
 |zero=>
  intro i j tj s Af hm hi st hd hl hk p;have e:i=n:=by lia
  refine B36 qNW ?_;rw[G3 qGV _];show wpAny _ A.in1 (pyNext (.ref I) >>= _) _ _ s;refine B16 (W.done s _ _ (e▸st) λh' tk a=>?_);show wpAny _ A.in1 (Builtin.Dict.addKeywords d [] >>= λ_=>ret Q0) _ _ _;rw[A03 (by lia)] at p
  exact B16 (B17 (B17 (p h' tk (hd.at λo eo=>a d o y eo) λb o f c g=>a b o f (hk b o f c g))))
 |succ m ih=>
  intro i j tj s Af hm hi st hd hl hk p;have a1:i<n:=by lia
  refine B36 qNW ?_;rw[G3 qGV _];show wpAny _ A.in1 (pyNext (.ref I) >>= _) _ _ s;refine B16 (W.item i s _ _ a1 st λv h' tk hP a7 a=>?_);obtain⟨r,k,t,x,rfl,l,ac,ht,ep⟩:=a9 i v hP;have ed:ps.drop i=(k,x)::ps.drop (i+1):=by
   obtain⟨ad,e⟩:=A4.mp ep;rw[J6 ad,e]
  rw[ed] at p;have aa:h'.IsTuple r #[.int k t,x]:=by
   obtain⟨o,e1,e2,e3⟩:=ht;exact⟨o,a r o l (hk r o l ac e1),e2,e3⟩
  obtain⟨o,ho,ab,no,a4⟩:=aa;have a6:h'.DictOf (qB3 prog w) d Af:=hd.at λo eo=>a d o y eo;refine B16 (B27 (B16 ?_));show wpAny _ A.in1 (tryCatch (A04 (.ref r)) _) _ _ _;refine B48 ?_;unfold A04;refine B16 (wpAny_typeOf (T:="tuple") ⟨o,ho,ab⟩ ?_);rw[if_pos (by decide)]
  refine B16 (B67 ho a4 (B17 ?_));show wpAny _ A.in1 (B62 [Q8 k t,x] (dictSet d (.int k t) x)) _ _ _;refine B27 (wpAny_dictSet_pairs (hsz:=by lia) (k:=E3 k) (by rw[qRZ];exact qNG k t) a6 λh2 a8 sb=>?_)
  have u:(stored Af (E3 k) x).length<=i+1:=by
   unfold stored
   split
   ·rw[A0];lia
   ·rw[A9,C2];lia
  refine B17 ⟨B42 qGV _,ih (i+1) _ _ _ (stored Af (E3 k) x) (by lia) a1 (W.frame _ _ _ a7 λb f o g=>?_) a8 u (λb o f c g=>?_) λh3 a5 a2 a3=>p h3 a5 a2 a3⟩
  ·rw[sb.2 b (λz:b=d=>a0 (z▸f))];exact g
  ·rw[sb.2 b c];exact a b o f (hk b o f c g)
end
section
variable{prog:B20}{w:World}{A:Around}{E:Value->Shared->Prop}{s:Shared}
theorem qO5 {l:Addr} {o:Obj} {a:Array Value} {nl:Nat} {ps:List (Int×Value)} {Q:Value->Shared->Prop} (hA:A.handled=none) (hl:s.heap.get? l=some o) (hc:o.cls=.type "list") (d:o.data=.seq a nl) (a1:o.dict=none) (hn:ps.length=a.size) (hz:a.size<=B18)
  (a2:∀(i:Nat) v,a[i]?=some v->∃r k t x,v=.ref r/\s.heap.IsTuple r #[.int k t,x]/\ps[i]?=some (k,x))
  (h:∀h' tk,h'.DictOf (qB3 prog w) s.heap.objs.size (ps.foldl (λm q=>stored m (E3 q.1) q.2) [])->(∀b u,s.heap.get? b=some u->h'.get? b=some u)->Q (.ref s.heap.objs.size) {s with heap:=h',toks:=tk}):
  wpAny (model prog w) A (call (.type "dict") [.ref l]) Q E s:=by
 refine callType_codes (Q₁:=λy s₁=>y=.ref s.heap.objs.size/\s₁={s with heap:=s.heap.push {cls:=.type "dict",data:=.dict #[]}}) F.kt_called_dict (F.kt_typeCall_dict_1 _) F.entry_dict_init (kt_code_dict_new _ ⟨rfl,rfl⟩) ?_;rintro y s₁ ⟨rfl,rfl⟩;have nw:(s.heap.push {cls:=.type "dict",data:=.dict #[]}).DictOf (qB3 prog w) s.heap.objs.size []:=A80 s.heap;have c:(s.heap.push {cls:=.type "dict",data:=.dict #[]}).get? l=some o:=A5 _ hl;have a3:l<s.heap.objs.size:=B7 hl;refine⟨nw.typeIs,F.args_dict_init_2 _ _,?_⟩;unfold Builtin.«dict.__init__»;refine B16 ?_;unfold Builtin.Dict.selfAndRest;refine B16 (wpAny_notOrdered_dict nw.typeIs ?_);show wpAny _ _ (pure (s.heap.objs.size,[D7 l])) _ _ _;refine B17 ?_;show wpAny _ _ (z9 "dict.__init__" s.heap.objs.size (.ref l) [] .none) _ _ _;unfold z9;refine B16 (wpAny_typeOf (T:="list") ⟨o,c,hc⟩ ?_);rw[if_pos (by decide)]
 refine B16 (qU2 c hc d a1 hA λh1 a8 g=>?_);rw[if_pos (show(none:Option Value).isNone=true from rfl)];have p:h1.IsList l a:=⟨o,g _ _ c,hc,nl,d⟩;have j:l<h1.objs.size:=B7 (g _ _ c);have f:s.heap.objs.size<h1.objs.size:=by
  obtain⟨_,_,_,e,_⟩:=nw;exact B7 (g _ _ e)
 refine B16 (B56 (B16 (B40 p ?_)));refine B17 ⟨B42 qGV _,?_⟩;refine qXF (n:=a.size) (A57 (A:=A.in1.in1) hA _ l (D2 j) a) h1 s.heap.objs.size ?_ ps hn hz (λi v hv=>?_) a.size 0 _ _ _ [] rfl (E8 _) ⟨⟨_,B4 _ rfl,rfl,rfl⟩,p.push _⟩ ((nw.keep g).push _) (A7 _) (λb u hb a9 eb=>A5 _ eb) λh' tk a7 a6=>?_
 ·simp only[C0,X4,or_false,not_or];exact⟨D2 f,V5 a3⟩
 ·obtain⟨r,k,t,x,e1,e2,e3⟩:=a2 i v hv;obtain⟨or,hr,a5,a4⟩:=e2;have z:=B7 hr;refine⟨r,k,t,x,e1,?_,D2 z,⟨or,g _ _ (A5 _ hr),a5,a4⟩,e3⟩;simp only[C0,X4,or_false];exact D2 (Y2 z f)
 ·refine⟨rfl,h h' tk a7 λb u eb=>?_⟩;have a0:=B7 eb;refine a6 b u ?_ (D2 a0) (g _ _ (A5 _ eb));simp only[C0,X4,or_false];exact D2 (Y2 a0 f)
end
theorem qLX {α β:Type}{F:α->β->Prop}:∀{l₁:List α} {l₂:List β} {i:Nat} {a:α},Paired F l₁ l₂->l₁[i]?=some a->∃b,l₂[i]?=some b/\F a b
 |_,_,_,_,.nil,e=>by simp at e
 |_,_,0,_,.cons r _,e=>by simp at e;subst e;exact⟨_,rfl,r⟩
 |_,_,i+1,a,.cons _ t,e=>by
  obtain⟨b,h1,h2⟩:=qLX (i:=i) (a:=a) t (by simpa using e)
  exact⟨b,by simpa using h1,h2⟩
theorem qOX {h:Heap} {p:Addr} {a:Array Value} (x:PlainL h p a):∃o,h.get? p=some o/\o.cls=.type "list"/\o.dict=none/\∃n,o.data=.seq a n:=by
 obtain⟨o,n,c,e,d,b⟩:=x;exact⟨o,c,e,d,n,b⟩
section
variable{X:Cx}
def qQQ (H:Hp)(K:PySem.W.Frag)(rs:List Addr)(ps:List (Int×V)):Prop:=Paired (λr (q:Int×V)=>SqT K H r [.int q.1,q.2]) rs ps
noncomputable def qCQ (Af:List (Key×V))(ps:List (Int×V)):List (Key×V):=ps.foldl (λm q=>putK m (E3 q.1) q.2) Af
theorem qKL:∀(ps:List (Int×V)) (Af:List (Key×V)),(qCQ Af ps).length<=Af.length+ps.length
 |[],Af=>by simp[qCQ]
 |q::ps,Af=>by
  have:=qKL ps (putK Af (E3 q.1) q.2);have:=qCH Af (E3 q.1) q.2;show(qCQ (putK Af (E3 q.1) q.2) ps).length<=Af.length+(q::ps).length;rw[D6]
  lia
theorem qT8 {Ab:List (Addr×Obj)}{σ:St}{H:Hp}{s:Shared}(I:Inv X Ab σ H s):∀{rs:List Addr} {ps:List (Int×V)},qQQ H X.K rs ps->
  ∃qs:List (Int×Value),Paired (λr (q:Int×Value)=>∃t,s.heap.IsTuple r #[.int q.1 t,q.2]) rs qs/\Paired (λ(p:Int×V) (q:Int×Value)=>p.1=q.1/\RelV p.2 q.2) ps qs:=by
 intro rs ps h;unfold qQQ at h
 induction h with
 |nil=>exact⟨[],.nil,.nil⟩
 |@cons r q rs ps h t ih=>
  obtain⟨qs,g,c⟩:=ih;obtain⟨f,e,i,k⟩:=I.tuple h;obtain⟨j,a,rfl,⟨b,rfl⟩,d⟩:=qMU e;exact⟨(q.1,a)::qs,.cons ⟨b,i⟩ g,.cons ⟨rfl,d⟩ c⟩
theorem qZ6:∀{ps:List (Int×V)} {qs:List (Int×Value)} {Af:List (Key×V)} {vs:List (Key×Value)},Paired (λ(p:Int×V) (q:Int×Value)=>p.1=q.1/\RelV p.2 q.2) ps qs->KV Af vs->KV (qCQ Af ps) (qs.foldl (λm q=>stored m (E3 q.1) q.2) vs):=by
 intro ps qs Af vs h
 induction h generalizing Af vs with
 |nil=>exactλr=>r
 |cons h t ih=>
  intro r;refine ih ?_;dsimp only;rw[<- h.1];exact r.put _ h.2
theorem qSJ (hc:X.calm=true):qCF X (.type "dict") (λxs H Q=>∃(p:Addr) (rs:List Addr) (ps:List (Int×V)),xs=[.ref p]/\SqL X.K H p (rs.map V.ref)/\qQQ H X.K rs ps/\∀d,H d=none->Q (.ref d) (Ag H d (.dK (qCQ [] ps)))):=by
 intro Ab s σ H xs us Q I r h;obtain⟨p,rs,ps,rfl,hq,hp,q⟩:=h;obtain⟨u,rfl,rx⟩:=qE1 r;cases rx;obtain⟨k,y,pl,hz⟩:=I.list hq;obtain⟨g,h1,m⟩:=qT8 I hp;have w:=y.length;rw[A0] at w;have l1:rs.length=g.length:=C3 h1;have l2:ps.length=g.length:=C3 m;obtain⟨o,ho,j,f,n,c⟩:=qOX pl;rw[A0] at hz;refine qO5 (ps:=g) (I.ok.hd hc) ho j c f (by simp;lia) (by simp;lia) (λi v hv=>?_) λh' tk l hk=>?_
 ·have e:k[i]?=some v:=by simpa using hv
  have hi:i<rs.length:=by rw[w];exact(A4.mp e).1
  obtain⟨u,hu,ru⟩:=y.get (i:=i) (x:=.ref rs[i]) (by rw[B6,A3 hi];rfl)
  rw[e] at hu;cases hu;cases ru;obtain⟨b,hb,t,ht⟩:=qLX h1 (A3 hi);exact⟨rs[i],b.1,t,b.2,rfl,ht,hb⟩
 ·have z:(qCQ [] ps).length<=B18:=by
   have:=qKL ps [];simp at this
   lia
  refine⟨.ref s.heap.objs.size,_,I.laid (a:=s.heap.objs.size) (o:=.dK (qCQ [] ps)) (t':=tk) hk (A7 _) (qV6 z (beq_eq_false_iff_ne.mpr (J3 (D2 I.big))) (qZ6 m .nil) l),rfl,q _ (I.hok.fresh (A7 _))⟩
def qcZ (K:PySem.W.Frag):R2:=λx y H Q=>∃a b xs ys,x=.ref a/\y=.ref b/\SqT K H a xs/\SqT K H b ys/\ys≠[]/\xs.length+ys.length<=B18/\(xs=[]->Q (.ref b) H)/\(xs≠[]->∀p,H p=none->Q (.ref p) (Ag H p (.tup (xs++ys))))
theorem qZG:OpR X (B43 .Add) (qcZ X.K):=by
 intro Ab s σ H x y v u Q I o ry h;obtain⟨a,b,xs,ys,rfl,rfl,q,m,hy,hz,q1,q2⟩:=h;by_cases k:xs=[]
 ·subst k;cases o;cases ry;obtain⟨a1,r1,p1,_⟩:=I.tuple q;obtain⟨e,r2,p2,_⟩:=I.tuple m;cases r1;obtain⟨⟨a0,dd,p,sl⟩,w,t,n,l⟩:=id p1;obtain⟨⟨r,j,i,g⟩,c,d,n2,f⟩:=id p2;simp only at t l d f;subst t l d f;exact concat_meets ⟨_,w,rfl⟩ ⟨_,c,rfl⟩ noFill_tuple_add seq_tuple_add Z5 Y8 (Y0 _ _) (tuple_addW0 a b #[] e.toArray n n2 dd j sl g rfl) ⟨w,c,.ref b,H,I,rfl,q1 rfl⟩
 ·exact qZF Ab s σ H (.ref a) (.ref b) v u Q I o ry ⟨a,b,xs,ys,rfl,rfl,q,m,k,hz,λz=>absurd z hy,λ_=>q2 k⟩
end
open PySem
noncomputable def g5:Nat->Nat
 |0=>0
 |n+1=>5*g5 n+1
structure TabG (byText:Bool)(t:B64)(n:Nat):Prop where
 pow:∃k,3<=k/\t.mask+1=2^k
 dum:t.dummies=#[]
 plain:t.plain=true
 led:t.led=!byText
 size:t.place.size=n
 up:t.place.toList.Pairwise (·<·)
 le:∀j∈t.place.toList,j<=t.mask
section
variable{byText:Bool}{t:B64}{n:Nat}
end
section
variable{mask:Nat}{owner:Array (Option Nat)}
end
structure Own (N:Nat)(L:List Nat)(owner:Array (Option Nat)):Prop where
 size:owner.size=N
 nd:L.Nodup
 lt:∀j∈L,j<N
 at_:∀(m j:Nat),L[m]?=some j->owner[j]?=some (some m)
 no:∀j,j<N->j∉L->owner[j]?=some none
section
variable{prog:B20}{w:World}{A:Around}{E:Value->Shared->Prop}{s:Shared}
end
section
variable{prog:B20}{w:World}{A:Around}{R:Result->Shared->Prop}{I:Addr}{fp wr:List Addr}{G:Array B75->Array B75->Prop}{n:Nat}{P:Nat->Value->Prop}{St:Nat->Shared->Prop}
end
section
variable{prog:B20}{w:World}{A:Around}{E:Value->Shared->Prop}{s:Shared}
end
section
variable{prog:B20}{w:World}{A:Around}{E:Value->Shared->Prop}{s:Shared}{a I:Addr}{es:Array (Int×Value)}{ep:Nat}{t:B64}{i:Nat}
end
section
variable{X:Cx}
end
section
variable{prog:B20}{w:World}{A:Around}{E:Value->Shared->Prop}{s:Shared}
end
section
variable{X:Cx}
end
structure Ex (B:Heap)(l:List Env)(e:Addr)(cls:Value)(dd:Option Addr)(nt:Bool)(h:Heap):Prop where
 stays:B.StaysIn h
 new:B.get? e=none
 frames:h.FunFrames B l
 rec_:∃(oe:Obj) (vs:Array Value) (x1:Value),h.get? e=some oe/\oe.cls=cls/\oe.dict=dd/\oe.data=.fields vs/\vs[1]?=some x1/\
  ((x1=.none/\nt=false)\/∃(T:Addr) (oT:Obj) (ts:Array Value) (x3:Value),x1=.ref T/\B.get? T=none/\T≠e/\h.get? T=some oT/\oT.data=.fields ts/\ts[3]?=some x3)
section
variable{M:Model}{A:Around}{E:Value->Shared->Prop}{s:Shared}{B:Heap}{env:Env}{outer l:List Env}{L e:Addr}{cls:Value}{dd:Option Addr}{nt:Bool}{Q:Unit->Shared->Prop}
end
def Kp (outer:List Env)(H':Hp)(h0:Heap)(b:Addr):Prop:=(∃o,H' b=some o)\/((∃o,h0.get? b=some o)/\b∉frs outer)
structure XD (P:B20)(w:World)(outer l:List Env)(H:Hp)(h0:Heap)(e:Addr)(cls:Value)(dd:Option Addr)(H':Hp)(B:Heap)(nt:Bool)(h:Heap):Prop where
 un:Un (frs outer) [] H H' h0 h
 hok:HOk P w H' h
 ex:Ex B l e cls dd nt h
 kp:∀b o,h.get? b=some o->Kp outer H' h0 b->B.get? b=some o
 ne:H' e=none
 ge:h0.objs.size<=e
def XP (X:Cx)(G:XK)(ev:Value)(s':Shared):Prop:=X.A.frames=some X.stack/\∃(e:Addr) (cls:Value) (dd:Option Addr) (H':Hp) (B:Heap) (nt:Bool),ev=.ref e/\s'.os=X.s₀.os/\AllBare s'.gens/\XD X.prog X.w X.outer X.stack X.H₀ X.s₀.heap e cls dd H' B nt s'.heap/\G cls dd H'
section
variable{X:Cx}{E:XK}{G:XK}{Ab:List (Addr×Obj)}{σ:St}{H:Hp}{s s':Shared}
end
section
variable{P:B20}{w:World}{K:PySem.W.Frag}{mg:Str->Option Value}{base:Heap}
end
section
variable{X:Cx}{Ab:List (Addr×Obj)}{σ:St}{H:Hp}{s:Shared}{ev:Value}
end
section
variable{X:Cx}
end
noncomputable def bmV:List Value:=[.type "ValueError",.type "Exception",.type "BaseException",.type "object"]
noncomputable def xcIn (K:PySem.W.Frag)(C:Addr)(init:Option Value):Bool:=match K.lookup C with
 | some ⟨.type "type",_,.cls cd,sl⟩=>(match cd.mro,sl.toList with
  |.ref C'::bm,[_,_,_,_,some (.builtin n),_]=>C'==C&&n == "ValueError.__new__" && !cd.hasDel&&cd.hasDict&&PySem.W.tailIn K bmV bm&&PySem.W.nsOkIn K cd.ns&&n8 K cd.ns "__init__" == some init
  |_,_=>false)
 |_=>false
structure XCls (K:PySem.W.Frag)(C:Addr)(init:Option Value):Prop where
 cls:xcIn K C init=true
 set:P7 K (.ref C) "__setattr__" = some (some (.builtin "object.__setattr__"))
 kp:Q4 K (.ref C)=true
section
variable{prog:B20}{w:World}{A:Around}{E:Value->Shared->Prop}{h:Heap}{g:Array B75}{d:Drawn}{t:Nat}{os:OsState}{K:PySem.W.Frag}{C x:Addr}{init:Option Value}{mA:Str->Option Value}{name:Str}{v:Value}{ns:List Str}
end
section
variable{prog:B20}{w:World}{A:Around}{R:Result->Shared->Prop}{h:Heap}{g:Array B75}{d:Drawn}{t:Nat}{os:OsState}{K:PySem.W.Frag}{C fI:Addr}{rest:List Value}
end
section
variable{M:Model}{A:Around}{E:Value->Shared->Prop}{env:Env}{K:PySem.W.Frag}{C:Addr}{init:Option Value}
end
section
variable{X:Cx}{Ab:List (Addr×Obj)}{σ:St}{H:Hp}{s:Shared}
end
section
variable{X:Cx}
end
structure XGet (K:PySem.W.Frag)(C:Addr):Prop where
 ga:P7 K (.ref C) "__getattribute__" = some (some (.builtin "BaseException.__getattribute__"))
 gt:P7 K (.ref C) "__getattr__" = some none
 be:A38 K C (.type "BaseException")=some true
 hd:A52 K C=true
section
variable{prog:B20}{w:World}{A:Around}{E:Value->Shared->Prop}{s:Shared}{K:PySem.W.Frag}{x C:Addr}{ox:Obj}{od:Option Obj}{name:Str}{tk:Tok}
end
structure XTy (K:PySem.W.Frag)(C:Addr):Prop extends XGet K C where
 ca:P7 K (.ref C) "__class__" = some (some (.builtin "object.__class__"))
 cn:t0 K (.builtin "object.__class__") "__get__" = some (some (.builtin "getset_descriptor.__get__"))
 ct:A78 K (.builtin "object.__class__")=some true
 cm:A38 K C (.type "object")=some true
section
variable{K:PySem.W.Frag}
end
section
variable{X:Cx}
end
structure RoomH (k:Nat)(A:Around):Prop where
 dp:A.depth+3*k+5<recursionLimit
 un:A.units+16*k+200<cLine
structure FnOkH (P:B20)(w:World)(K:PySem.W.Frag)(mg:Str->Option Value)(base:Heap)(CX:CXT)(k:Nat)(f:Addr)(fd:B37)(ps:List Str)(sp:Sp):Prop where
 len:∀vs H Q E,sp vs H Q E->vs.length=ps.length
 run:∀(A:Around) (outer:List Env) (s:Shared) (H:Hp) (args:Args) (us:List Value) (vs:List V) (Q:VK) (E:XK),RoomH k A->Env0 P w K mg base A outer s H->BindsTo s fd args (ps.zip us)->Vals vs us->sp vs H Q E->
  B50 (model P w) A (.call (.ref f) args) (CR CX outer P w H s Q E) s
section
variable{P:B20}{w:World}{K:PySem.W.Frag}{mg:Str->Option Value}{base:Heap}
end
section
variable{X:Cx}{CX:CXT}{k:Nat}{f C:Addr}{fd:B37}{ps:List Str}{sp:Sp}{dvs:List V}{ds:List Value}{E:XK}{x m:Str}{p pos apos:Pos}{e o:Expr}{es:List Expr}{ta:TE}{t:TA}
end
section
variable{X:Cx}
end
section
variable{prog:B20}{w:World}{A:Around}{E:Value->Shared->Prop}{s:Shared}
end
section
variable{X:Cx}
theorem qMM (m:X.calm=true):qCF X (.builtin "sum") (λxs H Q=>∃(p:Addr) (ns:List Int),xs=[.ref p]/\SqL X.K H p (ns.map V.int)/\Q (.int ns.sum) H):=by
 intro v s σ H xs z Q I r h;obtain⟨p,ns,rfl,i,q⟩:=h;obtain⟨u,rfl,k⟩:=qE1 r;cases k;obtain⟨c,l,j,hz⟩:=I.list i;have f:=qDJ l;obtain⟨xs,d⟩:=f.allInts.items;have a:s.heap.IsList p (intItems xs):=d▸j.isList;refine sum_intListG (I.ok.hd m) a λx w y t=>?_;have g:ns=xs.toList.map (·.1):=by
  rw[<- nums_intItems,<- d];exact(show numsOf c.toArray.toList=ns from f.numsOf).symm
 have n:preSum (numAt xs) xs.size=ns.sum:=by
  rw[preSum_eq,C7 (by simp),g]
 rw[n];exact⟨.int ns.sum,H,I.kept λb o e=>t b o e,⟨_,rfl⟩,q⟩
end
theorem qVG:∀(names:List (Str×B53)) (n:Nat) (a acc:List (Str×Addr)),B38 n names (a++acc)=B38 n names a++acc
 |[],_,_,_=>rfl
 |(y,k)::r,n,a,acc=>by
  unfold B38
  split
  ·exact qVG r (n+1) ((y,n)::a) acc
  ·exact qVG r n a acc
theorem qVF {x:Str}{c:Addr}:∀{names:List (Str×B53)} {n:Nat} {acc:List (Str×Addr)},(x,c)∈B38 n names acc->(x,j7)∈names\/(x,c)∈acc
 |[],_,_,h=>.inr h
 |(y,k)::r,n,acc,h=>by
  unfold B38 at h
  split at h
  ·rename_i hk
   have hk':k=j7:=by simpa using hk
   subst hk';rcases qVF h with h|h
   ·exact .inl (B5 _ h)
   ·rcases C0.mp h with e|h
    ·cases e;exact .inl (E7 ..)
    ·exact .inr h
  ·rcases qVF h with h|h
   ·exact .inl (B5 _ h)
   ·exact .inr h
theorem qWN {l m:List (Str×Addr)}{x:Str}{c:Addr}(h:(l++m).lookup x=some c):l.lookup x=some c\/(l.lookup x=none/\m.lookup x=some c):=by
 rw[List.lookup_append] at h;cases e:l.lookup x with
 |some d=>rw[e] at h;exact .inl h
 |none=>rw[e] at h;exact .inr ⟨rfl,h⟩
theorem qRW {M:Model}{A:Around}{E:Value->Shared->Prop}{s:Shared}{a:Scope}{b:Addr}{c:List (Str×Addr)}{e:Str}{d:Env}{Q:Env->Shared->Prop}
  (h:Q (newEnv a s.heap.objs.size b (B38 (s.heap.objs.size+1) a.names c) e none .none (some d) B69) {s with heap:=B68 (s.heap.push {cls:=.type "dict",data:=.dict #[]}) a.names}):
  wpAny M A (newFunctionEnv a b c [] e none .none (some d)) Q E s:=by
 simp only[newFunctionEnv,A40,if_true];refine B16 (wpAny_alloc ?_);refine B16 (wpAny_layCells _ (λi f g=>by cases hkc:f==j7<;>simp[hkc]) _ _ _ _ ?_)
 rw[show({s with heap:=s.heap.push {cls:=.type "dict",data:=.dict #[]}}:Shared).heap.objs.size=s.heap.objs.size+1 from L7 ..];exact B16 (B17 (B17 h))
noncomputable def qE6 (X:Cx)(a:Scope)(own:List Str)(fv:List Nat)(z:LcZ):Cx:={lcCx X a own fv z with fn:=λx=>own.contains x}
structure LcScopeO (X:Cx)(scope:Scope)(own:List Str)(fv:List Nat):Prop where
 kind:scope.kind=.function
 names:∀y∈scope.names,y.2=.local->scope.names.lookup y.1=some .local
 cells:∀y∈scope.names,y.2=.cell->scope.names.lookup y.1=some .cell
 frees:∀y∈scope.names,y.2=.free->scope.names.lookup y.1=some .free
 free:∀y∈scope.names,y.2=.free->X.env.kindOf y.1=some .cell\/X.env.kindOf y.1=some .free
 nd:(own++fv.map λi=>X.N.getD i O0).Nodup
 fvs:∀i∈fv,i<X.N.length/\scope.names.lookup (X.N.getD i O0)=some .free
 owns:∀x∈own,scope.names.lookup x=some .local\/scope.names.lookup x=some .cell
noncomputable def qU4 (scope:Scope)(own:List Str)(fv:List Nat)(osc:Scope)(N:List Str):Bool:=
 decide (scope.kind=.function)&&scope.names.all (λy=>decide (y.2≠.local)||decide (scope.names.lookup y.1=some .local))&&scope.names.all (λy=>decide (y.2≠.cell)||decide (scope.names.lookup y.1=some .cell))&&scope.names.all (λy=>decide (y.2≠.free)||decide (scope.names.lookup y.1=some .free)) &&
 scope.names.all (λy=>decide (y.2≠.free)||(decide (osc.names.lookup y.1=some .cell)||decide (osc.names.lookup y.1=some .free)))&&decide ((own++fv.map λi=>N.getD i O0).Nodup) &&
 (fv.all λi=>decide (i<N.length)&&decide (scope.names.lookup (N.getD i O0)=some .free))&&own.all λx=>decide (scope.names.lookup x=some .local)||decide (scope.names.lookup x=some .cell)
theorem los {X:Cx}{a:Scope}{own:List Str}{fv:List Nat}(h:qU4 a own fv X.env.scope X.N=true):LcScopeO X a own fv:=by
 unfold qU4 at h;simp only[L6,decide_eq_true_eq,J5,P9] at h;obtain⟨⟨⟨⟨⟨⟨⟨l,j⟩,i⟩,g⟩,k⟩,d⟩,c⟩,f⟩:=h;exact⟨l,λy b e=>(j y b).resolve_left λz=>z e,λy b e=>(i y b).resolve_left λz=>z e,λy b e=>(g y b).resolve_left λz=>z e,λy b e=>(k y b).resolve_left λz=>z e,d,c,f⟩
section
variable{X:Cx}{Ab:List (Addr×Obj)}{σ:St}{H:Hp}{s:Shared}
theorem qNY {env:Env}{x:Str}{c:Addr}:∀{names:List (Str×B53)} {acc:List (Str×Addr)},(qD8 env names acc).lookup x=some c->(x,G0)∈names\/acc.lookup x=some c
 |[],_,h=>.inr h
 |(y,k)::r,acc,h=>by
  unfold qD8 at h;rcases qNY h with h2|h2
  ·exact .inl (B5 _ h2)
  ·split at h2
   ·rename_i hk
    have hk':k=G0:=by simpa using hk
    subst hk';by_cases e:x=y
    ·subst e;exact .inl (E7 ..)
    ·rw[V1,beq_eq_false_iff_ne.mpr e] at h2;exact .inr h2
   ·exact .inr h2
theorem qEN {a:Scope}{own:List Str}{fv:List Nat}(I:Inv X Ab σ H s)(S:LcScopeO X a own fv){x:Str}{c:Addr}(h:(B38 (s.heap.objs.size+1) a.names (qD8 X.env a.names [])).lookup x=some c):
  ((B38 (s.heap.objs.size+1) a.names []).lookup x=some c/\a.names.lookup x=some .cell/\s.heap.objs.size+1<=c/\(B68 (s.heap.push {cls:=.type "dict",data:=.dict #[]}) a.names).IsCell c none)\/
  (X.env.cells.lookup x=some c/\a.names.lookup x=some .free/\c<s.heap.objs.size):=by
 have d:∀x,(x,G0)∈a.names->∃c,X.env.cells.lookup x=some c:=λx j=>I.ok.has x (S.free _ j rfl);have ok:=cellsFrom_ok a.names (s.heap.push {cls:=.type "dict",data:=.dict #[]}) (s.heap.objs.size+1) [] ⟨λ_ _ b=>(nomatch b),b8⟩ (by rw[L7];exact A7 _)
 rw[L7] at ok;have e:=qVG a.names (s.heap.objs.size+1) [] (qD8 X.env a.names []);rw[l6] at e;rw[e] at h;rcases qWN h with h|⟨_,h⟩
 ·have b:=F1 h;have g:=(qVF b).resolve_right (λz=>nomatch z);exact .inl ⟨h,S.cells _ g rfl,(ok.empty x c b).2,(ok.empty x c b).1⟩
 ·have f:=qEB (env:=X.env) (names:=a.names) (acc:=[]) d (λx c z=>by simp at z) x c h
  have i:=(qNY h).resolve_right (λz=>by simp at z)
  obtain⟨v,z⟩:=I.cell x c f;exact .inr ⟨f,S.frees _ i rfl,z.lt⟩
theorem qY1 {a:Scope}{own:List Str}{fv:List Nat}(I:Inv X Ab σ H s)(S:LcScopeO X a own fv){x:Str}(h:a.names.lookup x=some .cell\/a.names.lookup x=some .free):∃c,(B38 (s.heap.objs.size+1) a.names (qD8 X.env a.names [])).lookup x=some c:=by
 refine Q1.mp (Z3 a.names _ _ ?_);rcases h with h|h
 ·exact .inl h
 ·exact .inr (Q1.mpr (qEC (.inl (F1 h))))
theorem qbR {a:Scope}{own:List Str}{fv:List Nat}{i:List Addr}(I:Inv X Ab σ H s)(S:LcScopeO X a own fv)(g:∀b∈i,FpOk X Ab H b)(hsz:∀b∈i,b<s.heap.objs.size):
  (qE6 X a own fv ⟨s.heap.objs.size,B38 (s.heap.objs.size+1) a.names (qD8 X.env a.names []),i,s,H⟩).Ok:=by
 have ok:=cellsFrom_ok a.names (s.heap.push {cls:=.type "dict",data:=.dict #[]}) (s.heap.objs.size+1) [] ⟨λ_ _ n=>(nomatch n),b8⟩ (by rw[L7];exact A7 _)
 rw[L7] at ok;refine⟨I.ok.mod,S.kind,I.ok.glob,I.ok.blt,A7 _,λx y c r p=>?_,λx m=>?_,λx c m q=>?_,I.ok.hd,I.ok.frames,.inl rfl,λb f=>⟨?_,λx c e=>?_⟩,I.bs,F3 I.ok.bsz I.sz,λb o e f=>?_,λb f h=>?_,I.stack,I.stkFree⟩
 ·rcases qEN I S r with⟨a1,_,a2,_⟩|⟨a1,_,a2⟩<;>rcases qEN I S p with⟨l,_,j,_⟩|⟨l,_,j⟩
  ·exact name_of_addr ok.apart (F1 a1) (F1 l)
  ·exact absurd (D4 j (W4 a2)) (O2 _)
  ·exact absurd (D4 a2 (W4 j)) (O2 _)
  ·exact I.ok.inj x y c a1 l
 ·refine qY1 I S ?_;have d:(B58 a X.env).names.lookup x=some .cell\/(B58 a X.env).names.lookup x=some .free:=m;unfold B58 at d;rw[qBZ] at d;cases e:a.names.lookup x with
  |none=>rw[e] at d;simp at d
  |some k=>
   rw[e] at d;simp only[O9,A55] at d;cases k with
   |free=>exact .inr rfl
   |cell=>exact .inl rfl
   |_=>simp at d
 ·have d:x∈own:=by simpa using(show own.contains x=true from m)
  rcases qEN I S q with⟨_,_,a2,_⟩|⟨_,a1,_⟩
  ·exact W4 a2
  ·rcases S.owns x d with z|z<;>(rw[z] at a1;cases a1)
 ·exact D2 (hsz b f)
 ·rcases qEN I S e with⟨_,_,a2,_⟩|⟨a1,_,a2⟩
  ·exact V5 (D4 (hsz b f) (W4 a2))
  ·exact(g b f).2.2.2.2.1 x c a1
 ·rcases(g b f).2.2.2.1 with z|z
  ·exact I.ok.noex b o e z
  ·exact absurd (D4 (B7 (I.ok.bs b o e).1) z) (O2 _)
 ·rcases C0.mp (I.stkSub b h) with z|z
  ·exact(g b f).2.1 z
  ·exact(g b f).2.2.1 z
theorem qWO {a:Scope}{own:List Str}{fv:List Nat}{fp:List Addr}(I:Inv X Ab σ H s)(S:LcScopeO X a own fv)(hf:∀b∈fp,FpOk X Ab H b)(hsz:∀b∈fp,b<s.heap.objs.size):
  Inv (qE6 X a own fv ⟨s.heap.objs.size,B38 (s.heap.objs.size+1) a.names (qD8 X.env a.names []),fp,s,H⟩) [] (qEO own fv σ) H {s with heap:=B68 (s.heap.push {cls:=.type "dict",data:=.dict #[]}) a.names}:=by
 have r:∀b o,s.heap.get? b=some o->(B68 (s.heap.push {cls:=.type "dict",data:=.dict #[]}) a.names).get? b=some o:=λb o e=>pushCells_keeps _ _ b o (A5 _ e);have a3:(B68 (s.heap.push {cls:=.type "dict",data:=.dict #[]}) a.names).Ns s.heap.objs.size (λ_=>none):=(Heap.Ns.new s.heap (.type "dict")).keeps (pushCells_keeps _ _);refine⟨qbR I S hf hsz,rfl,I.bare,Un.kept r,⟨_,a3,λi x v f d h3=>?_⟩,λx c e=>?_,I.hok.fresh (A7 _),λx c e=>?_,λp hp=>absurd (show p∈([]:List (Addr×Obj)) from hp) (by simp),I.hok.kept r,?_⟩
 ·have f:(own++fv.map λi=>X.N.getD i O0)[i]?=some x:=f;unfold qEO at d;have t:own.length<=i:=by
   apply V0;intro t;rw[G6 (by simpa using t),B6] at d
   cases e:own[i]? with
   |none=>rw[e] at d;cases d
   |some z=>rw[e] at d;cases d
  rw[F4 (by simpa using t),A0,B6] at d
  rw[F4 t,B6] at f;cases e:fv[i-own.length]? with
  |none=>rw[e] at f;cases f
  |some j=>
   rw[e] at f d;have hj:=S.fvs j (B0 e);have f:X.N.getD j O0=x:=D5 f;have d:(σ[j]?).join=some v:=D5 d;have a0:σ[j]?=some (some v):=by
    cases q:σ[j]? with
    |none=>rw[q] at d;cases d
    |some y=>rw[q] at d;exact congrArg some d
   have hx:X.N[j]?=some x:=by
    rw[P3] at f;rw[A3 hj.1] at f ⊢;exact congrArg some f
   have g:a.names.lookup x=some .free:=f ▸ hj.2;have l:=F1 g;obtain ⟨m,hn,hl⟩:=id I.loc;have k:=S.free _ l rfl;obtain ⟨u,ru,lk⟩:=hl j x v hx a0 (by
    rcases k with z|z
    ·exact .inr (.inl z)
    ·exact .inr (.inr z))
   refine⟨u,ru,?_⟩;rcases lk with⟨z,_⟩|⟨_,c,e1,z⟩
   ·rcases k with y|y
    ·have n:X.env.kindOf x=some .cell:=y;rw[z] at n;cases n
    ·have n:X.env.kindOf x=some .free:=y;rw[z] at n;cases n
   ·obtain⟨c',e2⟩:=qY1 I S (x:=x) (.inr g);rcases qEN I S e2 with⟨_,h,_⟩|⟨e3,_,_⟩
    ·rw[g] at h;cases h
    rw[e1] at e3;cases e3;obtain⟨o,ho,w⟩:=z;refine .inr ⟨?_,c,e2,o,r _ _ ho,w⟩;show(B58 a X.env).names.lookup x=some .cell\/(B58 a X.env).names.lookup x=some .free;unfold B58;rw[qBZ,g,O9]
    split
    ·exact .inl rfl
    ·exact .inr rfl
 ·rcases qEN I S e with⟨_,_,_,z⟩|⟨h,_,_⟩
  ·exact⟨_,z⟩
  ·obtain⟨v,o,ho,w⟩:=I.cell x c h;exact⟨v,o,r _ _ ho,w⟩
 ·rcases qEN I S e with⟨_,_,a2,_⟩|⟨h,_,_⟩
  ·exact I.hok.fresh (W4 a2)
  ·exact I.freeC x c h
 ·unfold qEO;show _=(own++fv.map λi=>X.N.getD i O0).length;rw[A9,A9,A0,A0,A0]
theorem qZN {a:Scope}{own:List Str}{fv:List Nat}{f:List Addr}{c:List (Addr×Obj)}{σ':St}{H':Hp}{g:Shared}{h:List (Str×Addr)}(I:Inv X Ab σ H s)(e:∀b∈f,FpOk X Ab H b)
  (J:Inv (qE6 X a own fv ⟨s.heap.objs.size,h,f,s,H⟩) c σ' H' g):Inv X Ab σ H' g:=
 I.call' (ch:=f) J.os J.base J.hok J.bare λb d=>⟨(e b d).2.2.2.1,(e b d).2.1,(e b d).2.2.2.2.1,(e b d).2.2.2.2.2⟩
end
section
variable{X:Cx}{tg iter elt:Expr}{ifs:List Expr}{scope:Scope}{pos:Pos}{own:List Str}{fv:List Nat}{wi:TI}{g:TG}{tc:TT}{te:TE}
theorem qZM {Ab:List (Addr×Obj)}{s:Shared}{σ:St}{H:Hp}{K:Addr->Hp->Prop}{use:Option (Value->Sem Unit)}{Q:Value->Shared->Prop}{E:Value->Shared->Prop}(hc:X.calm=true)(S:LcScopeO X scope own fv)(hi:PI X tg iter wi)
  (hg:∀z,PG (qE6 X scope own fv z) tg g) (ht:∀z,PTs (qE6 X scope own fv z) ifs tc) (he:∀z,PE (qE6 X scope own fv z) elt te)
  (I:Inv X Ab σ H s) (h:qZS own fv wi g tc te K σ H) (ab:∀e s,X.xe e s->E e s)
  (am:∀ (p:Addr) (L:Addr) (H':Hp) (s':Shared) (m:Str->Option Value),Inv X Ab σ H' s'->K p H'->s'.heap.Ns L m->X.s₀.heap.objs.size<=L->H' L=none->L ≠ X.env.locals->(∀ x c,X.env.cells.lookup x=some c->c ≠ L)->(∀ q ∈ X.pn++Ab,q.1 ≠ L)->
   compPost (model X.prog X.w) X.A E use Q (.ref p) L (.ok .next) s') (hs:∀x,B54 iter X.env x=pure x:=by intro _;rfl):
  wpAny (model X.prog X.w) X.A (comprehension (.ListComp elt [⟨tg,iter,ifs,0⟩] scope pos) scope X.env (firstIterPos [⟨tg,iter,ifs,0⟩] pos) (newList []) false (eval iter X.env) use) Q E s:=by
 have ai:∀x,(x,G0)∈scope.names->∃c,X.env.cells.lookup x=some c:=λx hx=>I.ok.has x (S.free _ hx rfl);refine wpAny_comprehension_free rfl hs (qG3 ai) S.kind S.names (B26 (hi Ab s σ H _ I h) (λv s1 h1=>B26 h1 (λan j h2=>?_) ab) ab);obtain⟨it,k,tn,J,H2,e,I2,T,aa,f2,q2⟩:=h2;subst e
 -- the list
 refine B29 ?_;have a1:H2 j.heap.objs.size=none:=I2.hok.fresh (A7 _);have I3:Inv X Ab σ (Ag H2 j.heap.objs.size (.lst [])) {j with heap:=j.heap.push {cls:=.type "list",dict:=none,data:=.seq ([]:List Value).toArray}}:=
  I2.laid (t':=j.toks) (λb u e=>A5 _ e) (A7 _) ⟨E8 _,[],0,.nil,B4 _ rfl⟩
 obtain⟨W,⟨m0,w0⟩,ad⟩:=q2 j.heap.objs.size a1;have ae:∀b∈k,b<j.heap.objs.size:=λb a=>by
  obtain⟨o,e,_⟩:=T.obj 0 _ aa b a;exact B7 e
 have f3:∀b∈k,FpOk X Ab (Ag H2 j.heap.objs.size (.lst [])) b:=λb a=>⟨by rw[qAA (D2 (ae b a))];exact(f2 b a).1,(f2 b a).2⟩
 generalize hp:j.heap.objs.size=p at *;generalize hH3:Ag H2 p (.lst [])=H3 at *;have aj:tn 0 (j.heap.push {cls:=.type "list",dict:=none,data:=.seq ([]:List Value).toArray}):=T.keep _ _ _ aa λb _ o e=>A5 _ e;have al:∀b∈k,b<(j.heap.push {cls:=.type "list",dict:=none,data:=.seq ([]:List Value).toArray}).objs.size:=λb a=>by
  rw[L7];have:=ae b a;rw[hp];exact Q6 this
 generalize hs3:({j with heap:=j.heap.push {cls:=.type "list",dict:=none,data:=.seq ([]:List Value).toArray}}:Shared)=f at *;have ac:tn 0 f.heap:=by rw[<- hs3];exact aj
 have a4:∀b∈k,b<f.heap.objs.size:=by rw[<- hs3];exact al
 -- the block's frame
 refine qRW ?_;have a7:∀b o,f.heap.get? b=some o->(B68 (f.heap.push {cls:=.type "dict",data:=.dict #[]}) scope.names).get? b=some o:=λb o e=>pushCells_keeps _ _ b o (A5 _ e);have J0:Inv (qE6 X scope own fv ⟨f.heap.objs.size,B38 (f.heap.objs.size+1) scope.names (qD8 X.env scope.names []),k,f,H3⟩) [] (qEO own fv σ) H3 {f with heap:=B68 (f.heap.push {cls:=.type "dict",data:=.dict #[]}) scope.names}:=qWO I3 S f3 a4;have a6:=qbR I3 S f3 a4;generalize hz:(⟨f.heap.objs.size,B38 (f.heap.objs.size+1) scope.names (qD8 X.env scope.names []),k,f,H3⟩:LcZ)=z at *;have t:tn 0 (B68 (f.heap.push {cls:=.type "dict",data:=.dict #[]}) scope.names):=T.keep _ _ _ ac λb _ o e=>a7 b o e;have a2:∀b∈k,H3 b=none:=λb a=>(f3 b a).1;have l:∀{H':Hp},(∀b∈k,H' b=none)->∀b∈k,FpOk (qE6 X scope own fv z) [] H' b:=λhn b a=>by
  subst hz;refine⟨hn b a,(a6.exf b a).1,a6.exfs b a,.inl a,(a6.exf b a).2,λq hq=>absurd (show q∈([]:List (Addr×Obj)) from hq) (by simp)⟩
 have af:({newEnv scope f.heap.objs.size X.env.globals (B38 (f.heap.objs.size+1) scope.names (qD8 X.env scope.names [])) X.env.qual none .none (some X.env) B69 with scope:=B58 scope X.env}:Env)=(qE6 X scope own fv z).env:=by
  subst hz
  rfl
 have a5:∀sA:Shared,sA={f with heap:=B68 (f.heap.push {cls:=.type "dict",data:=.dict #[]}) scope.names}->B50 (model X.prog X.w) X.A (.compLoop (.ListComp elt [⟨tg,iter,ifs,0⟩] scope pos) 0 (.ref it) (.ref p) (qE6 X scope own fv z).env)
   (compPost (model X.prog X.w) X.A E use Q (.ref p) f.heap.objs.size) sA:=by
  rintro sA rfl;refine qI5 (λn s'=>∃i σ' H',Inv (qE6 X scope own fv z) [] σ' H' s'/\tn i s'.heap/\(∀b∈k,H' b=none)/\W i n σ' H') ?_ m0 ⟨0,_,H3,J0,t,a2,w0⟩;rintro n s4 ⟨i,σ4,H4,I4,t,a2,w4⟩;rcases ad i n σ4 H4 w4 with⟨a9,qn⟩|⟨go,Nx,a8,ag⟩
  ·refine thn (T.done (qE6 X scope own fv z) rfl rfl rfl hc i [] s4 σ4 H4 noX I4 (l a2) t a9) λr s5 ⟨hr,I5⟩=>?_;subst hr;subst hz;have I6:Inv X Ab σ H4 s5:=qZN I3 f3 I5;obtain⟨m,hn,_⟩:=id I5.loc;have a3:=I3.fpOk (H':=H4) (b:=f.heap.objs.size) (A7 _) I5.free;refine am p f.heap.objs.size H4 s5 m I6 qn hn I3.sz a3.1 a3.2.1 a3.2.2.2.2.1 a3.2.2.2.2.2
  ·refine thn (T.item (qE6 X scope own fv z) rfl rfl rfl hc i [] s4 σ4 H4 noX I4 (l a2) t go) λr s5 ⟨u,hr,h5⟩=>?_;subst hr;refine thn h5 λ_ s6 ⟨x,H6,I6,r6,y6,st6,fr6⟩=>?_;have ak:=I6.pinned (l fr6) (T.obj _ _ st6);have a0:∀{σ7:St} {H7:Hp} {s7:Shared} {m':Nat},m'<n->Inv (qE6 X scope own fv z) ([]++qKN k s6.heap) σ7 H7 s7->W (i+1) m' σ7 H7->
     ∃m,m<n/\∃i σ' H',Inv (qE6 X scope own fv z) [] σ' H' s7/\tn i s7.heap/\(∀b∈k,H' b=none)/\W i m σ' H':=λ{σ7 H7 s7 m'} hm I7 w7=>by
    refine⟨m',hm,i+1,σ7,H7,I7.unpinned,T.keep _ _ _ st6 λb a o e=>(I7.pin (b,o) (E4 _ (E4 _ (qD9 a e)))).1,λb a=>?_,w7⟩;obtain⟨o,e,d⟩:=T.obj _ _ st6 b a;exact(I7.pin (b,o) (E4 _ (E4 _ (qD9 a e)))).2.1
   refine thn (hg z _ s6 σ4 H6 x u _ ak r6 (ag x H6 y6)) λ_ s7 ⟨σ7,H7,I7,q7⟩=>?_;refine thn (ht z _ s7 σ7 H7 _ I7 q7) λb s8 ⟨H8,I8,q8⟩=>?_;cases b with
   |false=>
    obtain⟨m',hm,w8⟩:=a8 _ _ q8;exact a0 hm I8 w8
   |true=>
    refine thn (he z _ s8 σ7 H8 _ I8 q8) λv s9 ⟨y,H9,I9,r9,ys,ep,hl,w9⟩=>?_;refine thn (qCC (X:=qE6 X scope own fv z) _ s9 σ7 H9 (.ref p) [y] (.ref p) [v] (λ_ H'=>Nx σ7 H') I9 rfl (.cons r9 .nil) ⟨p,ys,y,rfl,rfl,ep,hl,w9⟩) λ_ s10 ⟨_,H10,I10,_,q10⟩=>?_;obtain⟨m',hm,ah⟩:=a8 _ _ q10;exact a0 hm I10 ah
 rw[af];exact codeAny_compStart_list (a5 _ rfl) (T.self _ _ _ _ _ t (a5 _ rfl))
theorem qd0 {i:Nat}{x:Str}{b c:Pos}(hN:X.N.Nodup)(hx:X.N[i]?=some x)(r:X.env.scope.names.lookup x=some .local)(hc:X.calm=true)(S:LcScopeO X scope own fv)(hi:PI X tg iter wi)(hg:∀z,PG (qE6 X scope own fv z) tg g)
  (ht:∀z,PTs (qE6 X scope own fv z) ifs tc) (he:∀z,PE (qE6 X scope own fv z) elt te) (l:swapsWith (.ListComp elt [⟨tg,iter,ifs,0⟩] scope pos) (some (.Name x b)) c.line X.env=pure true)
  (hs:∀x,B54 iter X.env x=pure x:=by intro _;rfl):PS X (.Assign [.Name x b] (.ListComp elt [⟨tg,iter,ifs,0⟩] scope pos) c) (tAsg (tLc own fv wi g tc te) (qSB i)):=by
 intro u s σ H D I h;rw[exec_Assign_Name_used _ _ _ _ l];refine B16 (B72 (B16 ?_));show wpAny _ X.A (do let _ <- comprehension (.ListComp elt [⟨tg,iter,ifs,0⟩] scope pos) scope X.env _ (newList []) false (eval iter X.env) (some (assign (.Name x b) X.env))) _ _ s
 refine B16 (B26 (qZM (use:=some (assign (.Name x b) X.env)) (K:=fun p j=>D.nx (σ.set i (some (.ref p))) j) (Q:=fun _ k=>SP X u D .next k) (E:=X.xe) hc S hi hg ht he I h (fun _ _ q=>q) (fun p L j k m I' q hn h1 w o t h5=>?_) hs)
  (λ_ k hq=>B17 (B17 hq)) λ_ _ e=>e)
 show wpAny _ X.A (assign (.Name x b) X.env (.ref p)) _ _ _;refine wpAny_assign_Name (qJ1 (v:=.ref p) I' hN hx (.inl r) rfl (λs2 I2 ⟨a,hsb,ha⟩=>?_) (.inr r));have f:L≠a:=by
  rcases ha with z|z
  ·rw[z];exact o
  ·exactλy=>t x a z y.symm
 exact⟨m,hn.sameBut hsb f,λh' d=>⟨_,j,I2.other (n:=0) h1 w o t h5 d,q⟩⟩
end
section
variable{prog:B20}{w:World}{A:Around}{R:Result->Shared->Prop}{I:Addr}{fp wr:List Addr}{n:Nat}{P:Nat->Value->Prop}{St:Nat->Heap->Prop}
end
section
variable{prog:B20}{w:World}{A:Around}{E:Value->Shared->Prop}{s:Shared}
end
section
variable{X:Cx}
end
theorem qYE:B23 "any" = some (.builtin "any"):=by decide +kernel
theorem qRD:B23 "sum" = some (.builtin "sum"):=by decide +kernel
theorem qRR (d:List Bool):((F6 d.length).any λi=>(d[i]?).getD false)=d.any id:=by
 rw[J4,X7,X7]
 constructor
 ·rintro⟨i,c,h⟩;have a:=G1.mp c;rw[A3 a] at h;exact⟨_,X5 a,h⟩
 ·rintro⟨b,f,h⟩;obtain⟨i,c,e⟩:=L5 f;exact⟨i,G1.mpr c,by rw[A3 c,e];exact h⟩
section
variable{X:Cx}
theorem qRB (w:X.calm=true):qCF X (.builtin "any") (λxs H Q=>∃(p:Addr) (bs:List Bool),xs=[.ref p]/\SqL X.K H p (bs.map V.bl)/\Q (.bl (bs.any id)) H):=by
 intro Ab s σ H xs us Q I r h;obtain⟨p,bs,rfl,hq,q⟩:=h;obtain⟨u,rfl,o⟩:=qE1 r;cases o;obtain⟨c,k,z,hz⟩:=I.list hq;have g:=z.isList;have j:p<s.heap.objs.size:=by obtain⟨_,e,_⟩:=g;exact B7 e
 have a:=k.length;rw[A0] at a;refine call_any_walk (B40 g ?_);refine⟨s.heap.objs.size,[s.heap.objs.size,p],[s.heap.objs.size],c.toArray.size,_,_,λi=>(bs[i]?).getD false,rfl,A57 (A:=X.A.in1) (I.ok.hd w) _ p (D2 j) c.toArray,
  ⟨⟨_,B4 _ rfl,rfl,rfl⟩,g.push _⟩,λi v s' Q' E' t f=>?_,λh' tk y=>?_⟩
 ·have d:c[i]?=some v:=by simpa using t
  have l:i<bs.length:=by rw[a];exact(A4.mp d).1
  obtain⟨u,m,ru⟩:=k.get (i:=i) (x:=.bl bs[i]) (by rw[B6,A3 l];rfl)
  rw[d] at m;cases m;cases ru;dsimp only at f;rw[A3 l,X3] at f;exact B33 f
 ·have e:((F6 c.toArray.size).any λi=>(bs[i]?).getD false)=bs.any id:=by
   rw[C1,<- a];exact qRR bs
  refine⟨.bl (bs.any id),H,I.kept λb x e=>y b x (λn=>by rw[A6.mp n] at e;exact O2 _ (B7 e)) (A5 _ e),?_,q⟩
  rw[e]
  rfl
end
section
variable{prog:B20}{w:World}{A:Around}{E:Value->Shared->Prop}{s:Shared}
end
section
variable{X:Cx}
def BareT (H:Hp) (a:Addr) (xs:List V):Prop:=∃o:Obj,H a=some (.frz o (.tup xs))/\o.cls=.type "tuple"/\o.dict=none
theorem BareT.sq {K:PySem.W.Frag}{H:Hp}{a:Addr}{xs:List V}(h:BareT H a xs):SqT K H a xs:=by
 obtain⟨o,h,_⟩:=h;exact .inl (.inr ⟨o,h⟩)
theorem BareT.same {H H':Hp}{a:Addr}{xs:List V}(h:BareT H a xs)(s:∀b o,H b=some o->H' b=some o):BareT H' a xs:=by
 obtain⟨o,c,d⟩:=h;exact⟨o,s _ _ c,d⟩
theorem qEX:qCF X (.type "tuple") (λxs H Q=>∃p ys,xs=[.ref p]/\SqL X.K H p ys/\∀l o,H l=none->o.cls=.type "tuple"->o.dict=none->Q (.ref l) (Ag H l (.frz o (.tup ys)))):=by
 intro d s σ H xs x Q I r h;obtain⟨p,ys,rfl,m,q⟩:=h;obtain⟨u,rfl,n⟩:=qE1 r;cases n;obtain⟨a,g,v,t⟩:=I.list m;have i:=g.length;refine call_tuple_list v.isList (λc j=>?_) (by simp only[C1]<;>lia)
 have f:Inv X d σ H {s with heap:=c}:=I.kept (t':=s.toks) j;have k:Inv X d σ (Ag H c.objs.size (.frz {cls:=.type "tuple",data:=.seq a.toArray} (.tup ys))) {s with heap:=c.push {cls:=.type "tuple",data:=.seq a.toArray}}:=
  f.laid (t':=s.toks) (λb o e=>A5 _ e) (A7 _) ⟨B4 _ rfl,show ObjOk X.prog X.w _ _ _ (.tup ys) from⟨t,a,g,IsTup.new _ _⟩⟩
 exact⟨.ref c.objs.size,_,k,rfl,q _ _ (f.hok.fresh (A7 _)) rfl rfl⟩
theorem qO2 (hc:X.calm=true):qCF X (.builtin "sorted") (fun xs H Q=>∃ p ns Af,xs=[.ref p]/\H p=some (.dK Af)/\Af.map (·.1)=ns.map E3/\ns.length<64/\
  ∀(a:Addr) (zs:List Int),H a=none->zs.Perm ns->zs.Pairwise (·<=·)->Q (.ref a) (Ag H a (.lst (zs.map V.int)))):=by
 intro Ab s σ H xs us Q I r h;obtain ⟨p,ns,Af,rfl,hq,hk,a0,q⟩:=h;obtain ⟨u,rfl,rx⟩:=qE1 r;cases rx;refine X0 kind_sorted plain_sorted entry_sorted (args_sorted1 _) ?_;unfold Builtin.«sorted»;refine B16 (m:=checkCount "sorted" 1 1 _) (B17 ?_);have d:∀ (s1:Shared) (vs:List Value),Inv X Ab σ H s1->B25 vs ns->wpAny (model X.prog X.w) X.A.in1 (do
   let l <- newList vs
   let _ <- B62 [l] (call (.builtin "list.sort") [l] [])
   ret l) (λd s'=>∃r,d=.done (.ret r)/\EP X Ab σ Q r s') X.xe s1:=by
  intro s1 vs I1 y;have f:=IntsAre.length y;have o:ns.length<=B18:=by rw[B28];lia
  refine B16 (wpAny_newList ?_ (by rw[f];exact o))
  have hf:=I1.hok.fresh (A7 s1.heap.objs.size);refine B16 (B27 (B26 (qQ6 (E:=X.xe) (vs:=vs) (qKQ I1 y o) hf a0 λz a b=>q _ z hf a b) (λ_ s' x=>?_) λ_ _ e=>e));exact B17 ⟨_,rfl,x⟩
 obtain⟨o,hd,vs,g,dd⟩:=qa8 I.hok hq;obtain⟨ep,da⟩:=dd.dictAt;have lv:vs.length=Af.length:=g.length.symm;have ln:ns.length=Af.length:=by
  have:=congrArg U4 hk;simpa using this.symm
 refine B16 (l8 (A:=X.A.in1) (PySem.W.kdl_dict (ep:=ep) hd) (I.ok.hd hc) da (by rw[lv];exact o) λh' tk a1 kept c=>?_)
 refine d _ _ (I.kept (t':=tk) kept) ?_;obtain⟨l1,l2⟩:=c;refine qUK (by rw[C8,l1,lv,ln]) λi v y=>?_
 obtain⟨k,x,e1,e2⟩:=l2 i v (by rw[<- E5];exact y)
 have j:(Af.map (·.1))[i]?=some k:=by rw[qZT g,B6,e1];rfl
 rw[hk,B6] at j;cases en:ns[i]? with
 |none=>rw[en] at j;cases j
 |some n=>
  rw[en] at j;cases j;obtain⟨t,e3⟩:=A51 (k:=n) (v:=v) e2;exact⟨n,t,rfl,e3⟩
end
end L2
namespace HT
open PySem PySem.Spec PyProof.Rows
section
variable{prog:B20}{w:World}{A:Around}{E:Value->Shared->Prop}{s:Shared}
end
end HT
namespace L2
open PySem PySem.Spec PyProof.Rows
section
variable{X:Cx}
end
section
variable{A:Around}{s:Shared}
end
section
variable{X:Cx}
end
section
variable{X:Cx}{e:Expr}{te:TE}{st:Option Expr}{tst:TO}{pos p2:Pos}
end
section
variable{X:Cx}
end
section
variable{prog:B20}{w:World}{A:Around}{E:Value->Shared->Prop}{s:Shared}
end
section
variable{X:Cx}
theorem qIW:∀(as:List Addr),Vals (as.map V.ref) (as.map D7)
 |[]=>.nil
 |_::as=>.cons rfl (qIW as)
end
section
variable{prog:B20}{w:World}{A:Around}{R:Result->Shared->Prop}{h:Heap}{g:Array B75}{d:Drawn}{t:Nat}{os:OsState}{K:PySem.W.Frag}{C fI:Addr}{rest:List Value}
end
section
variable{X:Cx}
def TB:Type:=(St->XK)->TS
end
section
variable{prog:B20}{w:World}{A:Around}{E:Value->Shared->Prop}{s:Shared}
end
section
variable{X:Cx}{pos:Pos}
end
section
variable{X:Cx}{tg:Expr}
def tFrz (t:TE):TE:=λσ H Q=>t σ H λv H1=>∃d Af,v=.ref d/\H1 d=some (.dK Af)/\∀o,Q v (Ag H1 d (.frz o (.dK Af)))
theorem Inv.freeze {Ab:List (Addr×Obj)}{σ:St}{H:Hp}{s:Shared}{d:Addr}{Af:List (Key×V)}(I:Inv X Ab σ H s)(h:H d=some (.dK Af)):∃o,Inv X Ab σ (Ag H d (.frz o (.dK Af))) s:=by
 have c:=I.hok d _ h;obtain⟨l,i,j,f,o,g,k,a,r⟩:=id c;refine⟨o,?_⟩;have:=I.write (h':=s.heap) (t':=s.toks) (x:=d) (e:=d) (o:=.frz o (.dK Af)) (by rw[h];trivial) (.inl rfl) (λb u _ q=>q) ⟨o,a⟩ ⟨a,c⟩
 exact this
theorem qbI {e:Expr}{t:TE}(g:PE X e t):PE X e (tFrz t):=by
 intro f s σ H Q I h;refine thn (g f s σ H _ I h) λv s1 ⟨x,H1,I1,r1,d,Af,e,hd,q⟩=>?_;obtain⟨o,b⟩:=I1.freeze hd;exact⟨x,_,b,r1,q o⟩
noncomputable def Itk (a:Addr)(o:Obj)(Af:List (Key×V)):It:=
 ⟨λi H=>i<Af.length/\H a=some (.frz o (.dK Af)),λi H x c=>c=H/\∃k v,Af[i]?=some (k,v)/\x=kV k,λi H=>Af.length<=i/\H a=some (.frz o (.dK Af))⟩
theorem qW4 {k:Key}{v:Value}(h:qNH k v=true):RelV (kV k) v:=by
 rcases qBG h with⟨i,t,rfl,rfl⟩|⟨x,t,rfl,rfl⟩
 ·exact⟨t,rfl⟩
 ·exact⟨t,rfl⟩
theorem Inv.heldD {Ab:List (Addr×Obj)}{σ:St}{H:Hp}{s:Shared}{d:Addr}{o:Obj}{Af:List (Key×V)}(I:Inv X Ab σ H s)(h:H d=some (.frz o (.dK Af))):s.heap.get? d=some o/\(d==B39)=false/\∃vs ep,KV Af vs/\s.heap.DictAt (qB3 X.prog X.w) d vs ep/\(∃es,o.data=.dict es ep):=by
 obtain⟨e,k,g,vs,c,i⟩:=(show ObjOk X.prog X.w H s.heap d (.frz o (.dK Af)) from I.hok d _ h);obtain⟨ep,f⟩:=i.dictAt;obtain⟨l,es,b,j,a,r⟩:=id f;rw[e] at b;cases b;exact⟨e,g,vs,ep,c,f,es,a⟩
theorem qRN {P:B20}{w:World}{K:PySem.W.Frag}{tg:Expr}(a m:Addr)(o:Obj)(Af:List (Key×V))(ep:Nat)(es:_)(ho:o.data=.dict es ep):Turn P w K tg (Itk a o Af) [m] m (λi h=>h.IsKeyIter m a i Af.length ep) where
 mem:=by simp
 obj:=λi h f b l=>by
  have e:b=m:=by simpa using l
  subst e;obtain⟨o,e,c,d⟩:=f;exact⟨o,e,λv z=>by rw[d] at z;cases z⟩
 keep:=λi h y f k=>f.at λo e=>k m (by simp) o e
 item:=by
  intro X hP hw hK hc i Ab s σ H E I hf f hg;subst hP hw hK;obtain⟨hi,hq⟩:=hg;obtain⟨e1,e2,n,a2,j,da,a3,r⟩:=I.heldD hq;rw[ho] at r;cases r;obtain⟨f0,f1,f2,f3,f4,f5⟩:=hf m (by simp)
  have u:n.length=Af.length:=j.length.symm;rw[<- u] at f;obtain⟨⟨k,x⟩,hx⟩:∃p,n[i]?=some p:=⟨n[i]'(by lia),A3 (by lia)⟩
  obtain⟨⟨k',v'⟩,t⟩:∃p,Af[i]?=some p:=⟨Af[i],A3 hi⟩;have ek:k'=k:=by
   have h1:(Af.map (·.1))[i]?=some k':=by rw[B6,t];rfl
   have h2:(n.map (·.1))[i]?=some k:=by rw[B6,hx];rfl
   rw[j.keys,h2] at h1;cases h1
   rfl
  refine wpAny_pyNext_dict_item f da hx λa0 y q g a1=>?_;have I1:Inv X Ab σ H {s with heap:=y}:=I.turned (t':=s.toks) (λb o l e=>(a1.2 b l).trans e) f0 f1 f3 f4 f5;rw[u] at g;obtain⟨oi,ei,c,d⟩:=id g;exact⟨a0,rfl,qSA (s:={s with heap:=y}) ei c d (by decide) ⟨kV k,H,I1,qW4 q,⟨rfl,k',v',t,by rw[ek]⟩,g,λb l=>(hf b l).1⟩⟩
 done:=by
  intro X hP hw hK hc i Ab s σ H E I hf f hg;subst hP hw hK;obtain⟨hi,hq⟩:=hg;obtain⟨e1,e2,n,a2,j,da,a3,r⟩:=I.heldD hq;rw[ho] at r;cases r;obtain⟨f0,f1,f2,f3,f4,f5⟩:=hf m (by simp)
  have u:n.length=Af.length:=j.length.symm;rw[<- u] at f;exact wpAny_pyNext_dict_end (I.ok.hd hc) f da (by simp;lia) λy eb=>⟨rfl,I.turned (t':=s.toks) (λb o l e=>eb b o l e) f0 f1 f3 f4 f5⟩
 self:=λ_ _ _ _ _ f h=>B93 f h
def qc3 (tl:TE):TI:=λσ H R=>tl σ H λx H1=>∃a o Af,x=.ref a/\H1 a=some (.frz o (.dK Af))/\R (Itk a o Af) H1
theorem qQM {l:Expr}{f:TE}(r:PE X l f):PI X tg l (qc3 f):=by
 intro i s σ H R I h;refine thn (r i s σ H _ I h) λv s1 ⟨x,H1,I1,r1,q1⟩=>?_;obtain⟨a,o,d,e,n,q⟩:=q1;subst e;cases r1;obtain⟨y,w,p,g,c,u,j,t⟩:=I1.heldD n;have k:p.length=d.length:=c.length.symm;refine wpAny_pyIter_dict w u ?_;refine⟨s1.heap.objs.size,[s1.heap.objs.size],_,_,H1,rfl,I1.kept (t':=s1.toks) λb o e=>A5 _ e,qRN a _ o d g j t,⟨_,B4 _ rfl,rfl,by rw[k];rfl⟩,λb m=>?_,q⟩
 have e:b=s1.heap.objs.size:=by simpa using m
 subst e;exact I1.fpOk (A7 _) (I1.hok.fresh (A7 _))
end
theorem qWU {a:Addr}{o:Obj}{Af:List (Key×V)}{g:TG}{f:TT}{h:TE}{Kf:Hp->Prop}{σ0:St}{H0:Hp}{p:Addr}(Pv:Nat->St->Hp->Prop)(w:Pv 0 σ0 H0)(r:∀i σ H,i<=Af.length->Pv i σ H->H a=some (.frz o (.dK Af)))
  (u:∀i k v σ H,Af[i]?=some (k,v)->Pv i σ H->g (kV k) σ H λσ2 H2=>f σ2 H2 λb H3=>if b=true then h σ2 H3 λy H4=>∃ys,H4 p=some (.lst ys)/\ys.length<B18/\Pv (i+1) σ2 (Ag H4 p (.lst (ys++[y]))) else Pv (i+1) σ2 H3)
  (l:∀σ H,Pv Af.length σ H->Kf H):
  LcG (Itk a o Af) g f h Kf σ0 H0 p:=by
 refine⟨λi m σ H=>m=Af.length-i/\i<=Af.length/\Pv i σ H,⟨Af.length,by simp,E8 _,w⟩,?_⟩
 rintro i m σ H ⟨rfl,hi,q⟩;have d:=r i σ H hi q;by_cases c:i<Af.length
 ·refine .inr ⟨⟨c,d⟩,Pv (i+1),λσ' n s=>⟨Af.length-(i+1),by lia,rfl,c,s⟩,λx n y=>?_⟩
  obtain⟨e,k,v,t,j⟩:=y;subst e j;exact u i k v σ _ t q
 ·have e:i=Af.length:=by lia
  subst e;exact .inl ⟨⟨A7 _,d⟩,l σ H q⟩
theorem qUV {a:Addr}{o:Obj}{Af:List (Key×V)}{g:TG}{c:TS}{D:Ends}{σ:St}{H:Hp}(Pv:Nat->St->Hp->Prop)(s:Pv 0 σ H)(l:∀i σ H,i<=Af.length->Pv i σ H->H a=some (.frz o (.dK Af)))
  (r:∀i k v σ H,Af[i]?=some (k,v)->Pv i σ H->g (kV k) σ H λσ2 H2=>c {D with nx:=Pv (i+1),ct:=Pv (i+1),bk:=D.nx} σ2 H2) (f:∀σ H,Pv Af.length σ H->D.nx σ H):
  ForG (Itk a o Af) g c D σ H:=by
 refine⟨λi m σ H=>m=Af.length-i/\i<=Af.length/\Pv i σ H,⟨Af.length,by simp,E8 _,s⟩,?_⟩
 rintro i m σ H ⟨rfl,hi,p⟩;have q:=l i σ H hi p;by_cases b:i<Af.length
 ·refine .inr ⟨⟨b,q⟩,Pv (i+1),λσ' h j=>⟨Af.length-(i+1),by lia,rfl,b,j⟩,λx h y=>?_⟩
  obtain⟨e,k,v,n,d⟩:=y;subst e d;exact r i k v σ _ n p
 ·have e:i=Af.length:=by lia
  subst e;exact .inl ⟨⟨A7 _,q⟩,f σ H p⟩
theorem qO0 {X:Cx} {K:PySem.W.Frag} (a:X.K=K) (b:X.calm=true):qCF X (.builtin "sum") (λxs H Q=>∃(p:Addr) (ns:List Int),xs=[.ref p]/\SqL K H p (ns.map V.int)/\Q (.int ns.sum) H):=by subst a;exact qMM b
section
variable{prog:B20}{w:World}{A:Around}{E:Value->Shared->Prop}{s:Shared}{it d:Addr}{i n ep:Nat}{od:Obj}{es:Array DictEntry}
theorem qNU {Q:Value->Shared->Prop} (a:s.TypeIs (.ref d) "dict") (e:(d==B39)=false) (b:s.heap.get? d=some od) (c:od.data=.dict es ep)
  (f:Q (.ref s.heap.objs.size) {s with heap:=s.heap.push {cls:=.type "dict_keyiterator",data:=.fields #[.ref d,rawInt 0,rawInt es.size,rawInt ep]}}):wpAny (model prog w) A (pyIter (.ref d)) Q E s:=by
 apply wpAny_pyIter_slot a A69;refine B32 A69 a F.entry_dict_iter ?go (F.args_dict_iter_1 (.ref d));unfold Builtin.«dict.__iter__»;apply B16;unfold Builtin.Dict.dictSlotNone;apply B16;apply wpAny_notOrdered_dict a;apply B17;apply B16;apply B17;apply B16;unfold Builtin.Dict.showsAll;rw[e];apply B17;apply B16;apply wpAny_dictEntries b c;apply B16;apply wpAny_dictEpoch b c;apply B16;refine B29 ?made;apply B17;exact⟨_,rfl,"dict_keyiterator",_,⟨_,B4 _ rfl,rfl⟩,O7.lookup,f⟩
def qSN (h:Heap) (it d:Addr) (i n ep:Nat):Prop:=h.get? it=some {cls:=.type "dict_keyiterator",data:=.fields #[.ref d,rawInt i,rawInt n,rawInt ep]}
theorem qNV {Q:Option Value->Shared->Prop}(a:qSN s.heap it d i es.size ep)(g:s.heap.get? d=some od)(h:od.data=.dict es ep)(hi:i<es.size)
  (k:∀h',qSN h' it d (i+1) es.size ep->Heap.SameBut it s.heap h'->Q (some es[i].key) {s with heap:=h'}):wpAny (model prog w) A (pyNext (.ref it)) Q E s:=by
 have c:s.TypeIs (.ref it) "dict_keyiterator":=⟨_,a,rfl⟩;unfold pyNext;apply B16;apply B84;apply wpAny_callSpecial?_slot (name:=D3 "__next__") c O7;refine B32 O7 c i9 ?go (i0 (.ref it));apply B16;apply B17;apply B16;apply B16;apply B16
 first|apply B46 c|apply B61 c
 apply B17;apply B16;refine wpAny_fieldsOf a rfl ?fs;have e:k7 "dict_keyiterator" = false:=by decide
 have j:((D7 d==Q0)=true)->False:=λz=>by cases z
 simp only[e,G9,if_false];show wpAny _ _ (if(D7 d==Q0)=true then _ else _) _ _ s
 rw[if_neg j];apply B16;apply B17;apply B16;apply wpAny_dictEntries g h;rw[if_neg (by simp)]
 apply B16;apply B17;apply B16;apply wpAny_dictEpoch g h;rw[if_neg (by simp)]
 apply B17;have f:¬((i:Int)<0):=Int.not_lt.mpr (R5 i);simp only[f,if_false,B8,B9 hi];apply B16;apply B16
 first|apply B46 c|apply B61 c
 apply B17;apply B16;apply wpAny_isOneOf_keyiter c;show wpAny _ _ (setField (.ref it) 1 (rawInt ((i:Int)+1)) >>= _) _ _ s;apply B16;refine B59 a rfl (by show 1<4;decide) ?set
 have b:qSN (s.heap.update it (j9 (·.setIfInBounds 1 (rawInt ((i:Int)+1))))) it d (i+1) es.size ep:=L4 _ a rfl;apply B16;apply B27;apply B16;refine wpAny_isOneOf_keyiter (s:={s with heap:=s.heap.update it (j9 (·.setIfInBounds 1 (rawInt ((i:Int)+1))))}) ⟨_,b,rfl⟩ ?one;apply B17;apply B17;exact⟨_,rfl,B17 (k _ b (U7 ..))⟩
theorem qR7 {Q:Option Value->Shared->Prop}(n:A.handled=none)(c:qSN s.heap it d i es.size ep)(hi:es.size<=i)(j:s.heap.get? d=some od)(k:od.data=.dict es ep)
  (r:∀h',Heap.ExtBut it s.heap h'->Q none {s with heap:=h'}):wpAny (model prog w) A (pyNext (.ref it)) Q E s:=by
 have f:s.TypeIs (.ref it) "dict_keyiterator":=⟨_,c,rfl⟩;unfold pyNext;apply B16;apply B84;apply wpAny_callSpecial?_slot (name:=D3 "__next__") f O7;refine B32 O7 f i9 ?go (i0 (.ref it));apply B16;apply B17;apply B16;apply B16;apply B16
 first|apply B46 f|apply B61 f
 apply B17;apply B16;refine wpAny_fieldsOf c rfl ?fs;have g:k7 "dict_keyiterator" = false:=by decide
 have p:((D7 d==Q0)=true)->False:=λz=>by cases z
 simp only[g,G9,if_false];show wpAny _ _ (if(D7 d==Q0)=true then _ else _) _ _ s
 rw[if_neg p];apply B16;apply B17;apply B16;apply wpAny_dictEntries j k;rw[if_neg (by simp)]
 apply B16;apply B17;apply B16;apply wpAny_dictEpoch j k;rw[if_neg (by simp)]
 apply B17;have h:¬((i:Int)<0):=Int.not_lt.mpr (R5 _);simp only[h,if_false,B8,Array.getElem?_eq_none hi];apply B16;apply B16
 first|apply B46 f|apply B61 f
 apply B17;show wpAny _ _ (setField (.ref it) 0 .none >>= _) _ _ s;apply B16;refine B59 c rfl (by show 0<4;decide) ?set
 have l:Heap.ExtBut it s.heap (s.heap.update it (j9 (·.setIfInBounds 0 Q0))):=λb o q e=>(F5 _ _ (J3 q)).trans e;show wpAny _ _ (newExc (.type "StopIteration") [] >>= _) _ _ _;apply B16;simp only[newExc,newTuple];apply B16;refine B29 ?t1 (by size_fits)
 refine B16 (m:=B66 _ _) (B74 (a:=Q0) (by first|rfl|(simp only[B66];rfl)) ?t2)
 refine B29 ?t3 (by size_fits)
 simp only[raiseNew];apply B16;apply wpAny_handled;rw[show A.in1.handled=none from n]
 first|apply wpAny_throw|(apply B16;apply B17;apply wpAny_throw)
 apply B16;refine wpAny_isInstance (T:="StopIteration") (b:=true) ⟨_,B4 _ rfl,rfl⟩ isSubtype_stop ?t4;exact B17 (r _ ((l.push _).push _))
end
section
variable{X:Cx}{tg:Expr}
def qcP (t:TE):TE:=λσ H Q=>t σ H λv H1=>∃d Af,v=.ref d/\H1 d=some (.dT Af)/\∀o,Q v (Ag H1 d (.frz o (.dT Af)))
theorem Inv.freezeT {Ab:List (Addr×Obj)}{σ:St}{H:Hp}{s:Shared}{d:Addr}{Af:List (List Key×V)}(I:Inv X Ab σ H s)(h:H d=some (.dT Af)):∃o,Inv X Ab σ (Ag H d (.frz o (.dT Af))) s:=by
 have c:=I.hok d _ h;obtain⟨m,i,k,f,o,g,j,a,r⟩:=id c;refine⟨o,I.write (h':=s.heap) (t':=s.toks) (x:=d) (e:=d) (o:=.frz o (.dT Af)) (by rw[h];trivial) (.inl rfl) (λb u _ q=>q) ⟨o,a⟩ ⟨a,?_⟩⟩
 refine(show ObjOk X.prog X.w H s.heap d (.dT Af) from c).stay (λb u _ q=>q) (λb q=>?_) (λb l q=>?_) λb t q=>?_
 ·rw[qAA (qCB q h (by intro z;cases z))];exact q
 ·rw[qAA (qCB q h (by intro z;cases z))];exact q
 ·rw[qAA (qCB q h (by intro z;cases z))];exact q
theorem qTL {e:Expr}{t:TE}(c:PE X e t):PE X e (qcP t):=by
 intro b s σ H Q I h;refine thn (c b s σ H _ I h) λv s1 ⟨x,H1,I1,r1,d,Af,e,hd,q⟩=>?_;obtain⟨o,a⟩:=I1.freezeT hd;exact⟨x,_,a,r1,q o⟩
def ItT (a:Addr)(o:Obj)(Af:List (List Key×V)):It:=
 ⟨λi H=>i<Af.length/\H a=some (.frz o (.dT Af)),λi H x H'=>H'=H/\∃k v r,Af[i]?=some (k,v)/\x=.ref r/\H r=some (.tup (k.map kV)),λi H=>Af.length<=i/\H a=some (.frz o (.dT Af))⟩
theorem Inv.heldT {Ab:List (Addr×Obj)}{σ:St}{H:Hp}{s:Shared}{d:Addr}{o:Obj}{Af:List (List Key×V)}(I:Inv X Ab σ H s)(h:H d=some (.frz o (.dT Af))):
  s.heap.get? d=some o/\(d==B39)=false/\o.cls=.type "dict"/\∃es ep,o.data=.dict es ep/\es.size=Af.length/\∀(i:Nat) (hi:i<es.size),∃k v r,Af[i]?=some (k,v)/\es[i].key=.ref r/\H r=some (.tup (k.map kV)):=by
 obtain⟨m,hz,n,f,c,o',es,ep,a,u,b,l,nd⟩:=(show ObjOk X.prog X.w H s.heap d (.frz o (.dT Af)) from I.hok d _ h);rw[m] at a;cases a;have p:f.length=Af.length:=c.length.symm;have q:es.size=f.length:=by rw[<- C8,l,A0]
 refine⟨m,n,u.1,es,ep,b,q.trans p,λi hi=>?_⟩;have y:i<f.length:=by lia
 have e:i<Af.length:=by lia
 have j:=A3 e;obtain⟨x,z,e1,t,e3⟩:=qLX c j;refine⟨Af[i].1,Af[i].2,x.2.1,j,?_,t⟩;have g:es[i]?=some (entryOfKey (B86 (qB3 X.prog X.w)) x):=by rw[<- E5,l,B6,z];rfl
 rw[B9 hi] at g;rw[D5 g]
 rfl
theorem qRM {P:B20}{w:World}{K:PySem.W.Frag}{tg:Expr}(a g:Addr)(o:Obj)(Af:List (List Key×V))(ep:Nat)(es:_)(t:o.data=.dict es ep):Turn P w K tg (ItT a o Af) [g] g (λi h=>qSN h g a i Af.length ep) where
 mem:=by simp
 obj:=λi h c b f=>by
  have e:b=g:=by simpa using f
  subst e;exact⟨_,c,λv z=>by cases z⟩
 keep:=λi h p c k=>k g (by simp) _ c
 item:=by
  intro X x hw hK hc i Ab s σ H E I q c hg;subst x hw hK;obtain⟨hi,hq⟩:=hg;obtain⟨u,e2,e3,a2,a1,l,n,j⟩:=I.heldT hq;rw[t] at l;cases l;obtain⟨y,f1,f2,f3,f4,f5⟩:=q g (by simp)
  rw[<- n] at c;have m:i<es.size:=by lia
  obtain⟨k,v,r,g1,g2,g3⟩:=j i m;refine qNV c u t m λp d a0=>?_;have I1:Inv X Ab σ H {s with heap:=p}:=I.turned (t':=s.toks) (λb o f e=>(a0.2 b f).trans e) y f1 f3 f4 f5;rw[n] at d;rw[g2];exact⟨.ref r,rfl,qSA (s:={s with heap:=p}) d rfl rfl (by decide) ⟨.ref r,H,I1,rfl,⟨rfl,k,v,r,g1,rfl,g3⟩,d,λb f=>(q b f).1⟩⟩
 done:=by
  intro X x hw hK hc i Ab s σ H E I q c hg;subst x hw hK;obtain⟨hi,hq⟩:=hg;obtain⟨u,e2,e3,a2,a1,l,n,j⟩:=I.heldT hq;rw[t] at l;cases l;obtain⟨y,f1,f2,f3,f4,f5⟩:=q g (by simp)
  rw[<- n] at c;exact qR7 (I.ok.hd hc) c (by lia) u t λp eb=>⟨rfl,I.turned (t':=s.toks) (λb o f e=>eb b o f e) y f1 f3 f4 f5⟩
 self:=λ_ _ _ _ _ c h=>B93 ⟨_,c,rfl,rfl⟩ h
def qc2 (tl:TE):TI:=λσ H R=>tl σ H λx H1=>∃a o Af,x=.ref a/\H1 a=some (.frz o (.dT Af))/\R (ItT a o Af) H1
theorem qQL {l:Expr}{d:TE}(r:PE X l d):PI X tg l (qc2 d):=by
 intro j s σ H R I h;refine thn (r j s σ H _ I h) λv s1 ⟨x,H1,I1,r1,q1⟩=>?_;obtain⟨a,o,m,e,p,q⟩:=q1;subst e;cases r1;obtain⟨c,w,t,k,i,f,g,u⟩:=I1.heldT p;refine qNU ⟨_,c,t⟩ w c f ?_;refine⟨s1.heap.objs.size,[s1.heap.objs.size],_,_,H1,rfl,I1.kept (t':=s1.toks) λb o e=>A5 _ e,qRM a _ o m i k f,by rw[g];exact B4 _ rfl,λb n=>?_,q⟩
 have e:b=s1.heap.objs.size:=by simpa using n
 subst e;exact I1.fpOk (A7 _) (I1.hok.fresh (A7 _))
end
theorem qWT {a:Addr}{o:Obj}{Af:List (List Key×V)}{g:TG}{f:TT}{h:TE}{Kf:Hp->Prop}{σ0:St}{H0:Hp}{p:Addr}(Pv:Nat->St->Hp->Prop)(h0:Pv 0 σ0 H0)(s:∀i σ H,i<=Af.length->Pv i σ H->H a=some (.frz o (.dT Af)))
  (w:∀i k v r σ H,Af[i]?=some (k,v)->H r=some (.tup (k.map kV))->Pv i σ H->g (.ref r) σ H λσ2 H2=>f σ2 H2 λb H3=>if b=true then h σ2 H3 λy H4=>∃ys,H4 p=some (.lst ys)/\ys.length<B18/\Pv (i+1) σ2 (Ag H4 p (.lst (ys++[y]))) else Pv (i+1) σ2 H3)
  (l:∀σ H,Pv Af.length σ H->Kf H):
  LcG (ItT a o Af) g f h Kf σ0 H0 p:=by
 refine⟨λi m σ H=>m=Af.length-i/\i<=Af.length/\Pv i σ H,⟨Af.length,by simp,E8 _,h0⟩,?_⟩
 rintro i m σ H ⟨rfl,hi,q⟩;have d:=s i σ H hi q;by_cases c:i<Af.length
 ·refine .inr ⟨⟨c,d⟩,Pv (i+1),λσ' n t=>⟨Af.length-(i+1),by lia,rfl,c,t⟩,λx n y=>?_⟩
  obtain⟨e,k,v,r,u,j,z⟩:=y;subst e j;exact w i k v r σ _ u z q
 ·have e:i=Af.length:=by lia
  subst e;exact .inl ⟨⟨A7 _,d⟩,l σ H q⟩
section
variable{X:Cx}{k v:Expr}{tk tv:TE}{pos:Pos}
def qYR (tk tv:TE):TE:=λσ H Q=>∀p,H p=none->tk σ (Ag H p (.dT [])) λx H1=>tv σ H1 λy H2=>H2 p=some (.dT [])/\∃b ks,x=.ref b/\H2 b=some (.tup (ks.map kV))/\Q (.ref p) (Ag H2 p (.dT [(ks,y)]))
theorem qTM (hu:X.A.units+1<cLine)(hk:PE X k tk)(hv:PE X v tv):PE X (.Dict [some k] [v] pos) (qYR tk tv):=by
 intro g s σ H Q I q;have hn:=I.hok.fresh (A7 s.heap.objs.size);have I1:=I.laid (a:=s.heap.objs.size) (o:=.dT []) (h':=s.heap.push {cls:=.type "dict",data:=.dict #[]}) (t':=s.toks) (λ_ _ q=>A5 _ q) (A7 _) (qR8 s.heap I.big);rw[arm_eval_Dict,zip_pairTrees [some k] [v] X.env pos rfl rfl,dictDisplay_pairs _ (by intro z;cases z) (by show 1<17;decide)]
 apply B16;apply B72;apply B16;unfold subDict;apply B16;refine wpAny_alloc ?_;apply B16;apply B27;rw[if_pos (show(pairTrees [some k] [v] X.env pos).length<=15 by show 1<=15;decide)]
 apply B16;refine pairTrees_cons_walk (thn (hk g _ σ _ _ I1 (q _ hn)) λu s1 ⟨x,H1,I2,rx,q1⟩=>thn (hv g _ σ _ _ I2 q1) λr s2 ⟨y,H2,I3,ry,e,b,ks,ex,eb,q2⟩=>pairTrees_nil_walk ?_);subst ex;obtain rfl:u=D7 b:=rx;apply B27;obtain⟨z,l,xs,d,dd⟩:=qc8 I3.hok e;have t:xs.length<=B18:=by rw[<- C3 d];exact z
 apply B16;simp only[A81,List.forIn_nil];apply B16;apply B16;refine wpAny_dictSet_heap (knd:=B86 (qB3 X.prog X.w)) (hsz:=t) ?_ (qKW I3.hok eb) dd λh' f hs=>?_
 ·exact Nat.lt_of_succ_lt hu
 apply B17;apply B17;apply B17;apply B17;apply B17;refine⟨.ref s.heap.objs.size,_,?_,rfl,q2⟩;obtain⟨i,n,ep,j,m,p,h4,_,h5⟩:=f;refine qMG I3 (by rw[e];exact T5) hs ⟨i,j⟩ ⟨F3 (show 1<=2 by decide) (by decide),l,_,(d.put ks eb ry).keeps λc ys h=>?_,i,n,ep,j,m,p,h4,h5⟩
 rw[qAA (qCB h e (λz=>nomatch z))];exact h
end
noncomputable def kOf:Stmt->Expr
 |.Assign _ (.Dict [some k] _ _) _=>k
 |_=>.Name "" ⟨0,0,0,0⟩
noncomputable def vOf:Stmt->Expr
 |.Assign _ (.Dict _ [v] _) _=>v
 |_=>.Name "" ⟨0,0,0,0⟩
theorem qZB {X:Cx}{e:Expr}(h:∃n p,e=.Tuple [] n p):PE X e (tTup tNil):=by
 obtain⟨n,p,rfl⟩:=h;exact qCX qA3
theorem qTK {X:Cx}{e:Expr}(h:∃a1 a2 b1 b2 c1 c2 n p,e=.Tuple [.Constant (.int 0) a1 a2,.Constant .none b1 b2,.Constant .none c1 c2] n p):PE X e (tTup (qMZ (tC (.int 0)) (qMZ (tC .non) (qMZ (tC .non) tNil)))):=by
 obtain⟨_,_,_,_,_,_,n,p,rfl⟩:=h;exact qCX (qA0 qA7 (qA0 qJC (qA0 qJC qA3)))
theorem qVR {p:Pos}{a b:Int}{c d:Value}:∀{l:List Value},TriplesOk l->codeAmong p (l++[rawInt a,rawInt b,c])=some d->codeAmong p l=some d\/d=c:=by
 intro l h e
 fun_induction TriplesOk l with
 |case1=>
  simp only[l6,rawInt,codeAmong] at e
  split at e
  ·exact .inr (D5 e).symm
  ·cases e
 |case2 a' t b' u x rest ih=>
  simp only[A01,codeAmong] at e ⊢
  split at e
  ·rename_i hc
   rw[if_pos hc];exact .inl e
  ·rename_i hc
   rw[if_neg hc];exact ih h e
 |case3 l h1 h2=>exact h.elim
def BM (mg:Str->Option Value) (h:Heap):Prop:=∃bm ob,mg "__builtins__" = some (.ref bm)/\bm≠B69/\h.get? bm=some ob/\ob.cls=.type "module"/\ob.dict=some B69/\ob.data=.plain
section
variable{X:Cx}{Ab:List (Addr×Obj)}{σ:St}{H:Hp}{s:Shared}
noncomputable abbrev lamO (X:Cx)(q:Str)(params:B45)(body:Expr)(scope:Scope)(cc:Addr)(ctv:Value):Obj:=
 {cls:=.type "function",data:=.func (X2 "<lambda>" q params body scope (qD8 X.env scope.names []) ((X.mg "__name__").getD .none) (.ref cc) ctv)}
theorem qc6 {a:B45}{body:Expr}{d:Scope}{pos:Pos}{c P:Addr}{q:Str}{Q:Value->Shared->Prop}{E:Value->Shared->Prop}
  (I:Inv X Ab σ H s) (hb:BM X.mg X.base) (g:X.env.code=.ref c) (C:PySem.W.CodeHd X.base c P) (hP:H P=some (.tbl (.tab q))) (hq:X.env.qual ++ "<lambda>" = q)
  (a5:∀x,(x,G0)∈d.names->∃c,X.env.cells.lookup x=some c) (a9:defaultsOf a X.env=([],[]))
  (h:∀ (f cc:Addr) (ctv:Value) (s':Shared) (H':Hp),Inv X Ab σ H' s'->(∀ b o,H b=some o->H' b=some o)->H' cc=some (.tbl (.cod q))->
   s'.heap.get? f=some (lamO X q a body d cc ctv)->s.heap.objs.size<=f->H' f=none->Q (.ref f) s'):
  wpAny (model X.prog X.w) X.A (eval (.Lambda a body d pos) X.env) Q E s:=by
 obtain⟨a2,a3,tr,a0⟩:=(show ObjOk X.prog X.w H s.heap P (.tbl (.tab q)) from I.hok P _ hP);have hg:s.heap.Ns B30 X.mg:=I.ok.mod.glob.keeps I.bk;have nP:∀b o,X.base.get? b=some o->b≠P:=λb o e z=>by
  have:=(I.bs b o e).2;rw[z,hP] at this;cases this
 have ab:B30≠P:=by
  obtain⟨o,es,ep,e,_⟩:=I.ok.mod.glob;exact nP _ _ e
 have a8:s.heap.BuiltinsAt X.mg P:=by
  obtain⟨bm,ob,b1,b2,b3,b4,b5,b6⟩:=hb;refine⟨bm,ob,b1,b2,?_,nP _ _ b3,I.bk _ _ b3,b4,b5,b6⟩;rintro rfl;obtain⟨o,es,ep,e,hd,_⟩:=I.ok.mod.glob;rw[e] at b3;cases b3;rw[hd] at b6;cases b6
 refine PySem.W.kla_eval a9 ?_;rw[hq];cases hca:codeAmong pos a2.toList with
 |some cv=>
  obtain⟨cc,rfl,ad⟩:=a0 pos cv hca;refine PySem.W.kla_makeFunctionHit (qG3 a5) I.ok.glob hg g (C.keeps I.bk) a3 tr hca a8 λctv h' tk hk y=>?_;exact h h'.objs.size cc ctv _ H (I.kept (t':=tk) λb u e=>A5 _ (hk b u e)) (λ_ _ z=>z) ad (B4 _ rfl) y (I.hok.fresh y)
 |none=>
  refine PySem.W.kla_makeFunction (qG3 a5) I.ok.glob hg g (C.keeps I.bk) a3 tr hca ab a8 λl ctv h' tk hx aa ag a1 a7=>?_;have ae:H l=none:=I.hok.fresh aa;have j:∀b o,H b=some o->(Ag H l (.tbl (.cod q))) b=some o:=λb o e=>by rw[qAA (qA5 e ae)];exact e
  have k:∀b,H b=none->b≠P:=λb n z=>by rw[z,hP] at n;cases n
  have I':Inv X Ab σ (Ag H l (.tbl (.cod q))) {s with heap:=h'.push (lamO X q a body d l ctv),toks:=tk}:=by
   refine I.step (g':=s.gens) (d':=s.drawn) (ch:=[]) (λ_ z=>nomatch z) (λb o _ _ _ e n=>A5 _ (hx b o (k b n) e)) (λb o _ _ _ e n=>⟨o.slots,A5 _ (hx b o (k b n) e)⟩)
    (λb o _ e n=>by rw[qAA (D2 (D4 (B7 e) aa))];exact n) (λb o _ e=>?_) (λb xs e=>j _ _ e) (λb o u e=>j _ _ e) (λb t e=>j _ _ e) (λm hm=>(hm.extBut hx (k _ I.free)).push _) (λb u e=>?_) I.bare
   ·by_cases i:b=P
    ·exact⟨_,A5 _ (i▸a7)⟩
    ·exact⟨o,A5 _ (hx b o i e)⟩
   ·by_cases a4:b=l
    ·subst a4;rw[qA1] at e;cases e;obtain⟨c₂,oc,vs,t,e2,af,r⟩:=a1;cases e2;exact⟨b,oc,vs,t,rfl,A5 _ af,r⟩
    ·rw[qAA a4] at e;by_cases i:b=P
     ·subst i;rw[hP] at e;cases e;refine⟨_,A5 _ a7,?_,λa6 cv z=>?_⟩
      ·rw[E1];exact TriplesOk_snoc _ _ _ _ tr
      ·rw[E1] at z;rcases qVR tr z with z|z
       ·obtain⟨p,e1,e2⟩:=a0 a6 cv z;exact⟨p,e1,j _ _ e2⟩
       ·exact⟨l,z,qA1⟩
     ·refine(I.hok b u e).stay (λp v ac z=>A5 _ (hx p v ?_ z)) (λp z=>j _ _ z) (λp xs z=>j _ _ z) λp t z=>j _ _ z;rcases ac with z|z
      ·rw[z];exact i
      ·intro z2;rw[z2,hP] at z;cases z
  exact h h'.objs.size l ctv _ _ I' j qA1 (B4 _ rfl) (by lia) (by rw[qAA (V5 ag)];exact I.hok.fresh (by lia))
structure LmScope (X:Cx)(scope:Scope)(p:Str)(fv:List Nat):Prop where
 kind:scope.kind=.function
 co:scope.isCoroutine=false
 gen:scope.isGenerator=false
 nocell:∀y∈scope.names,y.2≠.cell
 par:scope.names.lookup p=some .local
 free:∀y∈scope.names,y.2=.free->X.env.kindOf y.1=some .cell\/X.env.kindOf y.1=some .free
 fvs:∀i∈fv,i<X.N.length/\scope.names.lookup (X.N.getD i O0)=some .free
structure LmZ where
 A:Around
 f:Addr
 cd:Value
 s₀:Shared
 H₀:Hp
 rm:Room 0 A
noncomputable abbrev lmEnv (X:Cx)(scope:Scope)(q:Str)(z:LmZ):Env:=PySem.W.envX q scope z.s₀.heap.objs.size z.f z.cd (qD8 X.env scope.names [])
noncomputable def lmCx (X:Cx)(scope:Scope)(p:Str)(fv:List Nat)(q:Str)(z:LmZ):Cx where
 prog:=X.prog
 w:=X.w
 K:=X.K
 mg:=X.mg
 base:=X.base
 A:=z.A.deeper (lmEnv X scope q z)
 N:=p::fv.map λi=>X.N.getD i O0
 s₀:=z.s₀
 H₀:=z.H₀
 env:=lmEnv X scope q z
 outer:=X.stack
 stack:=lmEnv X scope q z::X.stack
 ex:=[]
 fn:=λ_=>false
 calm:=true
 pn:=[]
 xe:=noX
theorem LmScope.fr {a:Scope}{p:Str}{fv:List Nat}(S:LmScope X a p fv)(I:Inv X Ab σ H s):∀x,(x,G0)∈a.names->∃c,X.env.cells.lookup x=some c:=λx b=>I.ok.has x (S.free _ b rfl)
theorem qd9 {a:Scope}{p:Str}{fv:List Nat}{q:Str}{A:Around}{f:Addr}{cd:Value}(g:Room 0 A)(I:Inv X Ab σ H s)(S:LmScope X a p fv)(m:A.frames=some X.stack):
  (lmCx X a p fv q ⟨A,f,cd,s,H,g⟩).Ok:=by
 have h:=S.fr I;have e:=qEB (env:=X.env) (names:=a.names) (acc:=[]) h (λx c z=>by simp at z)
 have d:∀b:Addr,b∉(lmCx X a p fv q ⟨A,f,cd,s,H,g⟩).ex:=λb z=>absurd (show b∈([]:List Addr) from z) (by simp)
 refine⟨I.ok.mod,S.kind,rfl,rfl,A7 _,λx y c n l=>I.ok.inj x y c (e _ _ n) (e _ _ l),λx k=>?_,λx c k=>(nomatch k),λ_=>g.hd,A18 m,.inr ⟨rfl,rfl⟩,λb z=>absurd z (d b),I.bs,F3 I.ok.bsz I.sz,λb _ _=>d b,λb z=>absurd z (d b),I.stack,I.stkFree⟩;have j:a.names.lookup x=some .cell\/a.names.lookup x=some .free:=k;rcases j with z|z
 ·exact absurd rfl (S.nocell _ (F1 z))
 ·exact qEC (.inl (F1 z))
noncomputable def qHP (fv:List Nat)(σ:St)(x:V):St:=some x::fv.map λi=>(σ[i]?).join
theorem qWP {a:Scope}{p:Str}{fv:List Nat}{q:Str}{A:Around}{f:Addr}{cd:Value}{x:V}{u:Value}{h₁:Heap}{tk:Nat}(rm:Room 0 A)(I:Inv X Ab σ H s)(S:LmScope X a p fv)(hA:A.frames=some X.stack)(hx:RelV x u)
  (a2:h₁.Ns s.heap.objs.size (λy=>[(p,u)].reverse.lookup y)) (r:∀b o,s.heap.get? b=some o->h₁.get? b=some o):
  Inv (lmCx X a p fv q ⟨A,f,cd,s,H,rm⟩) [] (qHP fv σ x) H {s with heap:=h₁,toks:=tk}:=by
 have a0:=S.fr I;have k:=qEB (env:=X.env) (names:=a.names) (acc:=[]) a0 (λx c z=>by simp at z)
 refine⟨qd9 rm I S hA,rfl,I.bare,Un.kept r,⟨_,a2,λi y v d g h3=>?_⟩,λy c e=>?_,I.hok.fresh (A7 _),λy c e=>I.freeC y c (k _ _ e),λp hp=>absurd (show p∈([]:List (Addr×Obj)) from hp) (by simp),I.hok.kept r,?_⟩
 ·have d:(p::fv.map λi=>X.N.getD i O0)[i]?=some y:=d;unfold qHP at g;cases i with
  |zero=>
   cases d;cases g;refine⟨u,hx,.inl ⟨S.par,?_⟩⟩;simp
  |succ i=>
   rw[List.getElem?_cons_succ,B6] at d g;cases e:fv[i]? with
   |none=>rw[e] at d;cases d
   |some j=>
    rw[e] at d g;have hj:=S.fvs j (B0 e);have d:X.N.getD j O0=y:=D5 d;have g:(σ[j]?).join=some v:=D5 g;have w:σ[j]?=some (some v):=by
     cases q:σ[j]? with
     |none=>rw[q] at g;cases g
     |some y=>rw[q] at g;exact congrArg some g
    have a1:X.N[j]?=some y:=by
     rw[P3] at d;rw[A3 hj.1] at d ⊢;exact congrArg some d
    have n:a.names.lookup y=some .free:=d ▸ hj.2;have h:=F1 n;obtain ⟨m,hn,hl⟩:=id I.loc;have l:=S.free _ h rfl;obtain ⟨u,ru,lk⟩:=hl j y v a1 w (by
     rcases l with z|z
     ·exact .inr (.inl z)
     ·exact .inr (.inr z))
    refine⟨u,ru,?_⟩;rcases lk with⟨z,_⟩|⟨_,c,e1,z⟩
    ·rcases l with y'|y'
     ·have y':X.env.kindOf y=some .cell:=y';rw[z] at y';cases y'
     ·have y':X.env.kindOf y=some .free:=y';rw[z] at y';cases y'
    ·obtain⟨c',e2⟩:=qEC (env:=X.env) (names:=a.names) (acc:=[]) (x:=y) (.inl h);have e3:=k _ _ e2;rw[e1] at e3;cases e3;obtain⟨o,ho,t⟩:=z;exact .inr ⟨.inr n,c,e2,o,r _ _ ho,t⟩
 ·obtain⟨v,o,ho,t⟩:=I.cell y c (k _ _ e);exact⟨v,o,r _ _ ho,t⟩
 ·unfold qHP;show _=(p::fv.map λi=>X.N.getD i O0).length;simp
theorem qWV {c:B45}{body:Expr}{a:Scope}{p:Str}{fv:List Nat}{q:Str}{A:Around}{f d:Addr}{n u:Value}{x:V}{te:TE}{Q:VK}(k:Room 0 A)(I:Inv X Ab σ H s)(S:LmScope X a p fv)(hA:A.frames=some X.stack)
  (hf:s.heap.get? f=some (lamO X q c body a d n)) (m:H d=some (.tbl (.cod q))) (hx:RelV x u)
  (g:∀(cl:List (Str×Addr)) (pm cd ct u:Value),B76 (X2 "<lambda>" q c body a cl pm cd ct) ⟨[u],[]⟩=pure [(p,u)])
  (he:∀z,PE (lmCx X a p fv q z) body te) (h:te (qHP fv σ x) H Q):
  B50 (model X.prog X.w) A (.call (.ref f) ⟨[u],[]⟩) (λr s'=>∃v y H',r=.ok (.ret v)/\Inv X Ab σ H' s'/\RelV y v/\Q y H'/\Un (frs X.stack) [] H H' s.heap s'.heap) s:=by
 have i:s.heap.CodeRec (.ref d) q:=(show ObjOk X.prog X.w H s.heap d (.tbl (.cod q)) from I.hok d _ m);refine PySem.W.kla_callFunE k.depth hf rfl S.co S.gen rfl i ?_;rw[g];refine B17 (wpAny_newFunctionEnv S.nocell (λy hy=>?_) (λh₁ t j=>⟨I.nolimit.fresh _ j,?_⟩) S.kind)
 ·rw[A6.mp hy];exact S.par
 have l:∀b o,s.heap.get? b=some o->h₁.get? b=some o:=λb o e=>j.extBut b o (D2 (B7 e)) (A5 _ e);refine PySem.W.kla_codeExpr ?_;have J:=qWP (q:=q) (f:=f) (cd:=.ref d) (tk:=s.toks+[(p,u)].length) k I S hA hx t l;refine B26 ((he ⟨A,f,.ref d,s,H,k⟩) [] _ _ H Q J h) (λv s' ⟨y,H',J',ry,qy⟩=>?_) λ_ _ z=>z.elim;exact⟨v,y,H',rfl,I.call' (ch:=[]) J'.os J'.base J'.hok J'.bare (λb hb=>absurd hb (by simp)),ry,qy,J'.base⟩
end
abbrev Sm0 (H H':Hp):Prop:=∀b o,H b=some o->H' b=some o
section
variable{X:Cx}
noncomputable def LamF (X:Cx)(q:Str)(params:B45)(body:Expr)(scope:Scope)(cc:Addr)(ctv:Value)(f:Addr):HO:=.ext λh=>h.get? f=some (lamO X q params body scope cc ctv)
def tLam (X:Cx)(P:Addr)(q:Str)(params:B45)(body:Expr)(scope:Scope):TE:=λσ H Q=>H P=some (.tbl (.tab q))/\
 ∀f cc ctv H',Sm0 H H'->H f=none->H' f=some (LamF X q params body scope cc ctv f)->H' cc=some (.tbl (.cod q))->Q (.ref f) H'
theorem qbH {a:B45} {body:Expr} {d:Scope} {pos:Pos} {c P:Addr} {q:Str} {p:Str} {fv:List Nat} (hb:BM X.mg X.base) (i:X.env.code=.ref c) (C:PySem.W.CodeHd X.base c P) (hq:X.env.qual ++ "<lambda>" = q)
  (S:LmScope X d p fv) (m:defaultsOf a X.env=([],[])):PE X (.Lambda a body d pos) (tLam X P q a body d):=by
 intro Ab s σ H Q I ⟨hP,h⟩;refine qc6 I hb i C hP hq (S.fr I) m λf t l s' H' I' sm j y g w=>?_;have n:H f=none:=I.hok.fresh g;have u:t≠f:=qA5 j w
 -- f is tracked from now on
 have hF:X.s₀.heap.objs.size<=f:=F3 I.sz g;have I2:Inv X Ab σ (Ag H' f (LamF X q a body d t l f)) s':=by
  refine I'.track w hF (V5 (D4 I.lt g)) (λx c e z=>?_) (λp hp z=>?_) ⟨y,⟨_,y⟩,λh1 h2 x k=>k _ x⟩
  ·obtain⟨v,hc⟩:=I.cell x c e;exact absurd (D4 hc.lt (by rw[z];exact g)) (O2 _)
  ·exact absurd (D4 (B7 (I.pin p hp).1) (by rw[z];exact g)) (O2 _)
 refine⟨.ref f,_,I2,rfl,h f t l _ (λb o e=>?_) n qA1 (by rw[qAA u];exact j)⟩
 rw[qAA (qA5 e n)];exact sm b o e
noncomputable def qF2 {α:Type}:α×List Int->List (α×List Int)->α
 |b,[]=>b.1
 |b,x::r=>if HT.lexLt x.2 b.2=true then qF2 x r else qF2 b r
structure KCmp (X:Cx)(KR:Hp->V->List Int->Prop):Prop where
 mono:∀H H' y k,Sm0 H H'->KR H y k->KR H' y k
 cmp:∀(Ab:List (Addr×Obj)) (σ:St) (s:Shared) (H:Hp) (y y':V) (u u':Value) (k k':List Int) (Q:Value->Shared->Prop) (E:Value->Shared->Prop),Inv X Ab σ H s->RelV y u->RelV y' u'->KR H y k->KR H y' k'->Q (.bool (HT.lexLt k k')) s->
  wpAny (model X.prog X.w) X.A.in1 (richCompare .Lt u u') Q E s
theorem Inv.fpStk {Ab:List (Addr×Obj)}{σ:St}{H:Hp}{s:Shared}{b:Addr}(I:Inv X Ab σ H s)(f:FpOk X Ab H b):b∉frs X.stack:=λz=>by
 rcases C0.mp (I.stkSub b z) with e|e
 ·exact f.2.1 e
 ·exact f.2.2.1 e
theorem FpOk.to {Ab:List (Addr×Obj)}{H H':Hp}{b:Addr}(f:FpOk X Ab H b)(h:H' b=none):FpOk X Ab H' b:=⟨h,f.2⟩
structure KeyAt (X:Cx)(σ:St)(fv:List Nat)(te:TE)(KR:Hp->V->List Int->Prop)(H0:Hp)(xs:List V)(ks:List (List Int)):Prop where
 len:ks.length=xs.length
 key:∀(i:Nat) (x:V) (k:List Int),xs[i]?=some x->ks[i]?=some k->∀Hc,Sm0 H0 Hc->te (qHP fv σ x) Hc λy H'=>Sm0 Hc H'/\KR H' y k
section
variable{Ab:List (Addr×Obj)}{σ:St}{params:B45}{body:Expr}{scope:Scope}{p:Str}{fv:List Nat}{q:Str}{te:TE}{KR:Hp->V->List Int->Prop}{l f cc:Addr}{ctv:Value}{H0:Hp}{xs:List V}{ks:List (List Int)}{Q:VK}
theorem qUE {s:Shared} {H:Hp} {b S:Addr} {i:Nat} {x:V} {k:List Int} {u:Value} (t:Room 1 X.A) (hA:X.A.in1.frames=some X.stack) (S':LmScope X scope p fv) (a:∀(cl:List (Str×Addr)) (pm cd ct u:Value),B76 (X2 "<lambda>" q params body scope cl pm cd ct) ⟨[u],[]⟩=pure [(p,u)])
  (he:∀z,PE (lmCx X scope p fv q z) body te) (KA:KeyAt X σ fv te KR H0 xs ks) (hf:H0 f=some (LamF X q params body scope cc ctv f)) (m:H0 cc=some (.tbl (.cod q)))
  (I:Inv X Ab σ H s) (l:Sm0 H0 H) (hx:xs[i]?=some x) (hk:ks[i]?=some k) (rx:RelV x u) (d:FpOk X Ab H b) (c:FpOk X Ab H S) {g j:Obj} (o:s.heap.get? b=some g) (n:s.heap.get? S=some j) {Q':Value->Shared->Prop} {E:Value->Shared->Prop}
  (h:∀v y H' s',Inv X Ab σ H' s'->Sm0 H H'->RelV y v->KR H' y k->FpOk X Ab H' b->FpOk X Ab H' S->s'.heap.get? b=some g->s'.heap.get? S=some j->Q' v s'):wpAny (model X.prog X.w) X.A.in1 (call (.ref f) [u]) Q' E s:=by
 have gf:s.heap.get? f=some (lamO X q params body scope cc ctv):=(show ObjOk X.prog X.w H s.heap f (LamF X q params body scope cc ctv f) from I.hok f _ (l _ _ hf)).1;refine wpAny_call (B60 (qWV t.in1 I S' hA gf (l _ _ m) rx a he (KA.key i x k hx hk H l)) λr s' ⟨v,y,H',e,I',ry,⟨sm',kr⟩,un⟩=>?_);subst e;exact h v y H' s' I' sm' ry kr (d.to (un.free b g o d.1 (by simp))) (c.to (un.free S j n c.1 (by simp))) (un.keep b g o d.1 (I.fpStk d) (by simp)) (un.keep S j n c.1 (I.fpStk c) (by simp))
theorem qS0 {it S:Addr} {kw:List (Str×Value)} (hc:X.calm=true) (rm:Room 1 X.A) (hA:X.A.in1.frames=some X.stack) (S':LmScope X scope p fv) (a5:∀(cl:List (Str×Addr)) (pm cd ct u:Value),B76 (X2 "<lambda>" q params body scope cl pm cd ct) ⟨[u],[]⟩=pure [(p,u)])
  (he:∀z,PE (lmCx X scope p fv q z) body te) (KC:KCmp X KR) (KA:KeyAt X σ fv te KR H0 xs ks) (hf:H0 f=some (LamF X q params body scope cc ctv f)) (ad:H0 cc=some (.tbl (.cod q))) (hl:SqL X.K H0 l xs) (a2:it≠S)
  (h:∀H',Sm0 H0 H'->SqL X.K H' l xs):
  ∀(k j:Nat) (s:Shared) (H:Hp) (bx y:V) (bk:List Int) (bu bv:Value) (c:Nat),xs.length-j=k->j<=xs.length->Inv X Ab σ H s->Sm0 H0 H->FpOk X Ab H it->FpOk X Ab H S->s.heap.IsListIter it l j->
   s.heap.get? S=some {cls:=.type "list",dict:=none,data:=.seq #[bu,bv] c,slots:=#[]}->RelV bx bu->RelV y bv->KR H y bk->(∀H',Sm0 H0 H'->Q (qF2 (bx,bk) ((xs.zip ks).drop j)) H')->
   B50 (model X.prog X.w) X.A (.builtin "min.loop" ⟨[.ref it,.ref f,.ref S],kw⟩) (λr s'=>∃v,r=.ok (.ret v)/\EP X Ab σ Q v s') s:=by
 have i:(toString "min" ++ toString ".loop" : String) = "min.loop":=by decide
 intro k
 induction k with
 |zero=>
  intro j s H bx y bk bu bv c hk hj I sm g t a3 hS rb ry kb n;obtain⟨ah,rv,pl,hz⟩:=I.list (h H sm);have aj:=rv.length;refine B36 Z8 ?_;rw[G3 M8 _];show wpAny _ X.A.in1 (seqItems? (.ref S) >>= _) _ _ s;refine B16 (B67 hS rfl ?_);show wpAny _ X.A.in1 (tryCatch (pyNext (.ref it)) _ >>= _) _ _ s;refine B16 (B48 (B87 (rm.in1.hd) a3 pl.isList (by simp;lia) λh' eb=>?_))
  have I1:Inv X Ab σ H {s with heap:=h'}:=I.turned (t':=s.toks) (λb o m e=>eb b o m e) g.1 g.2.1 g.2.2.2.1 g.2.2.2.2.1 g.2.2.2.2.2;have ae:=eb S _ (J3 a2) hS;show wpAny _ X.A.in1 (updateSeq S (λ_=>#[]) >>= _) _ _ _;refine B16 (wpAny_updateSeq ae rfl (B16 (wpAny_letGo (B17 ?_))));have I2:Inv X Ab σ H {s with heap:=h'.update S (T8 λ_=>(#[]:Array Value))}:=I1.turned (t':=s.toks) (λb o m e=>(F5 _ _ (J3 m)).trans e) t.1 t.2.1 t.2.2.2.1 t.2.2.2.2.1 t.2.2.2.2.2;have hq:=n H sm;rw[A03 (by rw[A11,KA.len];lia)] at hq
  exact⟨_,rfl,bx,H,I2,rb,hq⟩
 |succ k ih=>
  intro j s H bx y bk bu bv c hk hj I sm g t a3 hS rb ry kb n;have d:j<xs.length:=by lia
  obtain⟨ah,rv,pl,hz⟩:=I.list (h H sm);have a1:=A3 d;have a9:=A3 (show j<ks.length by rw[KA.len];exact d)
  have ez:(xs.zip ks).drop j=(xs[j],ks[j]'(by rw[KA.len];exact d))::(xs.zip ks).drop (j+1):=by
   rw[J6 (by rw[A11,KA.len];lia),List.getElem_zip]
  rw[ez] at n;generalize xs[j]=x at a1 n;generalize ks[j]'(by rw[KA.len];exact d)=kx at a9 n
  obtain⟨u,hu,ru⟩:=rv.get a1;refine B36 Z8 ?_;rw[G3 M8 _];show wpAny _ X.A.in1 (seqItems? (.ref S) >>= _) _ _ s;refine B16 (B67 hS rfl ?_);show wpAny _ X.A.in1 (tryCatch (pyNext (.ref it)) _ >>= _) _ _ s;refine B16 (B48 (B81 a3 pl.isList (x:=u) (by simpa using hu) λh' af sb=>?_))
  have I1:Inv X Ab σ H {s with heap:=h'}:=I.turned (t':=s.toks) (λb o m e=>(sb.2 b m).trans e) g.1 g.2.1 g.2.2.2.1 g.2.2.2.2.1 g.2.2.2.2.2;have ag:=(sb.2 S (J3 a2)).trans hS;obtain⟨oi,ai,a8,a6⟩:=id af;show wpAny _ X.A.in1 (tryCatch (B62 [u] (call (.ref f) [u])) _ >>= _) _ _ _;refine B16 (B48 (B27 (qUE rm hA S' a5 he KA hf ad I1 sm a1 a9 ru g t ai ag λv y2 H2 s2 I2 a0 r2 k2 a7 a ab a4=>?_)));have aa:s2.heap.IsListIter it l (j+1):=⟨oi,ab,a8,a6⟩;show wpAny _ X.A.in1 (tryCatch (B62 [u,v] (richCompare .Lt v bv >>= _)) _ >>= _) _ _ _;refine B16 (B48 (B27 (B16 (KC.cmp Ab σ s2 H2 y2 y v bv kx bk _ _ I2 r2 ry k2 (KC.mono _ _ _ _ a0 kb) ?_))));refine B16 (B27 (B33 (B16 (wpAny_letGo (B17 ?_)))));have ac:Sm0 H0 H2:=λb o e=>a0 b o (sm b o e);cases m:HT.lexLt kx bk with
  |true=>
   rw[if_pos rfl];have et:qF2 (bx,bk) ((x,kx)::(xs.zip ks).drop (j+1))=qF2 (x,kx) ((xs.zip ks).drop (j+1)):=by show(if HT.lexLt kx bk=true then _ else _)=_;rw[m];rfl
   rw[et] at n;refine B16 (wpAny_updateSeq a4 rfl (B16 (wpAny_letGo ?_)));rw[i];have I3:Inv X Ab σ H2 {s2 with heap:=s2.heap.update S (T8 λ_=>#[u,v])}:=I2.turned (t':=s2.toks) (λb o m e=>(F5 _ _ (J3 m)).trans e) a.1 a.2.1 a.2.2.2.1 a.2.2.2.2.1 a.2.2.2.2.2;exact B17 ⟨B42 M8 _,ih (j+1) _ H2 x y2 kx u v _ (by lia) d I3 ac a7 a ⟨oi,(F5 _ _ (J3 a2)).trans ab,a8,a6⟩ (L4 _ a4 rfl) ru r2 k2 n⟩
  |false=>
   rw[if_neg B1];have et:qF2 (bx,bk) ((x,kx)::(xs.zip ks).drop (j+1))=qF2 (bx,bk) ((xs.zip ks).drop (j+1)):=by show(if HT.lexLt kx bk=true then _ else _)=_;rw[m];rfl
   rw[et] at n;refine B16 (wpAny_letGo ?_);rw[i];exact B17 ⟨B42 M8 _,ih (j+1) s2 H2 bx y bk bu bv c (by lia) d I2 ac a7 a aa a4 rb ry (KC.mono _ _ _ _ a0 kb) n⟩
noncomputable def qbE (dv:Option V):List (V×List Int)->Option V
 |[]=>dv
 |b::r=>some (qF2 b r)
theorem qP8 {s:Shared} {H:Hp} {kw:List (Str×Value)} (hc:X.calm=true) (rm:Room 1 X.A) (hA:X.A.in1.frames=some X.stack) (S':LmScope X scope p fv) (j:∀(cl:List (Str×Addr)) (pm cd ct u:Value),B76 (X2 "<lambda>" q params body scope cl pm cd ct) ⟨[u],[]⟩=pure [(p,u)])
  (he:∀z,PE (lmCx X scope p fv q z) body te) (KC:KCmp X KR) (KA:KeyAt X σ fv te KR H xs ks) (hf:H f=some (LamF X q params body scope cc ctv f)) (a1:H cc=some (.tbl (.cod q))) (hl:SqL X.K H l xs)
  (y:∀H',Sm0 H H'->SqL X.K H' l xs) (I:Inv X Ab σ H s)
  (ok:argsOk "min" ⟨[.ref l],kw⟩) (df:Option Value) (t:m4 "min" ["key","default"] 0 ⟨[],kw⟩=pure [some (.ref f),df]) (dv:Option V) (a9:df=none/\dv=none\/∃d u,df=some u/\dv=some d/\RelV d u)
  (m:V) (em:qbE dv (xs.zip ks)=some m) (hQ:∀H',Sm0 H H'->Q m H'):wpAny (model X.prog X.w) X.A (call (.builtin "min") [.ref l] kw) (EP X Ab σ Q) X.xe s:=by
 obtain⟨ae,rv,pl,hz⟩:=I.list hl;have a0:=pl.isList;have ad:l<s.heap.objs.size:=by obtain⟨_,e,_⟩:=a0;exact B7 e
 have n:(toString "min" ++ toString ".loop" : String) = "min.loop":=by decide
 refine qNZ PySem.F.kind_min PySem.F.plain_min PySem.F.entry_min ok ?_;show wpAny _ _ (m4 "min" ["key","default"] 0 ⟨[],kw⟩ >>= _) _ _ s;refine B16 (B74 t ?_);refine B16 (B17 ?_);refine B16 (B40 a0 ?_);refine B16 (B29 ?_);rw[n];refine B17 ⟨_,rfl,B42 M8 _,?_⟩;have hS:(s.heap.push {cls:=.type "list_iterator",data:=.fields #[.ref l,.int 0 0]}).objs.size=s.heap.objs.size+1:=L7 ..;have I0:Inv X Ab σ H {s with heap:=(s.heap.push {cls:=.type "list_iterator",data:=.fields #[.ref l,.int 0 0]}).push {cls:=.type "list",data:=.seq #[]}}:=I.kept (t':=s.toks) λb o e=>A5 _ (A5 _ e);have c:FpOk X Ab H s.heap.objs.size:=I.fpOk (A7 _) (I.hok.fresh (A7 _));have fS:FpOk X Ab H (s.heap.push {cls:=.type "list_iterator",data:=.fields #[.ref l,.int 0 0]}).objs.size:=by rw[hS];exact I.fpOk (R0 _) (I.hok.fresh (R0 _))
 have h:s.heap.objs.size≠(s.heap.push {cls:=.type "list_iterator",data:=.fields #[.ref l,.int 0 0]}).objs.size:=by rw[hS];exact(X6 _).symm
 have gi:((s.heap.push {cls:=.type "list_iterator",data:=.fields #[.ref l,.int 0 0]}).push {cls:=.type "list",data:=.seq #[]}).get? s.heap.objs.size=some {cls:=.type "list_iterator",data:=.fields #[.ref l,.int 0 0]}:=A5 _ (B4 _ rfl);have gS:((s.heap.push {cls:=.type "list_iterator",data:=.fields #[.ref l,.int 0 0]}).push {cls:=.type "list",data:=.seq #[]}).get? (s.heap.push {cls:=.type "list_iterator",data:=.fields #[.ref l,.int 0 0]}).objs.size=some {cls:=.type "list",data:=.seq #[]}:=B4 _ rfl;have g:=(a0.push {cls:=.type "list_iterator",data:=.fields #[.ref l,.int 0 0]}).push {cls:=.type "list",data:=.seq #[]};generalize (s.heap.push {cls:=.type "list_iterator",data:=.fields #[.ref l,.int 0 0]}).push {cls:=.type "list",data:=.seq #[]}=h0 at I0 gi gS g;generalize (s.heap.push {cls:=.type "list_iterator",data:=.fields #[.ref l,.int 0 0]}).objs.size=S at fS h gS ⊢;generalize s.heap.objs.size=it at c h gi ⊢;refine B36 Z8 ?_;rw[G3 M8 _];show wpAny _ X.A.in1 (seqItems? (.ref S) >>= _) _ _ _;refine B16 (B67 gS rfl ?_);show wpAny _ X.A.in1 (tryCatch (pyNext (.ref it)) _ >>= _) _ _ _;have a2:h0.IsListIter it l 0:=⟨_,gi,rfl,rfl⟩;cases xs with
 |nil=>
  have ek:ks=[]:=M6.mp KA.len;subst ek;have r:dv=some m:=em;cases rv;refine B16 (B48 (B87 (s:={s with heap:=h0}) (rm.in1.hd) a2 g (by simp) λh' eb=>?_))
  rcases a9 with⟨_,e2⟩|⟨d,u,rfl,e3,rd⟩
  ·rw[e2] at r;cases r
  ·rw[e3] at r;cases r;show wpAny _ X.A.in1 (rule _ >>= λ_=>ret u) _ _ _;have I1:Inv X Ab σ H {s with heap:=h'}:=I0.turned (t':=s.toks) (λb o t e=>eb b o t e) c.1 c.2.1 c.2.2.2.1 c.2.2.2.2.1 c.2.2.2.2.2;exact B16 (B56 (B17 ⟨u,rfl,_,H,I1,rd,hQ H λ_ _ z=>z⟩))
 |cons x xs=>
  cases ks with
  |nil=>have:=KA.len;simp at this
  |cons k ks=>
   cases em;obtain⟨u,hu,ru⟩:=rv.get (i:=0) rfl;refine B16 (B48 (B81 (s:={s with heap:=h0}) a2 g (x:=u) (by simpa using hu) λh' a7 sb=>?_))
   have I1:Inv X Ab σ H {s with heap:=h'}:=I0.turned (t':=s.toks) (λb o t e=>(sb.2 b t).trans e) c.1 c.2.1 c.2.2.2.1 c.2.2.2.2.1 c.2.2.2.2.2;have aa:=(sb.2 S (J3 h)).trans gS;obtain⟨oi,ac,a8,a5⟩:=id a7;show wpAny _ X.A.in1 (tryCatch (B62 [u] (call (.ref f) [u])) _ >>= _) _ _ _;refine B16 (B48 (B27 (qUE rm hA S' j he KA hf a1 I1 (λ_ _ z=>z) (i:=0) rfl rfl ru c fS ac aa λv y2 H2 s2 I2 a4 r2 k2 a6 a ab a3=>?_)));show wpAny _ X.A.in1 (updateSeq S (λ_=>#[u,v]) >>= _) _ _ _;refine B16 (wpAny_updateSeq a3 rfl ?_);rw[n];have I3:Inv X Ab σ H2 {s2 with heap:=s2.heap.update S (T8 λ_=>#[u,v])}:=I2.turned (t':=s2.toks) (λb o t e=>(F5 _ _ (J3 t)).trans e) a.1 a.2.1 a.2.2.2.1 a.2.2.2.2.1 a.2.2.2.2.2;exact B17 ⟨B42 M8 _,qS0 hc rm hA S' j he KC KA hf a1 hl h y _ 1 _ H2 x y2 k u v _ rfl (by simp) I3 a4 a6 a ⟨oi,(F5 _ _ (J3 h)).trans ab,a8,a5⟩ (L4 _ a3 rfl) ru r2 k2 hQ⟩
end
end
noncomputable def hdIn (K:PySem.W.Frag)(c P:Addr):Bool:=match K.lookup c with
 |some ⟨.type n,_,.fields vs,_⟩=>decide (n = "code")&&decide (c≠P)&&(match(vs[11]?:Option Value),vs.getD 11 .none with|some (.ref a),.ref b=>decide (a=P)&&decide (b=P)|_,_=>false) &&
   (match vs.getD 18 .none,vs.getD 7 .none,vs.getD 9 .none,vs.getD 10 .none with|.str _ _,.int _ _,.bool _,.int _ _=>true|_,_,_,_=>false)
 |_=>false
theorem qVE {K:PySem.W.Frag}{h:Heap}{c P:Addr}(X:K.In h)(d:hdIn K c P=true):PySem.W.CodeHd h c P:=by
 unfold hdIn at d
 split at d
 ·rename_i n dd vs sl hl
  rw[L6,L6,L6] at d;obtain⟨⟨⟨j,i⟩,e⟩,g⟩:=d
  split at e
  ·rename_i a b e1 e2
   rw[L6,decide_eq_true_eq,decide_eq_true_eq] at e;obtain⟨rfl,rfl⟩:=e
   split at g
   ·rename_i f t fl tg inF text tt g1 g2 g3 g4
    exact⟨_,vs,_,_,_,_,_,_,_,X _ _ hl,by rw[of_decide_eq_true j],rfl,e1,e2,g1,g2,g3,g4,of_decide_eq_true i⟩
   ·cases g
  ·cases e
 ·cases d
section
variable{X:Cx}
end
theorem Fun.okL {P:B20}{w:World}{K:PySem.W.Frag}{mg:Str->Option Value}{base:Heap}{x a:Str}{st:Stmt}{f:Addr}{d:B37}{N ps:List Str}{k:Nat}{sp:Sp}{c:Addr}(F:Fun K x a st f d)(o:d.code=.ref c)(S:FnScope N ps (qAB st))(l:∀vs H Q E,sp vs H Q E->vs.length=ps.length)
  (b:∀ (A:Around) (outer:List Env) (s:Shared) (H:Hp) (vs:List V) (Q:VK) (E:XK),Room k (A.deeper (envOfC a (qAB st) s.heap.objs.size f (.ref c)))->sp vs H Q E->
   ∃t,PSs (cxOf CX0 P w K mg base N a (qAB st) f (.ref c) A outer s H E).nox (qBC st) t/\t {nx:=λ_ H'=>Q .non H',rt:=Q} (start N vs) H):FnOk P w K mg base CX0 (k+1) f d ps sp:=by
 obtain⟨oc,od,kV,u,pm,an,m,z,r,rfl,v,j⟩:=F.ex;have e:m=.ref c:=o;subst e;refine qc5 v j S l λA outer s H vs Q E n g=>?_;obtain⟨t,h,q⟩:=b A outer s H vs Q E n g;exact⟨t,h.nox,q⟩
noncomputable def qU5 (scope:Scope)(p:Str)(fv:List Nat)(osc:Scope)(N:List Str):Bool:=
 decide (scope.kind=.function)&&decide (scope.isCoroutine=false)&&decide (scope.isGenerator=false)&&scope.names.all (λy=>decide (y.2≠.cell))&&decide (scope.names.lookup p=some .local) &&
 scope.names.all (λy=>decide (y.2≠.free)||(decide (osc.names.lookup y.1=some .cell)||decide (osc.names.lookup y.1=some .free)))&&fv.all λi=>decide (i<N.length)&&decide (scope.names.lookup (N.getD i O0)=some .free)
theorem lms {X:Cx}{a:Scope}{p:Str}{fv:List Nat}(h:qU5 a p fv X.env.scope X.N=true):LmScope X a p fv:=by
 unfold qU5 at h;simp only[L6,decide_eq_true_eq,J5,P9] at h;obtain⟨⟨⟨⟨⟨⟨j,e⟩,g⟩,i⟩,c⟩,b⟩,d⟩:=h;refine⟨j,e,g,i,c,λy k f=>?_,d⟩;rcases b y k with z|z
 ·exact absurd f z
 ·exact z
structure LTab where
 x:Str
 c:Addr
 P:Addr
 q:Str
def qcB (tabs:List LTab)(H:Hp):Prop:=∀t∈tabs,H t.P=some (.tbl (.tab t.q))
noncomputable def entH (a:Addr)(o:Obj)(xs:List V)(ina:Bool)(tabs:List LTab):Hp:=λb=>if ina=true/\b=a then some (.frz o (.lst xs)) else(tabs.find? λt=>decide (t.P=b)).map λt=>.tbl (.tab t.q)
theorem qUA {P:B20}{w:World}{K:PySem.W.Frag}{mg mb:Str->Option Value}{k:Nat}{fa a:Addr}{fd:B37}{x:Str}{sp:Sp}{g:Shared}{vs:List Value}{ns:List Int}(f:List LTab)
  (KX:K.In g.heap) (af:g.heap.Ns B30 mg) (hb:g.heap.Ns B69 mb) (ai:∀x:Str,x ≠ "__name__"->mb x=B23 x) (ae:g.heap.NoLimit) (hg:g.gens=#[])
  (ha:g.heap.get? a=some {cls:=.type "list",data:=.seq vs.toArray}) (hi:B25 vs ns) (hl:ns.length<=B18) (hr:Room k callerA) (al:BM mg g.heap)
  (l:∀t∈f,PySem.W.CodeHd g.heap t.c t.P/\g.heap.get? t.P=some (A89 #[])) (hK:A30 K=true) (a9:∀t∈f,∀t'∈f,t.P=t'.P->t.q=t'.q)
  (F:∀base:Heap,K.In base->base.Ns B30 mg->BM mg base->FnOk P w K mg base CX0 k fa fd [x] sp) (a8:∀(s:Shared) (u:Value),BindsTo s fd ⟨[u],[]⟩ [(x,u)])
  (am:∀H:Hp,qcB f H->SqL K H a (ns.map V.int)->sp [.ref a] H (λv _=>v=.bl true) λ_ _ _=>False):
  B50 (model P w) callerA (.call (.ref fa) ⟨[.ref a],[]⟩) (λr s'=>r=.ok (.ret (.bool true))/\OldK g.heap s'.heap/\s'.os=g.os/\AllBare s'.gens) g:=by
 have rv:=qIX hi;have aa:=hi.length;have aj:∀t∈f,t.P≠a:=λt i z=>by
  have:=(l t i).2;rw[z,ha] at this;cases this
 have ah:∀t∈f,K.lookup t.P=none:=λt i=>by
  cases e:K.lookup t.P with
  |none=>rfl
  |some o=>
   have y:=KX _ _ e;rw[(l t i).2] at y;cases y;have h2:=J5.mp hK _ (PySem.W.mem_of_lookupK e);exact absurd (show false=true from h2) B1
 obtain⟨a1,a5⟩:∃a1:Bool,(a1=true↔K.lookup a=none):=by
  cases e:K.lookup a with
  |none=>exact⟨true,by simp⟩
  |some o=>exact⟨false,by simp⟩
 -- the heap's description
 let o0:Obj:={cls:=.type "list",data:=.seq vs.toArray}
 have a0:∀b u,entH a o0 (ns.map V.int) a1 f b=some u->(a1=true/\b=a/\u=.frz o0 (.lst (ns.map V.int)))\/∃t∈f,t.P=b/\u=.tbl (.tab t.q):=λb u e=>by
  unfold entH at e
  split at e
  ·rename_i c
   cases e;exact .inl ⟨c.1,c.2,rfl⟩
  ·cases y:f.find? (λt=>decide (t.P=b)) with
   |none=>rw[y] at e;cases e
   |some t=>
    rw[y] at e;cases e;exact .inr ⟨t,p9 y,of_decide_eq_true (A84 (p:=λt:LTab=>decide (t.P=b)) y),rfl⟩
 have a7:∀t∈f,entH a o0 (ns.map V.int) a1 f t.P=some (.tbl (.tab t.q)):=λt i=>by
  unfold entH;rw[if_neg λz=>aj t i z.2];cases y:f.find? (λt'=>decide (t'.P=t.P)) with
  |none=>exact absurd (decide_eq_true (rfl:t.P=t.P)) (List.find?_eq_none.mp y t i)
  |some t'=>
   have h1:=p9 y;have h2:t'.P=t.P:=of_decide_eq_true (A84 (p:=λt':LTab=>decide (t'.P=t.P)) y);rw[O9,a9 t' h1 t i h2]
 generalize hH:entH a o0 (ns.map V.int) a1 f=H at a0 a7;have hS:SqL K H a (ns.map V.int):=by
  cases e:K.lookup a with
  |none=>
   refine .inl (.inr ⟨o0,?_⟩);rw[<- hH];unfold entH;rw[if_pos ⟨a5.mpr e,rfl⟩]
  |some o=>
   have y:=KX a o e;rw[ha] at y;cases y;exact .inr ⟨_,vs.toArray,_,e,rfl,rfl,rfl,by rw[C1,aa];exact hl,by simpa using rv⟩
 have ad:HOk P w H g.heap:=λb u e=>by
  rcases a0 b u e with⟨_,rfl,rfl⟩|⟨t,i,rfl,rfl⟩
  ·exact⟨ha,by rw[A0];exact hl,vs,_,rv,ha⟩
  ·exact⟨#[],(l t i).2,trivial,λan cv z=>by cases z⟩
 have j:∀{b:Addr} {o:Obj},g.heap.get? b=some o->H b=none->(hidT g.heap H).get? b=some o:=λe n=>qX0 e n;have ac:∀{b:Addr} {o:Obj},g.heap.get? b=some o->(∀xs n,o.data≠.seq xs n)->(∀ps,o.data≠.fields ps)->H b=none:=λ{b o} e d1 d2=>by
  cases q:H b with
  |none=>rfl
  |some u=>
   rcases a0 b u q with⟨_,rfl,_⟩|⟨t,i,rfl,_⟩
   ·rw[ha] at e;cases e;exact absurd rfl (d1 _ _)
   ·rw[(l t i).2] at e;cases e;exact absurd rfl (d2 _)
 have a2:∀{b:Addr} {m:Str->Option Value},g.heap.Ns b m->(hidT g.heap H).Ns b m:=λ{b m} ⟨o,es,ep,e,d,r⟩=>⟨o,es,ep,j e (ac e (λ_ _ z=>by rw[d] at z;cases z) λ_ z=>by rw[d] at z;cases z),d,r⟩
 have ag:K.In (hidT g.heap H):=fun b o e=>j (KX b o e) (by
  cases q:H b with
  |none=>rfl
  |some u=>
   rcases a0 b u q with⟨h1,rfl,_⟩|⟨t,i,rfl,_⟩
   ·rw[a5.mp h1] at e;cases e
   ·rw[ah t i] at e;cases e)
 have ak:BM mg (hidT g.heap H):=by
  obtain⟨bm,ob,b1,b2,b3,b4,b5,b6⟩:=al;exact⟨bm,ob,b1,b2,j b3 (ac b3 (λ_ _ z=>by rw[b6] at z;cases z) λ_ z=>by rw[b6] at z;cases z),b4,b5,b6⟩
 have hM:Mod K mg (hidT g.heap H):=⟨ag,a2 af,⟨mb,a2 hb,ai⟩,let⟨mc,h1,h2⟩:=ae;⟨mc,a2 h1,h2⟩⟩
 have e0:Env0 P w K mg (hidT g.heap H) callerA [] g H:=⟨rfl,hM,λb o e=>qZH e,Nat.le_of_eq (qUM _ _),trivial,λb hb=>absurd (show b∈([]:List Addr) from hb) (by simp),ad,.of_eq hg⟩
 refine B60 ((F _ ag (a2 af) ak).run callerA [] g H ⟨[.ref a],[]⟩ [.ref a] [.ref a] _ _ hr e0 (a8 g (.ref a)) (.cons rfl .nil) (am H a7 hS)) λr s' h=>?_;cases r with
 |error e=>exact V2 h
 |ok fl=>
  cases fl with
  |next=>exact V2 h
  |brk=>exact V2 h
  |cont=>exact V2 h
  |ret u=>
   obtain⟨v,H',os,ab,un,a4,r',q⟩:=h;have q':v=.bl true:=q;subst q';obtain rfl:u=A15 true:=r';have a6:∀b o,g.heap.get? b=some o->s'.heap.get? b=some o\/∃t∈f,t.P=b:=λb o e=>by
    cases q:H b with
    |none=>exact .inl (un.keep b o e q (by intro z;exact absurd (show b∈([]:List Addr) from z) (by simp)) (by simp))
    |some u=>
     rcases a0 b u q with⟨_,rfl,rfl⟩|⟨t,i,e1,_⟩
     ·have z2:=un.frzs b o0 _ q;obtain⟨e1,_⟩:=ad b _ q;obtain⟨y,_⟩:=a4 b _ z2;rw[e] at e1;cases e1;exact .inl y
     ·exact .inr ⟨t,i,e1⟩
   have a3:∀t∈f,∃more,s'.heap.get? t.P=some (A89 more):=λt i=>by
    obtain⟨more,e,_⟩:=(show ObjOk P w H' s'.heap t.P (.tbl (.tab t.q)) from a4 t.P _ (un.tbls t.P _ (a7 t i)));exact⟨more,e⟩
   refine⟨rfl,⟨λb o e=>?_,λb o e=>?_⟩,os,ab⟩
   ·rcases a6 b o e with z|⟨t,i,rfl⟩
    ·exact .inl z
    ·obtain⟨more,em⟩:=a3 t i;have y:=(l t i).2;rw[e] at y;cases y;exact .inr (.inl ⟨((l t i).1.tab (l t i).2).isCodeTable,rfl,#[],more,rfl,by rw[em];simp⟩)
   ·rcases a6 b o e with z|⟨t,i,rfl⟩
    ·exact⟨_,z⟩
    ·obtain⟨more,em⟩:=a3 t i;exact⟨_,em⟩
theorem walk_ofT {l:PySem.W.OpenLaw}{n k:Nat}{q:B20}{m:List Str}{XP:(Str->Option Value)->Heap->Prop}{YP:World->Heap->Prop}{d:DefRec}{K:Params->PySem.W.Frag}{sp:World->Sp}{x:Str}(i:List LTab)
  (hn:l.most=some n) (a1:n<=B18) (a3:d.params.defaults=[]) (hr:Room k callerA)
  (hY:∀(w:World) (h:Heap),YP w h->(K w.params).In h)
  (y:∀t∈i,((recsOf q).find? λe=>e.name==t.x).isSome=true) (z:∀(w:World),∀t∈i,B03 (K w.params) t.x=some (t.c,t.P)) (hK:∀w:World,A30 (K w.params)=true) (r:∀t∈i,∀t'∈i,t.P=t'.P->t.q=t'.q)
  (F:∀ (w:World) (mg:Str->Option Value) (fa:Addr) (h:Heap),(K w.params).In h->h.Ns B30 mg->mg d.name=some (.ref fa)->
   ∃fd:B37,(∀(s:Shared) (u:Value),BindsTo s fd ⟨[u],[]⟩ [(x,u)])/\
    ∀base:Heap,(K w.params).In base->base.Ns B30 mg->BM mg base->FnOk l.prog w (K w.params) mg base CX0 k fa fd [x] (sp w))
  (a2:∀(w:World) (H:Hp) (a:Addr) (ns:List Int),ns.length<=n->qcB i H->SqL (K w.params) H a (ns.map V.int)->sp w [.ref a] H (λv _=>v=.bl true) λ_ _ _=>False):
  PySem.W.WalkO q m XP YP l.row.toRowW d [] (λf vs=>A93 f vs):=by
 refine Att.attach_call hn a3 λw s₀ s₁ mg mb fa o pm cd a6 a vs ns G Y ho hd a7 a5 a0 p j hg=>?_;have KX:=hY w _ Y;obtain⟨fd,hb,hF⟩:=F w mg fa _ KX G.T.g a5;refine qUA i KX G.T.g G.T.b G.T.builtins G.T.nolimit hg a0 p (F3 j a1) hr G.T.bmain (λt ht=>?_) (hK w) r hF hb λH hO hS=>a2 w H a ns j hO hS;obtain⟨dd,a4⟩:=Q1.mp (y t ht);exact PySem.W.tab_of G.T KX a4 (z w t ht)
section
variable{prog:B20}{w:World}{A:Around}{E:Value->Shared->Prop}{s:Shared}
end
section
variable{X:Cx}
end
section
open PySem.SeqAt
open PySem.AutoSeq1 (wpAny_loadPart')
open PySem.MeetsSeq PySem.MeetsSeq2 PySem.MeetsSeq3
theorem qPA:∀ns:List Int,HT.lexLt ns ns=false
 |[]=>rfl
 |x::ns=>by rw[HT.lexLt_cons,if_pos rfl];exact qPA ns
theorem qJP:∀{vs:List Value} {ns ms:List Int},B25 vs ns->B25 vs ms->ns=ms
 |_,_,_,.nil,.nil=>rfl
 |_,_,_,.cons a t h,.cons _ _ h'=>by rw[qJP h h']
theorem qGD:∀{vs:List Value} {ns:List Int},B25 vs ns->∀(j:Nat) (hj:j<vs.length),∃n t,ns[j]?=some n/\vs[j]=.int n t
 |_,_,.cons a t h,0,_=>⟨a,t,rfl,rfl⟩
 |_,_,.cons a t h,j+1,hj=>qGD h j (Nat.lt_of_succ_lt_succ hj)
theorem qV2 {A:Around}{s:Shared}{l b:Addr}{d a:Array Value}{ns f:List Int}(x:IsTup s.heap l d)(p:IsTup s.heap b a)(hi:B25 d.toList ns)(h:B25 a.toList f)(hu:A.units<cLine):EqAt A s (.ref l) (.ref b) (decide (ns=f)):=by
 by_cases e:l=b
 ·subst e;obtain⟨o,z,_,n1,d1⟩:=x;obtain⟨o',v,_,n2,w⟩:=p;rw[z] at v;cases v;rw[d1] at w;cases w;rw[decide_eq_true (qJP hi h)];exact EqAt.same _
 ·refine EqAt.of_refs e ?_;have z1:d.size=ns.length:=by rw[<- hi.length];simp
  have z2:a.size=f.length:=by rw[<- h.length];simp
  have:=RcAt.tuples (A:=A) (s:=s) (e:=fun j=>decide (ns[j]?=f[j]?)) x p hu (fun j k r=>by
   obtain⟨n,t,y,g⟩:=qGD hi j (by simpa using k)
   obtain⟨m,u,e3,i⟩:=qGD h j (by simpa using r)
   have g:d[j]=.int n t:=by simpa using g
   have i:a[j]=.int m u:=by simpa using i
   rw[y,e3,g,i];have q:=EqAt.int_int (A:=A.in1) (s:=s) n t m u
   rwa[show(n==m)=decide (some n=some m) by simp[BEq.beq]] at q)
  rwa[show((F6 (min d.size a.size)).all (λj=>decide (ns[j]?=f[j]?))&&d.size==a.size)=decide (ns=f) by
   rw[J4,L6,J5,decide_eq_true_eq,beq_iff_eq]
   constructor
   ·rintro⟨k,r⟩;refine u9 λj=>?_;by_cases c:j<ns.length
    ·exact of_decide_eq_true (k j (G1.mpr (by lia)))
    ·rw[J1 (by lia),J1 (by lia)]
   ·rintro rfl;exact⟨λj _=>decide_eq_true rfl,by lia⟩] at this
theorem qLC (l b x y:Addr)(a c:Int)(t u:Tok)(n n2:Nat)(dd a2:Option Addr)(sl a1:Array (Option Value))(i1 i2:Array Value)(ns ms:List Int)(hi:B25 i1.toList ns)(hj:B25 i2.toList ms):
  Meets (Builtin.«tuple.__lt__» ⟨[.ref l,.ref b],[]⟩)
   (fun A R s=>s.heap.get? l=some { cls:=.type "tuple",dict:=dd,data:=.seq #[.int a t,.ref x] n,slots:=sl }/\s.heap.get? b=some { cls:=.type "tuple",dict:=a2,data:=.seq #[.int c u,.ref y] n2,slots:=a1 }/\
    IsTup s.heap x i1/\IsTup s.heap y i2/\A.units+1<cLine/\R (.ok (.ret (.bool (HT.lexLt (a::ns) (c::ms))))) s):=
 .of_wp λf w A R s h=>by
  obtain⟨o,g,d,k,m⟩:=s;obtain⟨hl,hb,hx,hy,hu,h⟩:=h;have f2:=t5
  wp_walk using B91 hl,B91 hb,wpAny_forIn_list _ (fun i b s'=>b.1=none/\s'=⟨o,g,d,k,m⟩/\((i=[(Q8 a t,Q8 c u),(D7 x,D7 y)]/\R (.ok (.ret (.bool (HT.lexLt (a::ns) (c::ms))))) ⟨o,g,d,k,m⟩)\/
   (i=[(D7 x,D7 y)]/\R (.ok (.ret (.bool (HT.lexLt ns ms)))) ⟨o,g,d,k,m⟩)\/(i=[]/\R (.ok (.ret (.bool false))) ⟨o,g,d,k,m⟩))) _
  case turn=>
   rintro⟨p,q⟩ i b s' ⟨a0,rfl,⟨hz,j⟩|⟨hz,j⟩|⟨hz,j⟩⟩
   ·cases hz;rw[HT.lexLt_cons] at j;obtain⟨e,he,r⟩:=HT.eqAt_int A.in1 ⟨o,g,d,k,m⟩ a t c u;refine B16 (he f w _ _ ?_);cases e with
    |true=>
     rw[if_pos (r.mp rfl)] at j
     wp_walk
     exact⟨rfl,rfl,.inr (.inl ⟨rfl,j⟩)⟩
    |false=>
     rw[if_neg (λq=>absurd (r.mpr q) B1)] at j;have v:=HT.rcLt_int A.in1 ⟨o,g,d,k,m⟩ a t c u f w
     wp_walk using v
     exact⟨_,rfl,by simpa using j⟩
   ·cases hz;have he:=qV2 (A:=A.in1) (s:=⟨o,g,d,k,m⟩) hx hy hi hj hu;refine B16 (he f w _ _ ?_);by_cases e:ns=ms
    ·rw[decide_eq_true e];subst e;rw[qPA] at j
     wp_walk
     exact⟨rfl,rfl,.inr (.inr ⟨rfl,j⟩)⟩
    ·rw[decide_eq_false e];have v:∀(E:Value->Shared->Prop) (Q:Value->Shared->Prop),Q (.bool (HT.lexLt ns ms)) ⟨o,g,d,k,m⟩->wpAny (model f w) A.in1 (richCompare .Lt (.ref x) (.ref y)) Q E ⟨o,g,d,k,m⟩:=λE Q hq=>HT.lt_tupInts hx hy hi hj hu hq
     wp_walk using v
     exact⟨_,rfl,by simpa using j⟩
   ·cases hz
  case fin=>
   rintro⟨b1,b2⟩ s' ⟨a0,rfl,hh⟩;simp only at a0;subst a0;have j:R (.ok (.ret (.bool false))) ⟨o,g,d,k,m⟩:=by
    rcases hh with⟨z,_⟩|⟨z,_⟩|⟨_,z⟩
    ·cases z
    ·cases z
    ·exact z
   wp_walk
   exact⟨_,rfl,by simpa[a9] using j⟩
  case h=>
   exact⟨rfl,rfl,.inl ⟨rfl,h⟩⟩
end
def KR2 (H:Hp)(y:V)(k:List Int):Prop:=∃r q a ns,y=.ref r/\k=a::ns/\H r=some (.tup [.int a,.ref q])/\H q=some (.tup (ns.map V.int))
theorem qdD {X:Cx}(hu:X.A.in1.units+1<cLine):KCmp X KR2:=by
 refine⟨λH H' y k sm ⟨r,q,a,ns,e1,e2,g1,g2⟩=>⟨r,q,a,ns,e1,e2,sm _ _ g1,sm _ _ g2⟩,?_⟩;intro Ab σ s H y y' u u' k k' Q E I ry ry' ⟨r,q,a,ns,e1,e2,g1,g2⟩ ⟨r',q',a',ns',e1',e2',g1',g2'⟩ h;subst e1 e2 e1' e2';cases ry;cases ry';obtain⟨a5,r1,p1,_⟩:=I.tuple (SqT.of g1);obtain⟨a1,p,l,_⟩:=I.tuple (SqT.of g1');obtain⟨w,r2,p2,_⟩:=I.tuple (SqT.of g2);obtain⟨e,m,o,_⟩:=I.tuple (SqT.of g2');obtain⟨v1,v2,rfl,⟨t,rfl⟩,c2⟩:=Vals.two r1;obtain⟨a2,a3,rfl,⟨t',rfl⟩,j⟩:=Vals.two p;cases c2;cases j;have i1:B25 w.toArray.toList ns:=qFY r2;have i2:B25 e.toArray.toList ns':=qFY m;obtain⟨⟨a4,dd,z,sl⟩,ho,hc,n,v⟩:=id p1;obtain⟨⟨a0,i,g,f⟩,b,c,n2,d⟩:=id l;simp only at hc v c d;subst hc v c d;exact richCompare_meets_room (op:=.Lt) ⟨_,ho,rfl⟩ ⟨_,b,rfl⟩ V6 Z4 (Y7 _ _) (qLC r r' q q' a a' t t' n n2 dd i sl f w.toArray e.toArray ns ns' i1 i2)
  ⟨ho,b,p2,o,hu,show A15 (HT.lexLt (a::ns) (a'::ns'))≠A19/\Q (.bool (HT.lexLt (a::ns) (a'::ns'))) s from⟨(λx=>nomatch x),h⟩⟩ (by lia)
section
variable{X:Cx}
def qaU (P:Addr)(q:Str)(fv:List Nat)(te:TE)(KR:Hp->V->List Int->Prop)(ta:TA):TE:=λσ H Q=>ta σ H λvs H1=>H1 P=some (.tbl (.tab q))/\
 ∃l xs ks m,vs=[.ref l]/\H1 l=some (.lst xs)/\ks.length=xs.length/\(∀(i:Nat) (x:V) (k:List Int),xs[i]?=some x->ks[i]?=some k->∀Hc,Sm0 H1 Hc->te (qHP fv σ x) Hc λy H'=>Sm0 Hc H'/\KR H' y k)/\
  qbE (some .non) (xs.zip ks)=some m/\∀H',Sm0 H1 H'->Q m H'
theorem qWD {e:Expr}{ta:TA}{np pos kpos j n r:Pos}{a:B45}{body:Expr}{d:Scope}{c P:Addr}{q:Str}{p:Str}{fv:List Nat}{te:TE}{KR:Hp->V->List Int->Prop}{nn:Nat}
  (rm:Room 1 X.A) (hc:X.calm=true) (hg:Gl X "min") (hm:X.mg "min" = none) (hv:B23 "min" = some (.builtin "min")) (hb:BM X.mg X.base) (v:X.env.code=.ref c) (hd:hdIn X.K c P=true) (hq:X.env.qual ++ "<lambda>" = q)
  (S:LmScope X d p fv) (a0:defaultsOf a X.env=([],[])) (w:∀(cl:List (Str×Addr)) (pm cd ct u:Value),B76 (X2 "<lambda>" q a body d cl pm cd ct) ⟨[u],[]⟩=pure [(p,u)])
  (KC:KCmp X KR) (ha:PA X [e] ta) (he:∀z,PE (lmCx X d p fv q z) body te) (hn:PE X (.Constant .none nn r) (tC .non)) (hs:B24 [e] X.env=[(false,eval e X.env)]:=by rfl):
  PE X (.Call (.Name "min" np) [e] [⟨some "key",.Lambda a body d n,kpos⟩,⟨some "default",.Constant .none nn r,j⟩] pos) (qaU P q fv te KR ta):=by
 intro Ab s σ H Q I h;refine B77 (qGZ I hg hm hv ?_ (by decide) (by decide))
 refine PyProof.Rows.callWith_kw (thn (ha pos Ab s σ H _ I h) λus s1 ⟨vs,H1,I1,r1,q1⟩=>?_) (by rw[hs];rfl) (by rw[hs];rfl)
 obtain⟨hP,l,xs,ks,m,rfl,hl,lk,hk,em,q2⟩:=q1;obtain⟨u,rfl,rx⟩:=qE1 r1;cases rx;have C:=qVE (c:=c) (P:=P) I1.ok.mod.kin hd;have pl:=qbH (X:=X) (pos:=n) (body:=body) hb v C hq S a0;refine thn (qTE (kpos:=kpos) (nm:=some "key") pl (qTE (kpos:=j) (nm:=some "default") hn qbD) pos Ab s1 σ H1 (λzs H2=>∃f cc ctv,zs=[.ref f,.non]/\Sm0 H1 H2/\H2 f=some (LamF X q a body d cc ctv f)/\H2 cc=some (.tbl (.cod q))) I1 ⟨hP,λf cc ctv H' y h0 hf t=>⟨f,cc,ctv,rfl,y,hf,t⟩⟩) λws s2 ⟨zs,H2,I2,rz,f,cc,ctv,ez,y,hf,t⟩=>?_;subst ez;obtain⟨u2,u3,rfl,r2,r3⟩:=Vals.two rz;cases r2;cases r3;have hA:X.A.in1.frames=some X.stack:=I2.ok.frames;exact qP8 (H:=H2) hc rm hA S w he KC ⟨lk,λi x k hx a1 Hc g=>hk i x k hx a1 Hc λb o e=>g b o (y b o e)⟩ hf t (SqL.of (y _ _ hl)) (λH' g=>SqL.of (g _ _ (y _ _ hl))) I2
  (by unfold argsOk;kernel_rfl) (some .none) rfl (some .non) (.inr ⟨.non,.none,rfl,rfl,rfl⟩) m em λH' g=>q2 H' λb o e=>g b o (y b o e)
end
end L2
namespace L2.G
open PySem PySem.Spec PyProof.Rows
section
variable[NM]
variable{prog:B20}{w:World}{A:Around}{E:Value->Shared->Prop}{s:Shared}
theorem qHL {vs:List Value}:∀p∈(B51 vs).toList,p.1=p.2:=by
 intro p a;unfold B51 at a;rw[A70] at a
 induction vs with
 |nil=>cases a
 |cons v vs ih=>
  rcases C0.mp a with h|h
  ·rw[h]
  ·exact ih h
theorem qNA (vs:List Value):(B51 vs).toList.map (·.2)=vs:=by
 unfold B51;rw[A70,List.map_snd_zip (by simp)]
theorem qTP {vs:List Value}{xs:Array Keyed}(f:xs.Perm (B51 vs))(k:qH6 xs (B51 vs).size):(xs.map (·.2)).toList.Perm vs/\(xs.map (·.2)).toList.Pairwise (λu v=>NM.nm u<=NM.nm v):=by
 have d:=W7.mp f
 constructor
 ·have:=d.map (·.2);rw[qNA] at this;rw[A71];exact this
 ·rw[A71,O5,G2];intro i j m l b;have n:=f.size_eq;have e:i<xs.size:=by simpa using m
  have c:j<xs.size:=by simpa using l
  have a:=k i j (U2 b) (by lia)
  rw[qZY e,qZY c] at a;have h:=qHL _ (d.mem_iff.mp (show xs[i]∈xs.toList by simp))
  have g:=qHL _ (d.mem_iff.mp (show xs[j]∈xs.toList by simp))
  rw[h,g] at a;simpa using a
theorem qQ7 {κ0:B47} {a:Addr} {vs:List Value} {n:Nat} {P:Fin->Shared->Prop} (y:s.heap.get? a=some (seqObj "list" vs.toArray n)) (hz:vs.length<=B18) (gd:∀v∈vs,NM.good v)
  (hk:∀h':Heap,(∀(b:Addr) (o:Obj),b≠a->s.heap.get? b=some o->h'.get? b=some o)->2<=vs.length->(∀{Q:B47->Shared->Prop},Q κ0 {s with heap:=h'}->wpAny (model prog w) A (keyKind' vs.toArray) Q E {s with heap:=h'})/\LtOk prog w A {s with heap:=h'} κ0)
  (h:∀(out:Array Value),out.toList.Perm vs->out.toList.Pairwise (λu v=>NM.nm u<=NM.nm v)->P (.done (.ret .none)) {s with heap:=sortedHeap s.heap a vs out}):wpAny (model prog w) A (Builtin.«list.sort» ⟨[.ref a],[]⟩) P E s:=by
 have la:=B7 y;have z0:vs.toArray.size<=B18:=by simpa using hz
 rw[list_sort_plain];refine B16 (listItems_at y rfl (B16 (listUpdate_at y rfl ?_ z0 (E8 _))));have r:∃k,(s.heap.update a (T8 λ_=>#[])).get? a=some (seqObj "list" #[] k):=⟨_,get?_update_seq y λ_=>#[]⟩;obtain⟨k,r⟩:=r;refine B16 (seqEpoch_at r rfl (B16 (wpAny_newTuple ?_ (by simpa using hz))))
 refine B16 (wpAny_newList (B27 ?_));have t:(((s.heap.update a (T8 λ_=>#[])).push (seqObj "tuple" vs.toArray 0)).push (seqObj "list" #[] 0)).get? a=some (seqObj "list" #[] k):=by
  rw[A59,A59]
  ·exact r
  ·rw[A72];exact D2 la
  ·rw[size_push',A72];exact D2 (Q6 la)
 have l:∀(b:Addr) (o:Obj),b≠a->s.heap.get? b=some o->(((s.heap.update a (T8 λ_=>#[])).push (seqObj "tuple" vs.toArray 0)).push (seqObj "list" #[] 0)).get? b=some o:=λb o hb q=>
  A5 _ (A5 _ ((Heap.get?_update_ne _ _ _ _ hb).trans q))
 have e:∀xs:Array Keyed,xs.Perm (B51 vs)->qH6 xs (B51 vs).size->P (.done (.ret .none)) {s with heap:=sortedHeap s.heap a vs (xs.map (·.2))}:=by
  intro xs z sx;obtain⟨q1,q2⟩:=qTP z sx;exact h _ q1 q2
 have sz:∀xs:Array Keyed,xs.Perm (B51 vs)->(xs.map (·.2)).size<=B18+1:=by
  intro xs z;rw[Array.size_map,z.size_eq,pairsOf_size]
  lia
 show wpAny _ A _ P E {s with heap:=((s.heap.update a (T8 λ_=>#[])).push (seqObj "tuple" vs.toArray 0)).push (seqObj "list" #[] 0)};dsimp only;by_cases d:vs.toArray.size<2
 ·simp only[if_pos d];refine B16 (B17 ?_);rw[StateT.run_pure];refine B16 (B17 (B16 (seqEpoch_at t rfl (B16 (listUpdate_at t rfl ?_ (E8 _) (sz (B51 vs) (.refl _)))))));simp only[bne_self_eq_false,G9,if_false];refine B17 (e (B51 vs) (.refl _) λi j a2 hj=>?_);rw[pairsOf_size] at hj;rw[C1] at d;rw[show i=j by lia]
  exact P6 _
 ·simp only[if_neg d];rw[C1] at d;obtain⟨a0,a1⟩:=hk _ l (by lia)
  have ik:qC2 (B51 vs):=λp hp=>by
   have m:=X8 (f:=(·.2)) hp;rw[qNA] at m;rw[qHL p hp];exact gd _ m
  refine B16 (a0 (B16 (B26 (qUN (κ0:=κ0) (a₀:=B51 vs) (Q:=λ_ c=>gSG κ0 (B51 vs) c/\qH6 (arrOf c) (B51 vs).size) ik ⟨.refl _,rfl,rfl⟩ rfl λc g u=>⟨g,u⟩) ?_ λ_ _ x=>x)));rintro⟨_,c⟩ s2 ⟨es,g,u⟩;cases(show s2=_ from es);refine B16 (seqEpoch_at t rfl (B16 (listUpdate_at t rfl ?_ (E8 _) (sz _ g.perm))));dsimp only;rw[g.failed];simp only[bne_self_eq_false,G9,if_false];exact B17 (e _ g.perm u)
end
theorem qKT:∀a:List Int,HT.lexLt a a=false
 |[]=>rfl
 |x::a=>by rw[HT.lexLt_cons,if_pos rfl];exact qKT a
theorem qJL:∀a b c:List Int,HT.lexLt a b=true->HT.lexLt b c=true->HT.lexLt a c=true
 |[],[],_,h,_=>by cases h
 |[],_::_,[],_,h=>by cases h
 |[],_::_,_::_,_,_=>rfl
 |_::_,[],_,h,_=>by cases h
 |_::_,_::_,[],_,h=>by cases h
 |x::a,y::b,z::c,h1,h2=>by
  rw[HT.lexLt_cons] at h1 h2 ⊢;by_cases e1:x=y
  ·subst e1;rw[if_pos rfl] at h1;by_cases e2:x=z
   ·rw[if_pos e2] at h2 ⊢;exact qJL a b c h1 h2
   ·rw[if_neg e2] at h2 ⊢;exact h2
  ·rw[if_neg e1] at h1;have h1:=of_decide_eq_true h1;by_cases e2:y=z
   ·subst e2;rw[if_neg e1];exact decide_eq_true h1
   ·rw[if_neg e2] at h2;have h2:=of_decide_eq_true h2;rw[if_neg (by lia)]
    exact decide_eq_true (by lia)
theorem qNF:∀a b:List Int,HT.lexLt a b=false->HT.lexLt b a=false->a=b
 |[],[],_,_=>rfl
 |[],_::_,h,_=>by cases h
 |_::_,[],_,h=>by cases h
 |x::a,y::b,h1,h2=>by
  rw[HT.lexLt_cons] at h1 h2;by_cases e:x=y
  ·subst e;rw[if_pos rfl] at h1 h2;rw[qNF a b h1 h2]
  ·rw[if_neg e] at h1;rw[if_neg (λz=>e z.symm)] at h2;have:=of_decide_eq_false h1;have:=of_decide_eq_false h2
   lia
noncomputable def qIE (L:List (List Int))(a:List Int):Int:=(((L.filter λx=>HT.lexLt x a).length:Nat):Int)
theorem qGY {α:Type}{p q:α->Bool}:∀{L:List α},(∀x∈L,p x=true->q x=true)->(∃x∈L,p x=false/\q x=true)->(L.filter p).length<(L.filter q).length
 |[],_,⟨x,hx,_⟩=>nomatch hx
 |y::L,h,⟨x,hx,h1,h2⟩=>by
  have le:∀{M:List α},(∀x∈M,p x=true->q x=true)->(M.filter p).length<=(M.filter q).length:=by
   intro M hM
   induction M with
   |nil=>exact A7 _
   |cons z M ih=>
    have i:=ih λx hx=>hM x (B5 _ hx);rw[L8,L8];cases ep:p z
    ·cases q z
     ·simpa using i
     ·simp;lia
    ·rw[hM z (by simp) ep]
     simpa using i
  rw[L8,L8];rcases C0.mp hx with e|e
  ·subst e;have:=le λx hx=>h x (B5 _ hx);rw[h1,h2];simp
   lia
  ·have i:=qGY (λx hx=>h x (B5 _ hx)) ⟨x,e,h1,h2⟩;cases ep:p y
   ·cases q y
    ·simpa using i
    ·simp;lia
   ·rw[h y (by simp) ep]
    simpa using i
theorem qT9 {L:List (List Int)}{a b:List Int}(d:a∈L)(h:HT.lexLt a b=true):qIE L a<qIE L b:=by
 unfold qIE;have:=qGY (p:=λx=>HT.lexLt x a) (q:=λx=>HT.lexLt x b) (L:=L) (λx _ c=>qJL _ _ _ c h) ⟨a,d,qKT a,h⟩
 lia
theorem qQE {L:List (List Int)}{a b:List Int}(d:a∈L)(c:b∈L):decide (qIE L a<qIE L b)=HT.lexLt a b:=by
 cases h:HT.lexLt a b with
 |true=>exact decide_eq_true (qT9 d h)
 |false=>
  refine decide_eq_false λz=>?_;cases h2:HT.lexLt b a with
  |true=>have:=qT9 c h2;lia
  |false=>rw[qNF a b h h2] at z;lia
noncomputable def qWY (xs:List V):List Int:=xs.map fun|.int i=>i|_=>0
theorem qUL (t:List Int):qWY (t.map V.int)=t:=by
 unfold qWY;rw[Y3];exact(R1 λx _=>rfl).trans (List.map_id _)
noncomputable def keyH (H:Hp):Value->List Int
 |.ref r=>match H r with
  |some (.tup xs)=>qWY xs
  |_=>[]
 |_=>[]
@[reducible] def tupNM (H:Hp)(L:List (List Int)):NM:=⟨λv=>qIE L (keyH H v),λv=>∃r t,v=.ref r/\H r=some (.tup (t.map V.int))/\t∈L⟩
theorem keyH_at {H:Hp}{r:Addr}{t:List Int}(h:H r=some (.tup (t.map V.int))):keyH H (.ref r)=t:=by
 show(match H r with|some (.tup xs)=>qWY xs|_=>[])=t
 rw[h];exact qUL t
section
variable{prog:B20}{w:World}{A:Around}{E:Value->Shared->Prop}{s:Shared}
theorem qTU {x y:Addr}{xs j:Array Value}{ns f:List Int}{Q:Bool->Shared->Prop}(hu:A.units<cLine)(hx:IsTup s.heap x xs)(v:IsTup s.heap y j)(r:B25 xs.toList ns)(z:B25 j.toList f)(h:Q (HT.lexLt ns f) s):wpAny (model prog w) A (oneLt' true (.ref x) (.ref y)) Q E s:=by
 rw[oneLt'_eq];simp only[if_true];obtain⟨⟨q,t,l,u⟩,i,o,n,k⟩:=id hx;obtain⟨⟨m,g,e,d⟩,c,a,p,b⟩:=id v;simp only at o k a b;subst o k a b;refine B16 (wpAny_cRoomFor hu ?_);refine B16 (wpAny_callSpecialIfBound?_slot ⟨_,i,rfl⟩ V6 (B80 V6 ⟨_,i,rfl⟩ Z4 (Y7 _ _) (HT.tuple_lt_ints x y xs j n p t g u d ns f r z) ⟨i,c,?_⟩));exact B33 h
theorem qJM {b:Bool}{Q:Bool->Shared->Prop}:∀{vs ws:List Value} {ns ms:List Int} {i:Nat} {fin:Bool},B25 vs ns->B25 ws ms->
  (fin=decide (vs.length<ws.length))->Q (HT.lexLt ns ms) s->PySem.W.KatLex prog w A b fin Q (vs.zip ws) i s
 |_,_,_,_,i,fin,.nil,.nil,ef,h=>by
  rw[ef];exact A12 h
 |_,_,_,_,i,fin,.nil,.cons _ _ _,ef,h=>by
  rw[ef];exact A12 h
 |_,_,_,_,i,fin,.cons _ _ _,.nil,ef,h=>by
  rw[ef];exact A12 h
 |_,_,_,_,i,fin,.cons (vs:=vs) (ns:=ns) x t hv,.cons (vs:=ws) (ns:=ms) y u hw,ef,h=>by
  rw[n0];refine PySem.W.kat_cons (wpAny_eqBool_int ?_);rw[HT.lexLt_cons] at h;by_cases e:x=y
  ·rw[if_pos e] at h;rw[beq_iff_eq.mpr e];refine PySem.W.kat_yes (qJM hv hw ?_ h);rw[ef];simp
  ·rw[if_neg e] at h;rw[beq_eq_false_iff_ne.mpr e];refine PySem.W.kat_no ?_;cases eb:(b&&i==0) with
   |true=>exact oneLt_int h
   |false=>exact PySem.W.kat_one _ _ (lt_int h)
theorem qS5 {x y:Addr}{xs e:Array Value}{ns d:List Int}{b:Bool}{Q:Bool->Shared->Prop}(l:IsTup s.heap x xs)(m:IsTup s.heap y e)(k:B25 xs.toList ns)(i:B25 e.toList d)(h:Q (HT.lexLt ns d) s):wpAny (model prog w) A (keyLt' (tuples' b) (.ref x) (.ref y)) Q E s:=by
 obtain⟨o,j,r,n,f⟩:=id l;obtain⟨p,a,g,q,c⟩:=id m;refine PySem.W.kat_lt j f a c (qJM k i ?_ h);simp
theorem qUD {b:List Addr}{ts:List (List Int)}{Q:B47->Shared->Prop}(h:Paired (λ(r:Addr) (t:List Int)=>∃xs:Array Value,IsTup s.heap r xs/\B25 xs.toList t) b ts)(c:∀t∈ts,t≠[])(m:2<=b.length)
  (q:Q (tuples' true) s):wpAny (model prog w) A (keyKind' (b.map D7).toArray) Q E s:=by
 have l:∃fs,PySem.W.KatTups s.heap (b.map D7) fs/\fs.length=b.length/\∀v∈fs,∃n t,v=.int n t:=by
  clear m
  induction h with
  |nil=>exact⟨[],trivial,rfl,λ_ z=>nomatch z⟩
  |@cons r t l1 l2 a _ ih=>
   obtain⟨fs,g,j,i⟩:=ih λt f=>c t (B5 _ f);obtain⟨xs,⟨o,p,u,n,k⟩,y⟩:=a;have f:t≠[]:=c t (by simp)
   obtain⟨xs⟩:=xs;cases y with
   |nil=>exact absurd rfl f
   |cons x tk rest=>
    refine⟨.int x tk::fs,.cons p u k rfl g,by simp[j],λv d=>?_⟩
    rcases C0.mp d with e|e
    ·exact⟨x,tk,e⟩
    ·exact i v e
 obtain⟨fs,g,j,i⟩:=l;refine PySem.W.kat_kind (T:=.type "int") g (by lia) (λv d=>?_) rfl ?_
 ·obtain⟨n,t,rfl⟩:=i v d;exact .now
 ·exact q
theorem qL2:∀(rs:List Addr) {Q:List (Option Value)->Shared->Prop},(∀r∈rs,∃xs:Array Value,IsTup s.heap r xs)->(∀L,Q L s)->wpAny (model prog w) A ((rs.map D7).mapM firstOfTuple') Q E s
 |[],_,_,h=>by rw[n4,List.mapM_nil];exact B17 (h _)
 |r::rs,Q,t,h=>by
  obtain⟨xs,o,ho,hc,n,hd⟩:=t r (by simp)
  rw[D0,A90];refine B16 ?_;rw[A24];refine B16 (n9 (show PySem.W.Looks (model prog w) s.heap (typeOf (.ref r)) o.cls from(A02 ho).andThen .now) ?_);rw[hc,if_neg (by first|decide|simp)]
  refine B16 (listItems_at ho hd (B17 ?_));exact B16 (qL2 rs (Q:=λbs s'=>wpAny (model prog w) A (pure (xs[0]?::bs)) Q E s') (λr hr=>t r (B5 _ hr)) λL=>B17 (h _))
theorem qS4 {c:Addr}{b:List Addr}{Q:B47->Shared->Prop}(i:IsTup s.heap c #[])(h:∀r∈b,∃xs:Array Value,IsTup s.heap r xs)
  (q:Q oneType' s):wpAny (model prog w) A (keyKind' ((c::b).map D7).toArray) Q E s:=by
 rw[kat_kind_eq,A60,map_eq_pure_bind,D0,A90];obtain⟨o,k,y,n,m⟩:=id i;refine B16 (B16 (B16 ?_));rw[A24];refine B16 (n9 (show PySem.W.Looks (model prog w) s.heap (typeOf (.ref c)) o.cls from(A02 k).andThen .now) ?_);rw[y,if_neg (by first|decide|simp)]
 refine B16 (listItems_at k m (B17 ?_));refine B16 (qL2 b h λL=>B17 (B17 ?_));have l:((((#[]:Array Value)[0]?)::L).toArray.all λx=>x.isSome)=false:=by simp
 have p:((((((#[]:Array Value)[0]?)::L).toArray)[0]?).bind id).isSome=false:=by simp
 rw[if_neg (by rw[l];exact B1),if_neg (by rw[p];exact B1)]
 rw[oneTypeOnly'_eq,A60,map_eq_pure_bind];refine B16 (B16 (B16 (PySem.W.kas_mapM (r:=a8 "tuple") _ (λv j Q' hq=>?_) (B17 ?_))))
 ·rw[<- D0] at j;obtain⟨r,z,rfl⟩:=D8.mp j;have:∃xs:Array Value,IsTup s.heap r xs:=by
   rcases C0.mp z with e|e
   ·rw[e];exact⟨_,i⟩
   ·exact h r e
  obtain⟨xs,t,d,f,n2,u⟩:=this;refine n9 (show PySem.W.Looks (model prog w) s.heap (typeOf (.ref r)) t.cls from(A02 d).andThen .now) ?_;rw[f];exact hq
 ·have g:(B04 (λ_=>a8 "tuple") (D7 c::B04 D7 b)).toArray[0]?=some (a8 "tuple"):=by simp
  have a:((B04 (λ_=>a8 "tuple") (D7 c::B04 D7 b)).toArray.all λx=>x==a8 "tuple")=true:=by
   simp only[List.all_toArray,List.all_map,J5];intro _ _
   rfl
  rw[g];simp only[a,if_true];exact B17 (B17 q)
end
section
variable{X:Cx}
abbrev qG9 (H:Hp)(rs:List Addr)(ts:List (List Int)):Prop:=Paired (λ(r:Addr) (t:List Int)=>H r=some (.tup (t.map V.int))) rs ts
theorem qGM:∀{rs:List Addr} {its:List Value},Vals (rs.map V.ref) its->its=rs.map D7
 |[],_,.nil=>rfl
 |r::rs,_,.cons h t=>by
  rw[D0,<- qGM t];have:_=D7 r:=h;rw[this]
def qIB:Value->Addr
 |.ref a=>a
 |_=>0
theorem qN8:∀{vs:List Value},(∀v∈vs,∃a,v=.ref a)->(vs.map qIB).map D7=vs
 |[],_=>rfl
 |v::vs,h=>by
  obtain⟨a,rfl⟩:=h v (by simp)
  rw[D0,D0,qN8 λv hv=>h v (B5 _ hv)]
  rfl
theorem qQ0 {H:Hp}:∀{rs:List Addr} {ts:List (List Int)},qG9 H rs ts->ts=rs.map λr=>keyH H (.ref r)
 |_,_,.nil=>rfl
 |_,_,.cons h t=>by rw[D0,keyH_at h,<- qQ0 t]
theorem qSR {H:Hp}:∀{rs:List Addr},(∀r∈rs,∃t:List Int,H r=some (.tup (t.map V.int)))->qG9 H rs (rs.map λr=>keyH H (.ref r))
 |[],_=>.nil
 |r::rs,h=>by
  obtain⟨t,e⟩:=h r (by simp)
  exact .cons (by dsimp only;rw[keyH_at e];exact e) (qSR λr hr=>h r (B5 _ hr))
theorem qIK {H:Hp}:∀{rs:List Addr} {ts:List (List Int)},qG9 H rs ts->∀{r:Addr},r∈rs->∃t,t∈ts/\H r=some (.tup (t.map V.int))
 |_,_,.nil,_,h=>nomatch h
 |_,_,.cons (b:=t) g T,r,h=>by
  rcases C0.mp h with e|e
  ·exact⟨t,by simp,by rw[e];exact g⟩
  ·obtain⟨t,h1,h2⟩:=qIK T e;exact⟨t,B5 _ h1,h2⟩
theorem qT4 {Ab:List (Addr×Obj)}{s:Shared}{σ:St}{H:Hp}{Q:VK}{A:Around}{E:Value->Shared->Prop}{d:List Addr}{ts:List (List Int)}{D:Addr}(I:Inv X Ab σ (Ag H D (.lst (d.map V.ref))) s)(hD:H D=none)(T:qG9 H d ts)
  (hk:(∀t∈ts,t≠[])\/∃ts',ts=[]::ts') (hu:A.units+8<cLine)
  (q:∀rs' ts',rs'.Perm d->qG9 H rs' ts'->ts'.Perm ts->ts'.Pairwise (λa b=>HT.lexLt b a=false)->Q (.ref D) (Ag H D (.lst (rs'.map V.ref)))):
  wpAny (model X.prog X.w) A (call (.builtin "list.sort") [.ref D]) (λ_ s'=>EP X Ab σ Q (.ref D) s') E s:=by
 obtain⟨z,a5,n,rv,hl,e⟩:=I.lstM qA1;have ei:=qGM rv;subst ei;have hz:(d.map D7).length<=B18:=by simpa using z
 letI:NM:=tupNM H ts
 have gd:∀v∈d.map D7,NM.good v:=λv hv=>by
  obtain⟨r,hr,rfl⟩:=D8.mp hv;obtain⟨t,ht,g⟩:=qIK T hr;exact⟨r,t,rfl,g,ht⟩
 have f:∀(h':Heap),(∀(b:Addr) (o:Obj),b≠D->s.heap.get? b=some o->h'.get? b=some o)->∀(r:Addr) (t:List Int),H r=some (.tup (t.map V.int))->∃xs:Array Value,IsTup h' r xs/\B25 xs.toList t:=by
  intro h' c r t g;have nr:r≠D:=qA5 g hD;obtain⟨a5,r1,⟨o,ho,hc,n,hd⟩,_⟩:=I.tuple (SqT.of (show(Ag H D (.lst (d.map V.ref))) r=some (.tup (t.map V.int)) by rw[qAA nr];exact g))
  exact⟨a5.toArray,⟨o,c r o nr ho,hc,n,hd⟩,qFY r1⟩
 have j:∀(A':Around) (h':Heap) (κ:B47),(∀(x y:Addr) (xs ys:Array Value) (ns ms:List Int) (Q:Bool->Shared->Prop) (E:Value->Shared->Prop),IsTup h' x xs->IsTup h' y ys->B25 xs.toList ns->B25 ys.toList ms->Q (HT.lexLt ns ms) {s with heap:=h'}->wpAny (model X.prog X.w) A' (keyLt' κ (.ref x) (.ref y)) Q E {s with heap:=h'})->
   (∀(b:Addr) (o:Obj),b≠D->s.heap.get? b=some o->h'.get? b=some o)->LtOk X.prog X.w A' {s with heap:=h'} κ:=by
  intro A' h' κ a2 c;refine⟨λ{x y Q E} hx hy h=>?_⟩;obtain⟨r1,t1,rfl,g1,m1⟩:=hx;obtain⟨r2,t2,rfl,g2,m2⟩:=hy;obtain⟨xs,l,m⟩:=f h' c r1 t1 g1;obtain⟨ys,i2,j2⟩:=f h' c r2 t2 g2;refine a2 r1 r2 xs ys t1 t2 Q E l i2 m j2 ?_;have e1:NM.nm (D7 r1)=qIE ts t1:=by show qIE ts (keyH H (.ref r1))=_;rw[keyH_at g1]
  have e2:NM.nm (D7 r2)=qIE ts t2:=by show qIE ts (keyH H (.ref r2))=_;rw[keyH_at g2]
  rw[e1,e2,qQE m1 m2] at h;exact h
 have a0:∀out:Array Value,out.toList.Perm (d.map D7)->out.toList.Pairwise (λu v=>NM.nm u<=NM.nm v)->EP X Ab σ Q (.ref D) {s with heap:=sortedHeap s.heap D (d.map D7) out}:=by
  intro out p1 p2;have a3:∀v∈out.toList,∃a,v=D7 a:=λv hv=>by
   obtain⟨r,_,er⟩:=D8.mp (p1.mem_iff.mp hv);exact⟨r,er.symm⟩
  have k:=qN8 a3;have p3:(out.toList.map qIB).Perm d:=by
   have:=p1.map qIB;rw[Y3] at this;have e:d.map (qIB ∘ D7)=d:=(R1 λx _=>rfl).trans (List.map_id _)
   rwa[e] at this
  obtain⟨e2,a1⟩:=sortedHeap_at (vs:=d.map D7) (out:=out) e;have T':qG9 H (out.toList.map qIB) ((out.toList.map qIB).map λr=>keyH H (.ref r)):=qSR λr hr=>by
   obtain⟨t,_,g⟩:=qIK T (p3.mem_iff.mp hr);exact⟨t,g⟩
  have p4:((out.toList.map qIB).map λr=>keyH H (.ref r)).Perm ts:=by
   have:=p3.map λr=>keyH H (.ref r);rw[<- qQ0 T] at this;exact this
  have p5:((out.toList.map qIB).map λr=>keyH H (.ref r)).Pairwise (λa b=>HT.lexLt b a=false):=by
   rw[<- k,O5] at p2;rw[O5];refine p2.imp_of_mem λ{a b} ha hb le=>?_;have ma:keyH H (.ref a)∈ts:=p4.mem_iff.mp (D8.mpr ⟨a,ha,rfl⟩);have mb:keyH H (.ref b)∈ts:=p4.mem_iff.mp (D8.mpr ⟨b,hb,rfl⟩);have le:qIE ts (keyH H (.ref a))<=qIE ts (keyH H (.ref b)):=le;rw[<- qQE mb ma];exact decide_eq_false (by lia)
  refine⟨.ref D,Ag H D (.lst ((out.toList.map qIB).map V.ref)),?_,rfl,q _ _ p3 T' p4 p5⟩;have hu:Ag (Ag H D (.lst (d.map V.ref))) D (.lst ((out.toList.map qIB).map V.ref))=Ag H D (.lst ((out.toList.map qIB).map V.ref)):=qIY;rw[<- hu];refine I.write (x:=D) (e:=D) (t':=s.toks) (by rw[qA1];exact trivial) (.inl rfl) (λb u hb a4=>?_) ⟨_,a1⟩ ?_
  ·rw[sortedHeap_old hb (B7 a4)];exact a4
  ·refine⟨?_,out.toList,e2,?_,by simpa using a1⟩
   ·rw[A0,p3.length_eq];simpa using z
   ·have:=qIW (out.toList.map qIB);rw[k] at this;exact this
 rcases hk with hk|⟨ts',hk⟩
 ·refine B32 slot_list_sort ⟨_,e,rfl⟩ entry_list_sort (qQ7 (κ0:=tuples' true) (n:=n) e hz gd (λh' c h2=>⟨λ{Q} p=>?_,j _ h' _ (λx y xs ys ns ms Q E l i2 m j2 p=>qS5 l i2 m j2 p) c⟩) λout p1 p2=>⟨_,rfl,a0 out p1 p2⟩) (args_list_sort _);refine qUD (s:={s with heap:=h'}) (ts:=ts) ?_ hk (by simpa using h2) p
  exact Paired.mapP T λr t g=>f h' c r t g
 ·refine B32 slot_list_sort ⟨_,e,rfl⟩ entry_list_sort (qQ7 (κ0:=oneType') (n:=n) e hz gd (λh' c h2=>⟨λ{Q} p=>?_,j _ h' _ (λx y xs ys ns ms Q E l i2 m j2 p=>?_) c⟩) λout p1 p2=>⟨_,rfl,a0 out p1 p2⟩) (args_list_sort _)
  ·cases T with
   |nil=>cases hk
   |@cons r t l1 l2 g T=>
    have et:t=[]:=by cases hk;rfl
    subst et;obtain⟨xs,l,m⟩:=f h' c r [] g;obtain⟨xs⟩:=xs;cases m;refine qS4 (s:={s with heap:=h'}) l (λr hr=>?_) p;obtain⟨t,_,g⟩:=qIK T hr;obtain⟨xs,i,_⟩:=f h' c r t g;exact⟨xs,i⟩
  ·rw[keyLt'_oneType];exact qTU (s:={s with heap:=h'}) (by first|exact R6 (by show _<=A.units+8;simp[Around.in1]) hu|(show A.units+1<cLine;lia)|(show A.units<cLine;lia)) l i2 m j2 p
theorem qb0 {prog:B20} {w:World} {d:Addr} {j:Obj} {es:Array DictEntry} {ep:Nat} (t:(d==B39)=false) (m:j.cls=.type "dict") (n:j.data=.dict es ep):
  PySem.W.KdlSrc prog w "dict" d d es.size (λi v=>∃h:i<es.size,v=es[i].key) (λh=>h.get? d=some j) where
 type:=λs h=>⟨_,h,m⟩
 there:=λh x=>⟨B7 x,B7 x⟩
 keep:=λh f x k=>k d (.inl rfl) _ x
 notList:=by decide
 notTuple:=by decide
 hint:=λA E s Q x q=>PySem.W.kdl_hint_dict ⟨_,x,m⟩ q
 iter:=λA s u x=>by
  have p:d≠s.heap.objs.size:=D2 (B7 x);refine⟨_,λi h=>qSN h s.heap.objs.size d i es.size ep/\h.get? d=some j,λE Q q=>qNU ⟨_,x,m⟩ t x n q,?_,⟨B4 _ rfl,A5 _ x⟩⟩;refine⟨λb c=>?_,λi h f a k=>⟨k _ (by simp) _ a.1,k _ (by simp) _ a.2⟩,λi g Q E r a q=>?_,λg Q E a q=>?_,λi g Q E a q=>B93 ⟨_,a.1,rfl,rfl⟩ q⟩
  ·have e:b=s.heap.objs.size:=by simpa using c
   simp[e]
  ·refine qNV a.1 a.2 n r λf l k=>?_;exact q _ f g.toks ⟨r,rfl⟩ ⟨l,(k.2 d p).trans a.2⟩ λb o c e=>(k.2 b (λz=>c (by simp[z]))).trans e
  ·refine qR7 u a.1 (A7 _) a.2 n λf k=>?_;exact q f g.toks λb o c e=>k b o (λz=>c (by simp[z])) e
theorem qOL {Ab:List (Addr×Obj)}{σ:St}{H:Hp}{Q:VK}{f:List Addr}{ts:List (List Int)}(k:X.A.units+64<cLine){s1:Shared}(I1:Inv X Ab σ H s1)(T:qG9 H f ts)(j:(∀t∈ts,t≠[])\/∃ts',ts=[]::ts')(h:f.length<=B18)
  (q:∀ a rs' ts',H a=none->rs'.Perm f->qG9 H rs' ts'->ts'.Perm ts->ts'.Pairwise (fun a b=>HT.lexLt b a=false)->Q (.ref a) (Ag H a (.lst (rs'.map V.ref)))):wpAny (model X.prog X.w) X.A.in1 (do
   let l <- newList (f.map D7)
   let _ <- B62 [l] (call (.builtin "list.sort") [l] [])
   ret l) (λfin s'=>∃r,fin=.done (.ret r)/\EP X Ab σ Q r s') X.xe s1:=by
 refine B16 (wpAny_newList ?_ (by rw[A0];exact h))
 have g:=I1.hok.fresh (A7 s1.heap.objs.size);have i:=I1.laid (a:=s1.heap.objs.size) (t':=s1.toks) (o:=.lst (f.map V.ref)) (h':=s1.heap.push {cls:=.type "list",data:=.seq (f.map D7).toArray}) (λb u e=>A5 _ e) (A7 _) ⟨by rw[A0];exact h,_,0,qIW f,B4 _ rfl⟩
 refine B16 (B27 (B26 (qT4 (E:=X.xe) i g T j (by show X.A.units+1+8<cLine;lia) λrs' ts' a b c d=>q _ rs' ts' g a b c d) (λ_ s' x=>?_) λ_ _ e=>e))
 exact B17 ⟨_,rfl,x⟩
theorem call_sortedTD (hc:X.calm=true) (hu:X.A.units+64<cLine):qCF X (.builtin "sorted") (fun xs H Q=>∃ p o Af ts,xs=[.ref p]/\H p=some (.frz o (.dT Af))/\Af.map (·.1)=ts.map (fun t=>t.map (E3:Int->Key))/\(∃ ts',ts=[]::ts')/\
  ∀a rs' ts',H a=none->qG9 H rs' ts'->ts'.Perm ts->ts'.Pairwise (λa b=>HT.lexLt b a=false)->Q (.ref a) (Ag H a (.lst (rs'.map V.ref)))):=by
 intro Ab s σ H xs us Q I r h;obtain⟨p,o,Af,ts,rfl,hq,j,a4,q⟩:=h;obtain⟨u,rfl,rx⟩:=qE1 r;cases rx;refine X0 kind_sorted plain_sorted entry_sorted (args_sorted1 _) ?_;unfold Builtin.«sorted»;refine B16 (m:=checkCount "sorted" 1 1 _) (B17 ?_);obtain⟨e1,e2,e3,es,ep,e4,e5,a0⟩:=I.heldT hq;obtain⟨a5,hz,_⟩:=(show ObjOk X.prog X.w H s.heap p (.frz o (.dT Af)) from I.hok p _ hq);refine B16 (l8 (A:=X.A.in1) (qb0 e2 e3 e4) (I.ok.hd hc) e1 (by rw[e5];exact hz) λh' tk c kept d=>?_)
 obtain⟨l1,l2⟩:=d;have lt:ts.length=Af.length:=by
  have:=congrArg U4 j;simpa using this.symm
 -- the keys' addresses
 have n:∀(i:Nat),i<c.toList.length->∃(r:Addr) (t:List Int),c.toList[i]?=some (.ref r)/\ts[i]?=some t/\H r=some (.tup (t.map V.int)):=by
  intro i hi;have x:i<c.size:=by simpa using hi
  obtain⟨h3,e6⟩:=l2 i c[i] (B9 x);obtain⟨k,v,r,g1,g2,g3⟩:=a0 i h3;have f:(Af.map (·.1))[i]?=some k:=by rw[B6,g1];rfl
  rw[j,B6] at f;cases et:ts[i]? with
  |none=>rw[et] at f;cases f
  |some t=>
   rw[et] at f;have f:t.map (E3:Int->Key)=k:=D5 f;refine⟨r,t,?_,rfl,?_⟩
   ·rw[E5,B9 x,e6,g2]
   ·rw[g3,<- f,Y3]
    rfl
 have e:∀(l:List Value) (ts:List (List Int)),l.length=ts.length->(∀(i:Nat),i<l.length->∃(r:Addr) (t:List Int),l[i]?=some (.ref r)/\ts[i]?=some t/\H r=some (.tup (t.map V.int)))->∃rs:List Addr,l=rs.map D7/\qG9 H rs ts:=by
  intro l
  induction l with
  |nil=>
   intro ts g _;cases ts with
   |nil=>exact⟨[],rfl,.nil⟩
   |cons _ _=>cases g
  |cons v l ih=>
   intro ts g h2;cases ts with
   |nil=>cases g
   |cons t ts=>
    obtain⟨r,t',a1,y,a3⟩:=h2 0 (by simp)
    obtain⟨rs,b1,b2⟩:=ih ts (by simpa using g) λi hi=>by
     have:=h2 (i+1) (by simpa using hi)
     simpa using this
    have a1:v=.ref r:=by simpa using a1
    have y:t=t':=by simpa using y
    subst a1 y;exact⟨r::rs,by rw[b1];rfl,.cons a3 b2⟩
 obtain⟨rs,e7,T⟩:=e c.toList ts (by rw[C8,l1,e5,lt]) n
 have z:rs.length<=B18:=by rw[C3 T,lt];exact hz
 have:=qOL (s1:={s with heap:=h',toks:=tk}) hu (I.kept (t':=tk) kept) T (.inr a4) z (Q:=Q) λa rs' ts' g h2 h3 h4 h5=>q a rs' ts' g h3 h4 h5;rw[<- e7] at this;exact this
end
open PySem PySem.Spec PyProof.Rows PySem.W
section
variable{X:Cx}{Ab:List (Addr×Obj)}{σ:St}{params:B45}{body:Expr}{scope:Scope}{p:Str}{fv:List Nat}{q:Str}{te:TE}{l f cc:Addr}{ctv:Value}{H0:Hp}{xs:List V}{ks:List (List Int)}{Q:VK}
end
end L2.G
namespace L2
open PySem PySem.Spec PyProof.Rows
section
variable{X:Cx}
def qZ3:V->List V->Hp->VK->Prop:=λx vs H Q=>∃(l:Addr) (xs:List V) (i:Int) (y:V),x=.ref l/\vs=[.int i,y]/\H l=some (.lst xs)/\0<=i/\i<=(xs.length:Int)/\xs.length<100000/\Q .non (Ag H l (.lst (xs.take i.toNat++y::xs.drop i.toNat)))
theorem qU0:MtM X "list.insert" qZ3:=by
 intro m s σ H x p v us Q I g j h;obtain⟨l,xs,i,y,rfl,rfl,d,h0,hk,hz,q⟩:=h;cases g;obtain⟨u,w,rfl,f,b⟩:=j.two;obtain⟨t,rfl⟩:=f;obtain⟨z,a,n,r,k,e⟩:=I.lstM d;have o:=r.length;have hs:=B28;have c:¬(!Builtin.List.listFitsIndex i)=true:=by rw[fitsIndex_both (by lia) (by lia)];decide
 refine B80 F.slot_list_insert ⟨_,e,rfl⟩ F.entry_list_insert (F.args_list_insert_3 _ _ _) (AutoSeq1.list_insert_list_int_val_1 l a.toArray n i t w c (by rw[C1,<- k];exact z)) ⟨e,?_⟩
 refine⟨.non,_,I.lset (its':=a.take i.toNat++w::a.drop i.toNat) d e ?_ ((r.take i.toNat).append (.cons b (r.drop i.toNat))) ?_,rfl,q⟩
 ·dsimp only;rw[if_neg (by lia),C1,A13 (by lia)]
  simp;exact C7 (by rw[G7];exact A7 _)
 ·rw[A9,C4,D6,G7]
  lia
theorem qFP (y:X.calm=true):qCF X (.type "tuple") (λxs H Q=>∃p lo hi,xs=[.ref p]/\H p=some (.rng lo hi)/\-1000000<=lo/\lo<=1000000/\-1000000<=hi/\hi<=1000000/\∀l o,H l=none->o.cls=.type "tuple"->o.dict=none->Q (.ref l) (Ag H l (.frz o (.tup (qDD lo hi))))):=by
 intro m s σ H xs us Q I r h;obtain⟨p,lo,hi,rfl,z,l1,l2,l3,l4,q⟩:=h;obtain⟨u,rfl,x⟩:=qE1 r;cases x;obtain⟨t,u,v,e⟩:=(show∃t u v,s.heap.get? p=some {cls:=.type "range",data:=.fields #[.int lo t,.int hi u,.int 1 v]} from I.hok p _ z);refine qIZ (n:=(hi-lo).toNat) (I.ok.hd y) (show IsRange s.heap p lo hi 1 t u v from e) (small_one (by lia) (by lia) (by lia) (by lia)) qb8 (by lia) λd g a hk c=>?_
 obtain⟨k,j⟩:=c;have f:Inv X m σ H {s with heap:=d,toks:=g}:=I.kept hk;refine⟨.ref d.objs.size,_,f.laid (t':=g) (o:=.frz {cls:=.type "tuple",data:=.seq a} (.tup (qDD lo hi))) (λb o e=>A5 _ e) (A7 _) ⟨B4 _ rfl,show ObjOk X.prog X.w _ _ _ (.tup (qDD lo hi)) from⟨?_,a.toList,qQB rfl (by simpa using k) λi v hi=>j i v (by rw[<- E5];exact hi),?_⟩⟩,rfl,q _ _ (f.hok.fresh (A7 _)) rfl rfl⟩
 ·rw[qKK,B28]
  lia
 ·have:=IsTup.new d a;simpa using this
def iOr (w1 w2:TI):TI:=λσ H R=>w1 σ H R\/w2 σ H R
theorem qd3 {b a:Expr}{c e:TI}(g:PI X b a c)(f:PI X b a e):PI X b a (iOr c e):=by
 intro d s σ H R I h;rcases h with h|h
 ·exact g d s σ H R I h
 ·exact f d s σ H R I h
end
section
variable{prog:B20}{w:World}{A:Around}{R:Result->Shared->Prop}{I:Addr}{fp wr:List Addr}{n:Nat}{P:Nat->Value->Prop}{St:Nat->Heap->Prop}
end
section
variable{X:Cx}
end
structure Clb (P:B20)(w:World)(K:PySem.W.Frag)(mg:Str->Option Value)(base:Heap)(n:Nat)(f:Addr)(fd:B37)(x:Str)(ps:List Str)(sp:Sp):Prop where
 G:FnOk P w K mg base CX0 n f fd ps sp
 b:Binds K fd ps []
 k:Q4 K (.ref f)=true
 m:mg x=some (.ref f)
theorem qAS {X:Cx}{n k:Nat}{f:Addr}{h:B37}{x:Str}{ps:List Str}{sp:Sp}{e:Expr}{es:List Expr}{t:TA}{p pos:Pos}(C:Clb X.prog X.w X.K X.mg X.base n f h x ps sp)(i:Room k X.A)(g:Gl X x)
  (l:PA X (e::es) t) (c:n<=k:=by decide) (d:(x==("__debug__" : Str))=false:=by decide) (j:B24 (e::es) X.env=(false,eval e X.env)::B24 es X.env:=by rfl) (a:(backTo pos (B24 es X.env)).any (·.1)=false:=by rfl):
  PE X (.Call (.Name x p) (e::es) [] pos) (qaY sp [] E0 t):=qZC C.G (i.mono c) g C.m C.k C.b .nil qd5 l d j a
theorem nmD {i:Nat}{t u:TS}{D:Ends}{x:V}{σ:St}{H:Hp}(h:∀D':Ends,(∀σ H,D.nx σ H->D'.nx σ H)->(∀v H,D.rt v H->D'.rt v H)->tSeq t u D' (σ.set i (some x)) H):qSB i x σ H λσ2 H2=>tSeq t u D σ2 H2:=h D (λ_ _ z=>z) λ_ _ z=>z
def Tf (K:PySem.W.Frag)(x:Str)(s:Stmt)(f:Addr):Prop:=n8 K B30 x=some (some (.ref f))/\∃fd,Fun K x x s f fd
theorem Tf.use {K:PySem.W.Frag}{h:Heap}{mg:Str->Option Value}{x:Str}{s:Stmt}{f:Addr}(X:K.In h)(G:h.Ns B30 mg)(T:Tf K x s f):∃fd,Fun K x x s f fd/\mg x=some (.ref f):=
 let⟨a,fd,F⟩:=T
 ⟨fd,F,A47 X G a⟩
theorem Tf.clb {P:B20}{w:World}{K:PySem.W.Frag}{h base:Heap}{mg:Str->Option Value}{x:Str}{s:Stmt}{f:Addr}{n:Nat}{ps:List Str}{sp:Sp}(X:K.In h)(G:h.Ns B30 mg)(T:Tf K x s f)(a:∀fd,Fun K x x s f fd->FnOk P w K mg base CX0 n f fd ps sp)
  (b:∀(kV doc pm:Value) (an:Option Addr) (cdv ct:Value) (us:List Value),us.length=ps.length->B76 (Q5 x x (qEV s) (qBC s) (qAB s) .none kV doc pm an cdv ct) ⟨us,[]⟩=pure (ps.zip us)):∃fd,Clb P w K mg base n f fd x ps sp:=
 let⟨fd,F,m⟩:=T.use X G
 ⟨fd,a fd F,F.binds b,F.kp,m⟩
def Zs (K:PySem.W.Frag):List Str->Prop
 |[]=>True
 |x::r=>n8 K B30 x=some none/\Zs K r
def Zm (mg:Str->Option Value):List Str->Prop
 |[]=>True
 |x::r=>mg x=none/\Zm mg r
theorem Zs.mg {K:PySem.W.Frag}{h:Heap}{mg:Str->Option Value}(X:K.In h)(G:h.Ns B30 mg):∀{l:List Str},Zs K l->Zm mg l
 |[],_=>trivial
 |_::_,⟨a,b⟩=>⟨PySem.W.mg_none_of X G a,Zs.mg X G b⟩
theorem qBN {N P:List Str}{a:Scope}(h:a.kind=.function:=by rfl)(e:a.isCoroutine=false:=by rfl)(g:a.isGenerator=false:=by rfl)(f:N.Nodup:=by decide +kernel)(c:N.take P.length=P:=by rfl)(b:∀x∈P,a.names.lookup x=some .local\/a.names.lookup x=some .cell:=by decide +kernel)(d:∀y∈a.names,y.2≠.free:=by decide +kernel):FnScope N P a:=⟨h,e,g,f,c,b,d⟩
section
variable{P:B20}{w:World}{K:PySem.W.Frag}{mg:Str->Option Value}{base:Heap}
theorem Fun.okA {x a:Str}{st:Stmt}{f:Addr}{d:B37}{N ps:List Str}{k:Nat}{sp:Sp}(F:Fun K x a st f d)(S:FnScope N ps (qAB st))
  (b:∀ (cdv:Value) (A:Around) (outer:List Env) (s:Shared) (H:Hp) (vs:List V) (Q:VK) (E:XK),Room k (A.deeper (envOfC a (qAB st) s.heap.objs.size f cdv))->sp vs H Q E->
   ∃t,PSs (cxOf CX0 P w K mg base N a (qAB st) f cdv A outer s H E).nox (qBC st) t/\t {nx:=λ_ H'=>Q .non H',rt:=Q} (start N vs) H)
  (c:∀vs H Q E,sp vs H Q E->vs.length=ps.length:=by intro vs H Q E h;(repeat (obtain⟨_,h⟩:=h));subst_vars;rfl):FnOk P w K mg base CX0 (k+1) f d ps sp:=F.ok S c b
@[elab_as_elim] theorem us5 {α:Type}{P:List α->Prop}(f:List α)(g:f.length=5)(h:∀a b c d e,P [a,b,c,d,e]):P f:=by
 match f,g with
 |[a,b,c,d,e],_=>exact h a b c d e
def Bs (P:B20)(w:World)(base:Heap):Prop:=P=P/\w=w/\base=base
theorem Tf.c {h:Heap}{x:Str}{s:Stmt}{f:Addr}{n:Nat}{ps:List Str}{sp:Sp}(X:K.In h)(G:h.Ns B30 mg)(B:Bs P w base)(T:Tf K x s f)(a:∀fd,Fun K x x s f fd->FnOk P w K mg base CX0 n f fd ps sp)
  (b:∀ (kV doc pm:Value) (an:Option Addr) (cdv ct:Value) (us:List Value),us.length=ps.length->B76 (Q5 x x (qEV s) (qBC s) (qAB s) .none kV doc pm an cdv ct) ⟨us,[]⟩=pure (ps.zip us):=by
   intro _ _ _ _ _ _ us hl;first|exact us1 us hl (λ_=>rfl)|exact us2 us hl (λ_ _=>rfl)|exact us3 us hl (λ_ _ _=>rfl)|exact us4 us hl (λ_ _ _ _=>rfl)|exact us5 us hl (λ_ _ _ _ _=>rfl)|exact us0 us hl rfl):∃fd,Clb P w K mg base n f fd x ps sp:=T.clb X G a b
end
section
variable{X:Cx}{pos:Pos}
theorem qBO {x:Str}(i:Nat)(c:X.N.Nodup:=by exact qbQ (by kernel_rfl))(hi:X.N[i]?=some x:=by rfl)(a:Loc X.env.scope x:=by exact E6 rfl)(b:X.fn x=true\/X.env.scope.names.lookup x=some .local:=by first|exact .inl rfl|exact .inr rfl|assumption):PG X (.Name x pos) (qSB i):=qAZ c hi a b
end
section
variable{prog:B20}{w:World}{A:Around}{E:Value->Shared->Prop}{s:Shared}
theorem qWX {a:List Value}{b:List Int}(h:B25 a b):a.length=b.length/\∀(i:Nat) (y:Int),b[i]?=some y->∃tk,a[i]?=some (.int y tk):=by
 induction h with
 |nil=>exact⟨rfl,λi y e=>by simp at e⟩
 |cons n tk hm ih=>
  refine⟨by rw[D6,D6,ih.1],λi y e=>?_⟩
  cases i with
  |zero=>cases e;exact⟨_,rfl⟩
  |succ i=>exact ih.2 i y e
theorem qIC {t:Addr}{a:Array Value}{b:List Int}{x:Int}{u:Tok}{j:Nat}{Q:Value->Shared->Prop}(z:IsTup s.heap t a)(hi:B25 a.toList b)(n:b[j]?=some x)(hn:∀i,i<j->b[i]?≠some x)
  (h:Q (.int j s.toks) {s with toks:=s.toks+1}):wpAny (model prog w) A (Builtin.«tuple.index» ⟨[.ref t,.int x u],[]⟩) (λfin s'=>∃v,fin=.done (.ret v)/\Q v s') E s:=by
 obtain⟨hl,hg⟩:=qWX hi;have k:a.size=b.length:=by simpa using hl
 have p:j<a.size:=by rw[k];exact(A4.mp n).1
 show wpAny _ _ (Builtin.Tuple.tupleItemsOf (.ref t) >>= _) _ _ s;refine B16 (tupleItemsOf_ z ?_);refine B16 (B17 ?_);refine B16 (B17 ?_);refine B16 ?_;rw[A17];have en:(A14 [0:min a.size a.size])=a.size:=by simp[A14]
 rw[en];refine wpAny_forIn_list _ (λc r s'=>r.1=none/\s'=s/\∃i,c=List.range' i (a.size-i) 1/\i<=j) _ ?_ ?_ _ _ ⟨rfl,rfl,0,by simp,E8 _⟩
 ·rintro y c r s' ⟨hr,rfl,i,e,hij⟩;obtain⟨m,q⟩:∃m,a.size-i=m+1:=⟨a.size-i-1,by lia⟩
  rw[q,List.range'_succ] at e
  injection e with e1 e2
  subst e1;have d:y<b.length:=by lia
  obtain⟨tk,l⟩:=hg y _ (A3 d);have o:a[y]?=some (.int b[y] tk):=by simpa using l
  dsimp only;rw[o];dsimp only;refine B16 (wpAny_eqBool_int ?_);by_cases g:b[y]=x
  ·have ey:y=j:=by
    by_cases f:y<j
    ·exact absurd (by rw[A3 d,g]) (hn y f)
    ·lia
   subst ey;rw[show(b[y]==x)=true from by rw[g];exact beq_self_eq_true _]
   refine B16 (B16 (wpAny_mkInt (B17 ?_)));exact B17 (B17 ⟨_,rfl,h⟩)
  ·rw[show(b[y]==x)=false from by simpa using g]
   refine B17 ⟨rfl,rfl,y+1,by rw[e2];congr 1;lia,?_⟩
   rcases Nat.lt_or_ge y j with f|hge
   ·exact f
   ·have:y=j:=by lia
    subst this;rw[A3 d] at n;exact absurd (D5 n) g
 ·rintro⟨b1,b2⟩ s' ⟨hb,rfl,i,e,hij⟩;have:(List.range' i (a.size-i) 1).length=0:=by rw[<- e];rfl
  rw[List.length_range'] at this
  lia
end
section
variable{X:Cx}
def qQF (K:PySem.W.Frag):V->List V->Hp->VK->Prop:=λx vs H Q=>∃(a:Addr) (ys:List Int) (y:Int) (j:Nat),x=.ref a/\vs=[.int y]/\SqT K H a (ys.map V.int)/\ys[j]?=some y/\(∀i,i<j->ys[i]?≠some y)/\Q (.int j) H
theorem qRY:MtR X "tuple.index" (qQF X.K):=by
 intro l s σ H x m v n Q I e f h;obtain⟨a,o,y,j,rfl,rfl,c,i,k,q⟩:=h;cases e;obtain⟨u,rfl,d⟩:=f.one;obtain⟨t,rfl⟩:=d;obtain⟨g,r,b,z⟩:=I.tuple c;refine B32 F.slot_tuple_index b.typeIs F.entry_tuple_index (qIC b (qFY (by simpa using r)) i k ?_) (F.args_tuple_index_2 _ _)
 exact⟨.int j,H,I.tok _,⟨_,rfl⟩,q⟩
theorem qJK {K:PySem.W.Frag} (a:X.K=K):MtR X "tuple.index" (qQF K):=by
 subst a;exact qRY
def tBMT (r:V->List V->Hp->VK->Prop)(to:TE)(t:TA):TE:=λσ H Q=>to σ H λx H1=>(∃a xs,x=.ref a/\BareT H1 a xs)/\t σ H1 λxs H2=>r x xs H2 Q
theorem qXX {o e:Expr} {es:List Expr} {q:TE} {t:TA} {name:Str} {f c:Pos} {id:String} {r:V->List V->Hp->VK->Prop} (pa:PlainAttrs "tuple") (k:Slot "tuple" name id) (p:typeOf (.builtin id)=pure (.type "method_descriptor")) (z:MtR X id r) (ho:PE X o q) (ha:PA X (e::es) t)
  (g:B83 o name X.env (eval o X.env)=eval o X.env:=by rfl)
  (l:((backTo c (B24 (e::es) X.env)).all (fun x=>!x.1) && (backToKw c (B82 [] X.env)).all (fun x=>x.1.isSome)
   && decide ((e::es).length+([]:List B79).length+(if([]:List B79).isEmpty then 0 else 1)<30))=true:=by rfl)
  (i:(f.endLine==c.line)=true:=by rfl) (hs:B24 (e::es) X.env=(false,eval e X.env)::B24 es X.env:=by rfl) (d:(backTo c (B24 es X.env)).any (·.1)=false:=by rfl):
  PE X (.Call (.Attribute o name f) (e::es) [] c) (tBMT r q t):=by
 intro m s σ H Q I h;refine wpAny_Call_method_late g l i rfl (thn (ho m s σ H _ I h) λv s1 ⟨x,H1,I1,r1,ty,q1⟩=>?_);obtain⟨a,xs,rfl,n,hq,hc,y⟩:=ty;cases r1;obtain⟨j,_⟩:=(show ObjOk X.prog X.w H1 s1.heap a (.frz n (.tup xs)) from I1.hok a _ hq);refine⟨"tuple",id,pa,k,p,⟨n,j,hc⟩,λb e=>?_,?_⟩
 ·cases e;exact⟨n,j,y⟩
 have u:=ha c m s1 σ H1 _ I1 q1;rw[hs] at u ⊢;refine Z6 (by show(false||(backTo c (B24 es X.env)).any (·.1))=false;rw[d]<;>rfl) (A20 ?_)
 exact thn u λus s2 ⟨vs,H2,I2,r2,q2⟩=>z m s2 σ H2 (.ref a) vs (.ref a) us Q I2 rfl r2 q2
theorem Rd.same {H H':Hp}{a:Addr}{u:HO}(h:Rd H a u)(s:∀b o,H b=some o->H' b=some o):Rd H' a u:=by
 rcases h with h|⟨o,h⟩
 ·exact .inl (s _ _ h)
 ·exact .inr ⟨o,s _ _ h⟩
end
section
variable{X:Cx}{tg:Expr}
end
section
variable{X:Cx}
end
end L2
namespace Fw
open PySem L2
theorem qB1:B23 "len" = some (.builtin "len"):=by decide +kernel
theorem qRE:B23 "min" = some (.builtin "min"):=by decide +kernel
theorem qc9:B23 "max" = some (.builtin "max"):=by decide +kernel
theorem qED:B23 "sorted" = some (.builtin "sorted"):=by decide +kernel
theorem qVN:B23 "divmod" = some (.builtin "divmod"):=by decide +kernel
theorem qYF:B23 "all" = some (.builtin "all"):=by decide +kernel
theorem qBM:B23 "isinstance" = some (.builtin "isinstance"):=by decide +kernel
theorem qO6:B23 "int" = some (.type "int"):=by decide +kernel
theorem qPT:B23 "bool" = some (.type "bool"):=by decide +kernel
theorem qPS:B23 "list" = some (.type "list"):=by decide +kernel
theorem qAM:B23 "tuple" = some (.type "tuple"):=by decide +kernel
theorem qVM:B23 "set" = some (.type "set"):=by decide +kernel
theorem qMO:B23 "range" = some (.type "range"):=by decide +kernel
theorem qDY:B23 "enumerate" = some (.type "enumerate"):=by decide +kernel
structure StAt (H:Hp)(d c:Addr)(t:Int)(ns:List Int):Prop where
 dict:H d=some (.dK [(L9 "cells",.ref c),(L9 "turn",.int t)])
 list:H c=some (.lst (ns.map V.int))
 ne:0<ns.length
 len:ns.length<=63
 pos:0<=t
def Keep (d c:Addr)(H H':Hp):Prop:=∀b o,H b=some o->b≠d->b≠c->H' b=some o
theorem Keep.trans {d c:Addr}{H H1 H2:Hp}(a:Keep d c H H1)(b:Keep d c H1 H2):Keep d c H H2:=λx o h n m=>b x o (a x o h n m) n m
theorem Keep.of_same {d c:Addr}{H H':Hp}(h:Same H H'):Keep d c H H':=λb o e _ _=>h b o e
theorem qA2 {H:Hp}{p:Addr}(h:H p=none)(o:HO):Same H (Ag H p o):=λb u q=>by rw[qAA (qA5 q h)];exact q
theorem qD5 {d c:Addr}{H:Hp}{p:Addr}(h:H p=none)(o:HO):Keep d c H (Ag H p o):=.of_same (qA2 h o)
theorem StAt.ndc {H:Hp}{d c:Addr}{t:Int}{ns:List Int}(S:StAt H d c t ns):d≠c:=qCB S.dict S.list (by intro z;cases z)
theorem StAt.same {H H':Hp}{d c:Addr}{t:Int}{ns:List Int}(S:StAt H d c t ns)(h:Same H H'):StAt H' d c t ns:=⟨h _ _ S.dict,h _ _ S.list,S.ne,S.len,S.pos⟩
theorem StAt.new {H:Hp}{d c p:Addr}{t:Int}{ns:List Int}(S:StAt H d c t ns)(h:H p=none)(o:HO):StAt (Ag H p o) d c t ns:=S.same (qA2 h o)
theorem s_cs:¬(D3 "cells" = D3 "turn"):=by decide +kernel
theorem s_ct:¬((L9 (D3 "cells"):Key)=L9 (D3 "turn")):=λh=>s_cs (B11 h)
theorem qa9 {H:Hp} {d c:Addr} {t:Int} {ns:List Int} (S:StAt H d c t ns):DGet H d (.str "turn") (some (.int t)):=by
 have h:=DGet.k (k:=L9 "turn") S.dict;rw[qBJ s_ct,qBI rfl] at h;exact h
theorem qME {H:Hp} {d c:Addr} {t:Int} {ns:List Int} (S:StAt H d c t ns):DGet H d (.str "cells") (some (.ref c)):=by
 have h:=DGet.k (k:=L9 "cells") S.dict;rw[qBI rfl] at h;exact h
theorem qW6 (c:Addr) (t u:Int):putK [((L9 "cells" : Key),V.ref c),(L9 "turn",V.int t)] (L9 "turn") (V.int u)=[((L9 "cells" : Key),V.ref c),(L9 "turn",V.int u)]:=by
 unfold putK;simp[s_cs]
theorem qa7 {H:Hp} {d c:Addr} {t u:Int} {ns:List Int} (S:StAt H d c t ns):DPut H d (.str "turn") (.int u) (Ag H d (.dK [(L9 "cells",.ref c),(L9 "turn",.int u)])):=by
 have h:=DPut.k (k:=L9 "turn") (v:=.int u) S.dict (by rw[B28];exact(by decide:2<16777216))
 rw[qW6] at h;exact h
theorem StAt.turn {H:Hp} {d c:Addr} {t u:Int} {ns:List Int} (S:StAt H d c t ns) (h:0<=u):StAt (Ag H d (.dK [(L9 "cells",.ref c),(L9 "turn",.int u)])) d c u ns:=
 ⟨qA1,by rw[qAA (J3 S.ndc)];exact S.list,S.ne,S.len,h⟩
theorem StAt.put {H:Hp}{d c:Addr}{t:Int}{ns a:List Int}(S:StAt H d c t ns)(h:a.length=ns.length):StAt (Ag H c (.lst (a.map V.int))) d c t a:=
 ⟨by rw[qAA S.ndc];exact S.dict,qA1,by rw[h];exact S.ne,by rw[h];exact S.len,S.pos⟩
abbrev TB:Int:=1000000000
def qGN:Sp:=λvs H Q _=>∃d c t ns m,vs=[.ref d,.int m]/\StAt H d c t ns/\t<=TB/\1<=m/\m<=1000000/\∀k ns' H',0<=k->k<m->StAt H' d c (t+1) ns'->Keep d c H H'->Q (.int k) H'
def qT1 (K:PySem.W.Frag):Sp:=λvs H Q _=>∃(a:Addr) (ns:List Int),vs=[.ref a]/\SqL K H a (ns.map V.int)/\ns.length<=63/\∀d c ms H',StAt H' d c 0 ms->Same H H'->H d=none->H c=none->Q (.ref d) H'
noncomputable def cutI {α:Type}(xs:List α)(lo hi:Option Int):List α:=(xs.drop (HT.sIx xs.length 0 lo)).take (HT.sIx xs.length xs.length hi-HT.sIx xs.length 0 lo)
theorem qMH {α:Type}(f:α->V)(xs:List α)(lo hi:Option Int):cutV (xs.map f) lo hi=(cutI xs lo hi).map f:=by
 unfold cutV cutI;rw[A0,<- A48,<- A49]
theorem qXG {α:Type}(xs:List α)(lo hi:Option Int):(cutI xs lo hi).length<=xs.length:=by
 unfold cutI;rw[C4,G7]
 lia
theorem qY0 (c:Addr) (t:Int):qG6 [] [((L9 (D3 "cells"):Key),V.ref c),(L9 (D3 "turn"),V.int t)]=[((L9 (D3 "cells"):Key),V.ref c),(L9 (D3 "turn"),V.int t)]:=by
 unfold qG6;simp only[V7,A87];unfold putK;simp[s_cs]
theorem qUH {xs:List V}{j:Nat}(h:j<xs.length):ixN xs.length (j:Int)=some j:=by
 unfold ixN;rw[if_pos (by lia),if_pos (by lia),B8]
def qcU (K:PySem.W.Frag):Sp:=λvs H Q _=>∃(a:Addr) (ns:List Int),vs=[.ref a]/\SqL K H a (ns.map V.int)/\ns.length<=63/\∀H',Q (.bl true) H'
theorem cut {t u:TS}{D:Ends}{σ:St}{H:Hp}(h:∀N:St->Hp->Prop,(∀σ H,u D σ H->N σ H)->t {D with nx:=N} σ H):tSeq t u D σ H:=h _ λ_ _ z=>z
theorem opq {A:Prop}(h:∀G:Prop,(A->G)->G):A:=h A id
structure Rise (k:Int)(zs:List Int):Prop where
 up:zs.Pairwise (·<·)
 in_:∀x∈zs,0<=x/\x<k
theorem Rise.nil {k:Int}:Rise k []:=⟨.nil,λ_ h=>nomatch h⟩
theorem Rise.mono {j k:Int}{zs:List Int}(h:Rise j zs)(l:j<=k):Rise k zs:=⟨h.up,λx a=>⟨(h.in_ x a).1,by have:=(h.in_ x a).2;lia⟩⟩
theorem Rise.sub {k:Int}{zs a:List Int}(h:Rise k zs)(s:a.Sublist zs):Rise k a:=⟨h.up.sublist s,λx b=>h.in_ x (s.subset b)⟩
theorem Rise.snoc {k:Int}{zs:List Int}(h:Rise k zs)(e:0<=k):Rise (k+1) (zs++[k]):=by
 refine⟨M7.mpr ⟨h.up,U9 _ _,λa d b c=>?_⟩,λx hx=>?_⟩
 ·rw[A6.mp c];exact(h.in_ a d).2
 ·rcases A8.mp hx with hx|hx
  ·have:=h.in_ x hx;lia
  ·rw[A6.mp hx];lia
theorem Rise.shift {k j:Int}{zs:List Int}(h:Rise k zs)(g:0<=j):Rise (k+j) (zs.map (·+j)):=by
 refine⟨O5.mpr (h.up.imp λ{a b} d=>by lia),λx c=>?_⟩
 obtain⟨y,f,e⟩:=D8.mp c;have:=h.in_ y f
 lia
theorem Rise.nodup {k:Int}{zs:List Int}(h:Rise k zs):zs.Nodup:=h.up.imp λ{a b} c=>by lia
theorem Rise.len {zs:List Int}{k:Nat}(h:Rise (k:Int) zs):zs.length<=k:=by
 have a:zs ⊆ (F6 k).map λ(i:Nat)=>(i:Int):=λx b=>by
  have:=h.in_ x b;exact D8.mpr ⟨x.toNat,G1.mpr (by lia),by lia⟩
 have:=U3 h.nodup a;simpa using this
theorem mem_addI {zs:List Int}{k x:Int}:x∈addI zs k↔x∈zs\/x=k:=by
 unfold addI
 split
 ·rename_i h
  constructor
  ·exact .inl
  ·rintro(z|rfl)
   ·exact z
   ·exact h
 ·simp
theorem qZK {zs:List Int}{k:Int}(h:zs.Nodup):(addI zs k).Nodup:=by
 unfold addI
 split
 ·exact h
 ·rename_i hk
  exact qHO h hk
theorem qV7:∀(l zs:List Int),zs.Nodup->(l.foldl addI zs).Nodup/\∀x,x∈l.foldl addI zs↔x∈zs\/x∈l
 |[],zs,h=>⟨h,λx=>by simp⟩
 |k::r,zs,h=>by
  obtain⟨a,b⟩:=qV7 r (addI zs k) (qZK h);refine⟨a,λx=>?_⟩;rw[V7,b x,mem_addI,C0,or_assoc]
theorem qSG (l:List Int):(dedI l).Nodup:=(qV7 l [] .nil).1
theorem mem_dedI {l:List Int}{x:Int}:x∈dedI l↔x∈l:=by
 have:=(qV7 l [] .nil).2 x;unfold dedI;rw[this];simp
theorem qMF (l:List Int):(dedI l).length<=l.length:=by
 have:=qE2 l [];simpa[dedI] using this
theorem qDU {zs:List Int}(c:zs.Pairwise (·<=·))(d:zs.Nodup):zs.Pairwise (·<·):=by
 have e:zs.Pairwise (λa b=>a<=b/\a≠b):=List.pairwise_and_iff.mpr ⟨c,d⟩;exact e.imp λ{a b} ⟨x,y⟩=>by lia
theorem qLQ {k:Int}{a zs:List Int}(b:zs.Perm (dedI a))(c:zs.Pairwise (·<=·))(h:∀x∈a,0<=x/\x<k):Rise k zs:=
 ⟨qDU c (b.nodup_iff.mpr (qSG a)),λx d=>h x (mem_dedI.mp (b.mem_iff.mp d))⟩
noncomputable def qAV (lo hi:Int):List Int:=(F6 (hi-lo).toNat).map λ(i:Nat)=>lo+i
theorem qGA (lo hi:Int):qDD lo hi=(qAV lo hi).map V.int:=by
 unfold qDD qAV;rw[Y3]
 rfl
theorem mem_rangeI {lo hi x:Int}:x∈qAV lo hi↔lo<=x/\x<hi:=by
 unfold qAV;rw[D8]
 constructor
 ·rintro⟨i,a,e⟩;have:=G1.mp a
  lia
 ·intro h;exact⟨(x-lo).toNat,G1.mpr (by lia),by lia⟩
theorem qC6 (lo hi:Int):(qAV lo hi).length=(hi-lo).toNat:=by unfold qAV;simp
theorem qDE (lo hi:Int):(qAV lo hi).Pairwise (·<·):=by
 unfold qAV;exact O5.mpr (A05.imp λ{a b} h=>by lia)
theorem qEJ {lo hi:Int}(h:0<=lo):Rise hi (qAV lo hi):=⟨qDE _ _,λx a=>by have:=mem_rangeI.mp a;lia⟩
theorem qVD {α:Type}(xs:List α)(k:Nat)(h:k<=xs.length):cutI xs (some (k:Int)) none=xs.drop k:=by
 unfold cutI;rw[HT.sIx_nat,HT.sIx_none,A13 h];exact C7 (by rw[G7];exact A7 _)
theorem qaB {α:Type}(xs:List α)(k:Nat):cutI xs none (some (k:Int))=xs.take k:=by
 unfold cutI;rw[HT.sIx_nat,HT.sIx_none,p8,A65];rcases Nat.le_total k xs.length with h|h
 ·rw[A13 h]
 ·rw[Nat.min_eq_right h,C7 h,C7 (A7 _)]
abbrev NetL (H:Hp):List Addr->List (List Int)->Prop:=Paired λr zs=>H r=some (.tup (zs.map V.int))
theorem NetL.keep {d c:Addr}{H H':Hp}{b:List Addr}{Ae:List (List Int)}(h:NetL H b Ae)(a:∀r zs,H r=some (.tup zs)->r≠d/\r≠c)(k:Keep d c H H'):NetL H' b Ae:=by
 induction h with
 |nil=>exact .nil
 |cons r t ih=>exact .cons (k _ _ r (a _ _ r).1 (a _ _ r).2) ih
theorem NetL.same {H H':Hp}{a:List Addr}{Ae:List (List Int)}(h:NetL H a Ae)(k:∀r zs,H r=some (.tup zs)->H' r=some (.tup zs)):NetL H' a Ae:=by
 induction h with
 |nil=>exact .nil
 |cons r t ih=>exact .cons (k _ _ r) ih
theorem NetL.get {H:Hp}:∀{rs:List Addr} {Ae:List (List Int)} {i:Nat} {zs:List Int},NetL H rs Ae->Ae[i]?=some zs->∃r,rs[i]?=some r/\H r=some (.tup (zs.map V.int))
 |_,_,_,_,.nil,e=>by simp at e
 |_,_,0,_,.cons r _,e=>by simp at e;subst e;exact⟨_,rfl,r⟩
 |_,_,i+1,zs,.cons _ t,e=>by
  obtain⟨r,h1,h2⟩:=NetL.get (i:=i) (zs:=zs) t (by simpa using e)
  exact⟨r,by simpa using h1,h2⟩
def NetAt (H:Hp)(a:Addr)(Ae:List (List Int)):Prop:=∃rs:List Addr,H a=some (.tup (rs.map V.ref))/\NetL H rs Ae
theorem StAt.tup {H:Hp}{d c:Addr}{t:Int}{ns:List Int}(S:StAt H d c t ns){r:Addr}{zs:List V}(h:H r=some (.tup zs)):r≠d/\r≠c:=
 ⟨qCB h S.dict (by intro z;cases z),qCB h S.list (by intro z;cases z)⟩
theorem NetAt.keep {H H':Hp}{d c:Addr}{t:Int}{ns:List Int}(S:StAt H d c t ns){a:Addr}{Ae:List (List Int)}(h:NetAt H a Ae)(k:Keep d c H H'):NetAt H' a Ae:=by
 obtain⟨g,b,f⟩:=h;exact⟨g,k _ _ b (S.tup b).1 (S.tup b).2,f.keep (λr i e=>S.tup e) k⟩
theorem NetAt.same {H H':Hp}{a:Addr}{Ae:List (List Int)}(h:NetAt H a Ae)(k:Same H H'):NetAt H' a Ae:=by
 obtain⟨d,b,c⟩:=h;exact⟨d,k _ _ b,c.same λr f e=>k _ _ e⟩
theorem NetAt.len {H:Hp}{a:List Addr}{Ae:List (List Int)}(h:NetL H a Ae):a.length=Ae.length:=C3 h
def WFn (Ae:List (List Int)):Prop:=∀(i:Nat) zs,Ae[i]?=some zs->Rise (i:Int) zs
theorem WFn.snoc {Ae:List (List Int)}{zs:List Int}(h:WFn Ae)(b:Rise (Ae.length:Int) zs):WFn (Ae++[zs]):=by
 intro i a e;rcases c6 i Ae.length with l|l|l
 ·rw[G6 l] at e;exact h i a e
 ·subst l;simp at e;subst e;exact b
 ·rw[J1 (by rw[A9,C2];lia)] at e
  cases e
theorem WFn.nil:WFn []:=λi a e=>by simp at e
theorem qCL {α β:Type}{F:α->β->Prop}{a:α}{b:β}{l₁:List α}{l₂:List β}(h:Paired F l₁ l₂)(r:F a b):Paired F (l₁++[a]) (l₂++[b]):=U6 h r
def qOK:Sp:=λvs H Q _=>∃d c t ns k,vs=[.ref d,.int k]/\StAt H d c t ns/\t<=TB-20/\0<=k/\k<=1000/\
 ∀r zs t' ns' H',StAt H' d c t' ns'->t<=t'->t'<=t+9->Keep d c H H'->H' r=some (.tup (zs.map V.int))->Rise k zs->Q (.ref r) H'
def qb2:Sp:=λvs H Q _=>∃d c t ns m,vs=[.ref d,.int m]/\StAt H d c t ns/\t<=TB-10000/\1<=m/\m<=400/\
 ∀a Ae t' ns' H',StAt H' d c t' ns'->t<=t'->t'<=t+10*m+10->Keep d c H H'->NetAt H' a Ae->WFn Ae->(Ae.length:Int)=m->Q (.ref a) H'
def qXN:Sp:=λvs H Q _=>∃d c t ns m,vs=[.ref d,.int m]/\StAt H d c t ns/\t<=TB-1000/\1<=m/\m<=400/\
 ∀a Ae t' ns' H',StAt H' d c t' ns'->t<=t'->t'<=t+m->Keep d c H H'->NetAt H' a Ae->WFn Ae->(Ae.length:Int)=m->Q (.ref a) H'
theorem qd2 {a b k:Int}(d:0<=k)(c:k<4):∃v,atI [V.int a,V.int b] (k/3)=some (.int v)/\(v=a\/v=b):=by
 rcases(by lia:k=0\/k=1\/k=2\/k=3) with rfl|rfl|rfl|rfl
 ·exact⟨a,rfl,.inl rfl⟩
 ·exact⟨a,rfl,.inl rfl⟩
 ·exact⟨a,rfl,.inl rfl⟩
 ·exact⟨b,rfl,.inr rfl⟩
theorem qd1 {k:Int}(b:0<=k)(a:k<6):∃v,atI [V.int 0,V.int 0,V.int 1,V.int 2,V.int 2,V.int 3] k=some (.int v)/\0<=v/\v<=3:=by
 rcases(by lia:k=0\/k=1\/k=2\/k=3\/k=4\/k=5) with rfl|rfl|rfl|rfl|rfl|rfl
 all_goals exact⟨_,rfl,by decide,by decide⟩
theorem qAC {H Hc:Hp}{p:Addr}{o:HO}(h:Same H Hc)(a:H p=none):Same H (Ag Hc p o):=λb u e=>by rw[qAA (qA5 e a)];exact h b u e
theorem qH1 {d c:Addr}{H Hc:Hp}{p:Addr}{o:HO}(h:Keep d c H Hc)(a:H p=none):Keep d c H (Ag Hc p o):=λb u e g f=>by rw[qAA (qA5 e a)];exact h b u e g f
theorem qDT {H:Hp}{p:Addr}{xs:List V}{o:HO}{a:List Addr}{Ae:List (List Int)}(h:NetL H a Ae)(b:H p=some (.lst xs)):NetL (Ag H p o) a Ae:=
 h.same λr c e=>by rw[qAA (qCB e b (by intro z;cases z))];exact e
theorem qBE (a:List Addr)(r:Addr):a.map V.ref++[V.ref r]=(a++[r]).map V.ref:=by rw[B3];rfl
theorem qb9 (b:Bool)(x:Int):(E9 (if b=true then(1:Int) else 0).toNat [V.int x]).flatten=(if b=true then[x] else[]).map V.int:=by cases b<;>rfl
theorem qB2 {α β:Type}{F:α->β->Prop}:∀{l₁:List α} {l₂:List β} {i:Nat} {a:α},Paired F l₁ l₂->l₁[i]?=some a->∃b,l₂[i]?=some b/\F a b
 |_,_,_,_,.nil,e=>by simp at e
 |_,_,0,_,.cons r _,e=>by simp at e;subst e;exact⟨_,rfl,r⟩
 |_,_,i+1,a,.cons _ t,e=>by
  obtain⟨b,h1,h2⟩:=qB2 (i:=i) (a:=a) t (by simpa using e)
  exact⟨b,by simpa using h1,h2⟩
theorem qKO {α β:Type}{F G:α->β->Prop}{l₁:List α}{l₂:List β}(h:Paired F l₁ l₂)(k:∀a b,F a b->G a b):Paired G l₁ l₂:=by
 induction h with
 |nil=>exact .nil
 |cons r t ih=>exact .cons (k _ _ r) ih
theorem qCV {a:List Addr}{i:Nat}{x:V}(h:(a.map V.ref)[i]?=some x):∃r,a[i]?=some r/\x=.ref r:=by
 rw[B6] at h;cases e:a[i]? with
 |none=>rw[e] at h;cases h
 |some r=>rw[e] at h;exact⟨r,rfl,(D5 h).symm⟩
theorem qBH {zs:List Int}{i:Nat}{x:V}(h:(zs.map V.int)[i]?=some x):∃z,zs[i]?=some z/\x=.int z:=by
 rw[B6] at h;cases e:zs[i]? with
 |none=>rw[e] at h;cases h
 |some r=>rw[e] at h;exact⟨r,rfl,(D5 h).symm⟩
theorem qQ8 {α:Type}{l:List α}{a b:α}{j:Nat}(h:(l++[a])[j]?=some b):l[j]?=some b\/(j=l.length/\b=a):=by
 rcases c6 j l.length with z|z|z
 ·rw[G6 z] at h;exact .inl h
 ·subst z;simp at h;exact .inr ⟨rfl,h.symm⟩
 ·rw[J1 (by rw[A9,C2];lia)] at h
  cases h
theorem qJQ (a:Int)(zs:List Int):inV (.int a) (zs.map V.int)=decide (a∈zs):=by
 unfold inV
 induction zs with
 |nil=>simp
 |cons z r ih=>
  rw[D0,U5,ih];have e:eqV (.int z) (.int a)=decide (a=z):=by
   by_cases h:z=a
   ·subst h;simp[eqV]
   ·have b:¬a=z:=λq=>h q.symm;simp[eqV,h,b]
  rw[e];simp[C0]
theorem qFJ (zs:List Int):(zs.map V.int).all qM4=true:=by
 rw[J5];intro x a;obtain⟨z,_,rfl⟩:=D8.mp a
 rfl
noncomputable def qF4 (ns st:List Int) (Aa wk:Int):V:=if wk∈st then .str "there" else if∀x∈ns,x∈st then(if Aa<=(st.length:Int) then .str "full" else .non) else .str "needs"
noncomputable def qF5 (st:List Int) (wk:Int):V:=if wk∈st then .non else .str "empty"
def qN3:Sp:=λvs H Q _=>∃(a s:Addr) (Ae:List (List Int)) (st ns:List Int) (Aa wk:Int),vs=[.ref a,.int Aa,.ref s,.int wk]/\NetAt H a Ae/\H s=some (.tup (st.map V.int))/\st.length<=1000/\0<=wk/\Ae[wk.toNat]?=some ns/\
 ∀H',Same H H'->Q (qF4 ns st Aa wk) H'
noncomputable def qGL (ns st:List Int) (Aa:Int) (Ac:Str) (wk:Int):V:=if Ac = "do" then qF4 ns st Aa wk else qF5 st wk
def qSY:Sp:=λvs H Q _=>∃(a s mv:Addr) (Ae:List (List Int)) (st ns:List Int) (Aa wk:Int) (Ac:Str),vs=[.ref a,.int Aa,.ref s,.ref mv]/\NetAt H a Ae/\H s=some (.tup (st.map V.int))/\st.length<=1000/\H mv=some (.tup [.str Ac,.int wk])/\(Ac = "do"\/Ac = "clear")/\0<=wk/\Ae[wk.toNat]?=some ns/\ns.length<=1000/\
 ∀H',Same H H'->Q (qGL ns st Aa Ac wk) H'
theorem qAK:¬(D3 "clear" = D3 "do"):=by decide +kernel
theorem qFF {xs:List V}{i:Int}{x:V}(a:0<=i)(h:xs[i.toNat]?=some x):atI xs i=some x:=by
 have e:i=((i.toNat:Nat):Int):=by lia
 rw[e];exact qVP (by simpa using h)
theorem NetAt.get {H:Hp}{a:Addr}{Ae:List (List Int)}{ns:List Int}{i:Nat}(h:NetAt H a Ae)(e:Ae[i]?=some ns):∃(rs:List Addr) (r:Addr),H a=some (.tup (rs.map V.ref))/\rs.length=Ae.length/\(rs.map V.ref)[i]?=some (.ref r)/\H r=some (.tup (ns.map V.int)):=by
 obtain⟨rs,d,b⟩:=h;obtain⟨r,f,c⟩:=b.get e;exact⟨rs,r,d,C3 b,by rw[B6,f];rfl,c⟩
def qcO (t:TS):TS:=λD σ H=>∃Pm:St->Hp->Prop,t {D with nx:=Pm} σ H/\∀σ' H',Pm σ' H'->D.nx σ' H'
theorem qZ7 {X:Cx}{st:Stmt}{t:TS}(h:PS X st t):PS X st (qcO t):=by
 intro a s σ H D I b;obtain⟨j,g,c⟩:=b;refine thn (h a s σ H _ I g) λf i q=>?_;cases f with
 |next=>obtain⟨σ',d,e,q⟩:=q;exact⟨σ',d,e,c _ _ q⟩
 |brk=>exact q
 |cont=>exact q
 |ret u=>exact q
theorem qcA {ns st:List Int}:(((ns.map λx=>decide (x∈st)).all id)=true)↔∀x∈ns,x∈st:=by
 rw[J5]
 constructor
 ·intro h x a;have:=h _ (D8.mpr ⟨x,a,rfl⟩);exact of_decide_eq_true this
 ·intro h b c;obtain⟨x,a,rfl⟩:=D8.mp c;exact decide_eq_true (h x a)
def seqO (b:Bool)(xs:List V):HO:=match b with|true=>.tup xs|false=>.lst xs
noncomputable def tyOf (b:Bool):Value:=match b with|true=>.type "tuple" |false=>.type "list"
section
variable{K:PySem.W.Frag}
theorem qY5 (b:Bool):W9 K (tyOf b) (.type "tuple")=some b:=by cases b<;>rfl
theorem qbT:W9 K (.type "int") (.type "int")=some true:=by rfl
theorem qbU:W9 K (.type "int") (.type "bool")=some false:=by rfl
end
theorem qCI {α:Type}{p:α->Bool}{l:List α}{i:Nat}{x:α}(h:l[i]?=some x):(l.take (i+1)).filter p=(l.take i).filter p++(if p x then[x] else[]):=by
 rw[C5,h,C6,o5];by_cases a:p x=true
 ·simp[a]
 ·simp[a]
end Fw
namespace L2
open PySem PySem.Spec PyProof.Rows
def SqO (b:Bool)(K:PySem.W.Frag)(H:Hp)(a:Addr)(xs:List V):Prop:=match b with|true=>SqT K H a xs|false=>SqL K H a xs
def ItO (b:Bool)(K:PySem.W.Frag)(a:Addr):It:=match b with|true=>Itt K a|false=>Itl K a
def iSeq (K:PySem.W.Frag)(tl:TE):TI:=λσ H R=>tl σ H λx H1=>∃(b:Bool) (a:Addr),x=.ref a/\(∃xs,SqO b K H1 a xs)/\R (ItO b K a) H1
section
variable{X:Cx}{tg:Expr}
theorem qXW {l:Expr}{f:TE}(k:PE X l f):PI X tg l (iSeq X.K f):=by
 intro i s σ H R I h;refine thn (k i s σ H _ I h) λv s1 ⟨x,H1,I1,r1,q1⟩=>?_;obtain⟨b,a,e,⟨n,g⟩,q⟩:=q1;subst e;cases r1;cases b with
 |false=>
  obtain⟨c,j,p,m⟩:=I1.list g;refine B40 p.isList ?_;refine⟨s1.heap.objs.size,[s1.heap.objs.size],_,_,H1,rfl,I1.kept (t':=s1.toks) λb o e=>A5 _ e,qMX a _,⟨_,B4 _ rfl,rfl,rfl⟩,λb d=>?_,q⟩;cases A6.mp d;exact I1.fpOk (A7 _) (I1.hok.fresh (A7 _))
 |true=>
  obtain⟨c,j,p,m⟩:=I1.tuple g;refine wpAny_pyIter_tuple (show s1.heap.IsTuple a c.toArray from p) ?_;refine⟨s1.heap.objs.size,[s1.heap.objs.size],_,_,H1,rfl,I1.kept (t':=s1.toks) λb o e=>A5 _ e,qKF a _,⟨_,B4 _ rfl,rfl,rfl⟩,λb d=>?_,q⟩;cases A6.mp d;exact I1.fpOk (A7 _) (I1.hok.fresh (A7 _))
end
theorem qY2 {b:Bool}{K:PySem.W.Frag}{a:Addr}{xs:List V}{g:TG}{f:TT}{j:TE}{Kf:Hp->Prop}{σ0:St}{H0:Hp}{p:Addr}(Pv:Nat->St->Hp->Prop)(h:Pv 0 σ0 H0)(d:∀i σ H,i<=xs.length->Pv i σ H->SqO b K H a xs)
  (e:∀i x σ H,xs[i]?=some x->Pv i σ H->g x σ H λσ2 H2=>f σ2 H2 λb H3=>if b=true then j σ2 H3 λy H4=>∃ys,H4 p=some (.lst ys)/\ys.length<B18/\Pv (i+1) σ2 (Ag H4 p (.lst (ys++[y]))) else Pv (i+1) σ2 H3)
  (c:∀σ H,Pv xs.length σ H->Kf H):
  LcG (ItO b K a) g f j Kf σ0 H0 p:=by
 cases b with
 |true=>exact qG7 Pv h d e c
 |false=>exact qGC Pv h d e c
def IeO (b:Bool)(K:PySem.W.Frag)(a:Addr):It:=match b with|true=>IteT K a|false=>Ite K a
def qc1 (K:PySem.W.Frag)(ta:TA):TI:=λσ H R=>ta σ H λvs H1=>∃(b:Bool) (l:Addr),vs=[.ref l]/\(∃xs,SqO b K H1 l xs)/\R (IeO b K l) H1
section
variable{X:Cx}
theorem qWB {g:List Expr} {k:Nat} {d:Pos} {a:Expr} {z:TA} {p pos:Pos} (hg:Gl X "enumerate") (hm:X.mg "enumerate" = none) (hv:B23 "enumerate" = some (.type "enumerate")) (ha:PA X [a] z) (hs:B24 [a] X.env=[(false,eval a X.env)]:=by rfl):
  PI X (.Tuple g k d) (.Call (.Name "enumerate" p) [a] [] pos) (qc1 X.K z):=by
 intro m s σ H R I h;refine Call_ (qGZ I hg hm hv (K9 (thn (ha pos m s σ H _ I h) λus s1 ⟨vs,H1,I1,r1,q1⟩=>?_) hs rfl));obtain⟨b,l,e,⟨xs,hq⟩,q⟩:=q1;subst e;obtain⟨u,rfl,rx⟩:=qE1 r1;cases rx;cases b with
 |false=>
  obtain⟨x,rv,i,hz⟩:=I1.list hq;refine call_enumerate_list i.isList λv f y j t=>?_;refine B55 f ?_;have w:Inv X m σ H1 {s1 with heap:=v}:=I1.kept (t':=s1.toks) t;refine⟨s1.heap.objs.size+1,[s1.heap.objs.size+1,s1.heap.objs.size],_,_,H1,rfl,w,qMY l s1.heap.objs.size (s1.heap.objs.size+1) (X6 _),⟨⟨_,f⟩,y⟩,λb n=>?_,q⟩;have r:b=s1.heap.objs.size+1\/b=s1.heap.objs.size:=by simpa using n
  rcases r with rfl|rfl
  ·exact I1.fpOk (R0 _) (I1.hok.fresh (R0 _))
  ·exact I1.fpOk (A7 _) (I1.hok.fresh (A7 _))
 |true=>
  obtain⟨x,rv,i,hz⟩:=I1.tuple hq;have c:l<s1.heap.objs.size:=by obtain⟨o,e,_⟩:=i;exact B7 e
  refine qL6 i λv f y j t=>?_;refine B55 f ?_;have w:Inv X m σ H1 {s1 with heap:=v}:=I1.kept (t':=s1.toks) t;refine⟨s1.heap.objs.size+1,[s1.heap.objs.size+1,s1.heap.objs.size],_,_,H1,rfl,w,qKG l s1.heap.objs.size (s1.heap.objs.size+1) (X6 _) (D2 c) (D2 (Q6 c)),⟨⟨_,f⟩,y⟩,λb n=>?_,q⟩;have r:b=s1.heap.objs.size+1\/b=s1.heap.objs.size:=by simpa using n
  rcases r with rfl|rfl
  ·exact I1.fpOk (R0 _) (I1.hok.fresh (R0 _))
  ·exact I1.fpOk (A7 _) (I1.hok.fresh (A7 _))
end
theorem qWS {b:Bool}{K:PySem.W.Frag}{a:Addr}{xs:List V}{g:TG}{f:TT}{j:TE}{Kf:Hp->Prop}{σ0:St}{H0:Hp}{p:Addr}(Pv:Nat->St->Hp->Prop)(h:Pv 0 σ0 H0)(d:∀i σ H,i<=xs.length->Pv i σ H->SqO b K H a xs)
  (e:∀i x σ H T,xs[i]?=some x->Pv i σ H->H T=none->g (.ref T) σ (Ag H T (.tup [.int (i:Int),x])) λσ2 H2=>f σ2 H2 λb H3=>if b=true then j σ2 H3 λy H4=>∃ys,H4 p=some (.lst ys)/\ys.length<B18/\Pv (i+1) σ2 (Ag H4 p (.lst (ys++[y]))) else Pv (i+1) σ2 H3)
  (c:∀σ H,Pv xs.length σ H->Kf H):
  LcG (IeO b K a) g f j Kf σ0 H0 p:=by
 cases b with
 |true=>exact qQZ Pv h d e c
 |false=>exact qU7 Pv h d e c
theorem qSC {a:Addr}{o:Obj}{Af:List (List Key×V)}{g:TG}{c:TS}{D:Ends}{σ:St}{H:Hp}(Pv:Nat->St->Hp->Prop)(u:Pv 0 σ H)(l:∀i σ H,i<=Af.length->Pv i σ H->H a=some (.frz o (.dT Af)))
  (s:∀i k v r σ H,Af[i]?=some (k,v)->H r=some (.tup (k.map kV))->Pv i σ H->g (.ref r) σ H λσ2 H2=>c {D with nx:=Pv (i+1),ct:=Pv (i+1),bk:=D.nx} σ2 H2) (f:∀σ H,Pv Af.length σ H->D.nx σ H):
  ForG (ItT a o Af) g c D σ H:=by
 refine⟨λi m σ H=>m=Af.length-i/\i<=Af.length/\Pv i σ H,⟨Af.length,by simp,E8 _,u⟩,?_⟩
 rintro i m σ H ⟨rfl,hi,p⟩;have q:=l i σ H hi p;by_cases b:i<Af.length
 ·refine .inr ⟨⟨b,q⟩,Pv (i+1),λσ' h j=>⟨Af.length-(i+1),by lia,rfl,b,j⟩,λx h y=>?_⟩
  obtain⟨e,k,v,r,n,d,t⟩:=y;subst e d;exact s i k v r σ _ n t p
 ·have e:i=Af.length:=by lia
  subst e;exact .inl ⟨⟨A7 _,q⟩,f σ H p⟩
def TyR (K:PySem.W.Frag) (H:Hp) (x:V) (t:Value):Prop:=TyOf K H x t\/∃a xs,x=.ref a/\Rd H a (.tup xs)/\t=.type "tuple"
section
variable{X:Cx}
theorem qO4:qCF X (.builtin "isinstance") (λxs H Q=>∃x T t b,xs=[x,.ty T]/\TyR X.K H x t/\W9 X.K t (.type T)=some b/\Q (.bl b) H):=by
 intro e s σ H xs f Q I r h;obtain⟨x,T,t,b,rfl,c,d,q⟩:=h;rcases c with c|⟨a,ys,rfl,c,rfl⟩
 ·exact qBT e s σ H _ f Q I r ⟨x,T,t,b,rfl,c,d,q⟩
 ·rcases c with c|⟨ob,c⟩
  ·exact qBT e s σ H _ f Q I r ⟨_,T,_,b,rfl,TyOf.tup c,d,q⟩
  ·obtain⟨u,v,rfl,j,i⟩:=qMU r;cases i;cases(show u=D7 a from j);obtain⟨_,_,_,_,p⟩:=(show ObjOk X.prog X.w H s.heap a (.frz ob (.tup ys)) from I.hok a _ c);obtain⟨o,k,g,_⟩:=p;exact L0 A39 I.kIn ⟨o,k,g⟩ d (λz=>nomatch z) λl=>⟨.bl b,H,I.tok _,rfl,q⟩
end
end L2
namespace Fw
open PySem L2
end Fw
namespace L2
open PySem PySem.Spec PyProof.Rows Fw
section
variable{X:Cx}{Ab:List (Addr×Obj)}{σ:St}{H:Hp}{s:Shared}
end
open PySem PySem.Spec PyProof.Rows
section
variable{X:Cx}
end
end L2
namespace HT
open PySem PySem.Spec PyProof.Rows
section
variable{prog:B20}{w:World}{A:Around}{E:Value->Shared->Prop}{s:Shared}
end
end HT
namespace L2
open PySem PySem.Spec PyProof.Rows Fw
section
variable{X:Cx}{e:Expr}{te:TE}{st:Option Expr}{tst:TO}{pos p2:Pos}
end
open PySem PySem.Spec PyProof.Rows
section
variable{X:Cx}
theorem qYO {A:Around}{s:Shared}{Ab:List (Addr×Obj)}{σ:St}{H:Hp}(I:Inv X Ab σ H s)(hu:A.units<cLine){a b:Addr}{zs d:List Int}(p:H a=some (.tup (zs.map V.int)))(f:H b=some (.tup (d.map V.int))):SeqAt.EqAt A s (.ref a) (.ref b) (decide (zs=d)):=by
 have l:∀{u v:List Int},u.map V.int=v.map V.int->u=v:=by
  intro u
  induction u with
  |nil=>intro v h;cases v with|nil=>rfl|cons _ _=>cases h
  |cons x u ih=>
   intro v h;cases v with
   |nil=>cases h
   |cons y v=>
    rw[D0,D0] at h
    injection h with h1 h2
    injection h1 with h1
    rw[h1,ih h2]
 by_cases e:a=b
 ·subst e;rw[p] at f
  injection f with f
  injection f with f
  rw[decide_eq_true (l f)];exact A79 _
 ·obtain ⟨n,w,p1,z1⟩:=I.tuple (SqT.of p);obtain ⟨m,q,p2,z2⟩:=I.tuple (SqT.of f);have o:=w.length;have l2:=q.length;rw [A0] at o l2;refine SeqAt.EqAt.of_refs e ?_;have g:=SeqAt.RcAt.tuples (A:=A) (s:=s) (e:=fun j=>decide (zs[j]?=d[j]?)) p1 p2 hu (fun j h1 h2=>by
   rw[C1] at h1 h2;have r:j<zs.length:=by lia
   have z:j<d.length:=by lia
   obtain⟨a,ea,ra⟩:=w.get (i:=j) (x:=.int zs[j]) (by rw[B6,A3 r];rfl)
   obtain⟨b,k,rb⟩:=q.get (i:=j) (x:=.int d[j]) (by rw[B6,A3 z];rfl)
   obtain⟨t,rfl⟩:=ra;obtain⟨t',rfl⟩:=rb;have e1:n.toArray[j]=.int zs[j] t:=by
    rw[A25];exact D5 ((A3 h1).symm.trans ea)
   have e2:m.toArray[j]=.int d[j] t':=by
    rw[A25];exact D5 ((A3 h2).symm.trans k)
   rw[e1,e2];have:=m9 (A:=A.in1) (s:=s) zs[j] t d[j] t';rw[show(zs[j]==d[j])=decide (zs[j]?=d[j]?) by rw[A3 r,A3 z];by_cases c:zs[j]=d[j]<;>simp[c]] at this
   exact this)
  have k:((F6 (min n.toArray.size m.toArray.size)).all (λj=>decide (zs[j]?=d[j]?))&&n.toArray.size==m.toArray.size)=decide (zs=d):=by
   rw[C1,C1,<- o,<- l2,J4,L6,J5,beq_iff_eq,decide_eq_true_eq]
   constructor
   ·rintro⟨h1,h2⟩;refine u9 λi=>?_;by_cases hi:i<zs.length
    ·exact of_decide_eq_true (h1 i (G1.mpr (by lia)))
    ·rw[J1 (by lia),J1 (by lia)]
   ·rintro rfl;exact⟨λ_ _=>decide_eq_true rfl,rfl⟩
  rw[k] at g;exact g
theorem qZ2 {b:List Addr}{c:List Value}(h:Vals (b.map V.ref) c):c=b.map D7:=by
 induction b generalizing c with
 |nil=>cases h;rfl
 |cons a b ih=>cases h with|cons h1 h2=>cases h1;rw[ih h2];rfl
theorem qLY (hu:X.A.units+64<cLine):OpR X (B35 .NotIn) (λx y H Q=>∃(p l:Addr) (zs:List Int) (rs:List Addr) (ts:List (List Int)),x=.ref p/\y=.ref l/\H p=some (.tup (zs.map V.int))/\SqL X.K H l (rs.map V.ref)/\Paired (λ(r:Addr) (t:List Int)=>H r=some (.tup (t.map V.int))) rs ts/\Q (.bl (decide (zs∉ts))) H):=by
 intro Ab s σ H x y v u Q I o ry h;obtain⟨p,l,zs,rs,ts,rfl,rfl,h1,i,T,q⟩:=h;cases o;cases ry;obtain⟨a0,r,j,hz⟩:=I.list i;have n:=qZ2 r;subst n;have d:∀{rs:List Addr} {ts:List (List Int)},Paired (λ(r:Addr) (t:List Int)=>H r=some (.tup (t.map V.int))) rs ts->∀r∈rs,∃t:List Int,H r=some (.tup (t.map V.int)):=by
  intro rs ts h
  induction h with
  |nil=>exactλr a=>nomatch a
  |cons g _ ih=>exactλr a=>(C0.mp a).elim (λe=>⟨_,e▸g⟩) (ih r)
 refine SeqAt.notIn_listAt (λw=>decide (L2.G.keyH H w=zs)) j.isList (λw m=>?_) ⟨.bl _,H,I,rfl,?_⟩
 ·obtain⟨f,b,rfl⟩:=D8.mp (show w∈rs.map D7 by simpa using m)
  obtain⟨t,k⟩:=d T f b;rw[L2.G.keyH_at k];exact qYO I (by show X.A.units+1<cLine;lia) k h1
 ·have e:(!(rs.map D7).toArray.any λw=>decide (L2.G.keyH H w=zs))=decide (zs∉ts):=by
   have e2:((rs.map D7).any λw=>decide (L2.G.keyH H w=zs))=decide (zs∈ts):=by
    clear q r j hz i
    induction T with
    |nil=>simp
    |@cons f t rs ts g _ ih=>
     rw[D0,U5,ih,L2.G.keyH_at g,J4,P9,decide_eq_true_eq,decide_eq_true_eq,decide_eq_true_eq,C0];exact⟨λh=>h.imp B14 id,λh=>h.imp B14 id⟩
   rw[List.any_toArray,e2];by_cases c:zs∈ts
   ·rw[decide_eq_true c,decide_eq_false (λz=>z c)];rfl
   ·rw[decide_eq_false c,decide_eq_true c];rfl
  rw[e];exact q
end
end L2
namespace Fw
open PySem L2
abbrev MovL (H:Hp):List Addr->List (Str×Int)->Prop:=Paired λr m=>H r=some (.tup [.str m.1,.int m.2])
theorem MovL.same {H H':Hp}{b:List Addr}{a:List (Str×Int)}(h:MovL H b a)(k:Same H H'):MovL H' b a:=by
 induction h with
 |nil=>exact .nil
 |cons r t ih=>exact .cons (k _ _ r) ih
theorem MovL.put {H:Hp}{p:Addr}{xs:List V}{o:HO}{b:List Addr}{a:List (Str×Int)}(h:MovL H b a)(c:H p=some (.lst xs)):MovL (Ag H p o) b a:=by
 induction h with
 |nil=>exact .nil
 |cons r t ih=>exact .cons (by rw[qAA (qCB r c (by intro z;cases z))];exact r) ih
theorem qRU {α β:Type}{F:α->β->Prop}{a c:List α}{b d:List β}(h:Paired F a b)(k:Paired F c d):Paired F (a++c) (b++d):=by
 induction h with
 |nil=>exact k
 |cons r t ih=>exact .cons r ih
theorem MovL.snoc {H:Hp}{b:List Addr}{a:List (Str×Int)}{r:Addr}{c:Str}{x:Int}(h:MovL H b a)(e:H r=some (.tup [.str c,.int x])):MovL H (b++[r]) (a++[(c,x)]):=U6 h e
theorem MovL.app {H:Hp}{d a:List Addr}{c b:List (Str×Int)}(h:MovL H d c)(h':MovL H a b):MovL H (d++a) (c++b):=qRU h h'
noncomputable def qJJ (w:Str)(n:Nat):List (Str×Int):=(F6 n).map λ(i:Nat)=>(w,(i:Int))
theorem qKS (w:Str)(n:Nat):qJJ w (n+1)=qJJ w n++[(w,0+(n:Int))]:=by
 unfold qJJ;rw[Z0,B3,Y5]
 rfl
theorem qFD (w:Str)(n:Nat):(qJJ w n).length=n:=by unfold qJJ;simp
noncomputable def wd (Ae:List (List Int))(st:List Int)(Aa:Int)(m:Str×Int):V:=qGL ((Ae[m.2.toNat]?).getD []) st Aa m.1 m.2
noncomputable def qMC (n:Nat):List (Str×Int):=qJJ "do" n++qJJ "clear" n
noncomputable def qCW (Ae:List (List Int))(st:List Int)(Aa:Int):List (Str×Int):=(qMC Ae.length).filter λm=>decide (wd Ae st Aa m=.non)
theorem qNT (n:Nat):(qMC n).length=n+n:=by unfold qMC;rw[A9,qFD,qFD]
theorem qR6 {n:Nat} {m:Str×Int} (h:m∈qMC n):(m.1 = "do"\/m.1 = "clear")/\0<=m.2/\m.2<(n:Int):=by
 unfold qMC qJJ at h;rcases A8.mp h with h|h
 ·obtain⟨i,a,rfl⟩:=D8.mp h;have:=G1.mp a;exact⟨.inl rfl,by simp;lia⟩
 ·obtain⟨i,a,rfl⟩:=D8.mp h;have:=G1.mp a;exact⟨.inr rfl,by simp;lia⟩
def qJ3:Sp:=λvs H Q _=>∃(a s:Addr) (Ae:List (List Int)) (st:List Int) (Aa:Int),vs=[.ref a,.int Aa,.ref s]/\NetAt H a Ae/\WFn Ae/\Ae.length<=1000/\H s=some (.tup (st.map V.int))/\st.length<=1000/\
 ∀l rs H',Same H H'->H l=none->H' l=some (.lst (rs.map V.ref))->MovL H' rs (qCW Ae st Aa)->Q (.ref l) H'
theorem qBL {n:Int}{i:Nat}(h:(i:Int)<n):(qAV 0 n)[i]?=some (i:Int):=by
 unfold qAV;rw[B6,List.getElem?_range (by lia)]
 simp
theorem qBD {α:Type}{l:List α}{n:Nat}(h:l.length=n):l.take n=l:=C7 (by lia)
theorem qBS {p:Int->Bool}{l:List Int}{i:Nat}:((l.take i).filter p).length<=i:=by
 have:=J2 p (l.take i);rw[C4] at this
 lia
structure Cnt (n:Nat)(cs:List Int)(seen:List Int):Prop where
 len:cs.length=n
 at_:∀x:Nat,x<n->∃c,cs[x]?=some c/\0<=c/\(c=0↔(x:Int)∉seen)
theorem qBK {n:Nat}(h:n<=1000000):n<B18:=by rw[B28];lia
inductive Nd (Ae:List (List Int))(Ad:List Int):Int->Prop
 |ask {x:Int}:x∈Ad->Nd Ae Ad x
 |need {w y:Int} {zs:List Int}:Nd Ae Ad w->Ae[w.toNat]?=some zs->y∈zs->Nd Ae Ad y
structure KeysI (Af:List (Key×V))(ks:List Int):Prop where
 keys:Af.map (·.1)=ks.map E3
 nd:ks.Nodup
theorem KeysI.len {Af:List (Key×V)}{ks:List Int}(h:KeysI Af ks):Af.length=ks.length:=by
 have:=congrArg U4 h.keys;simpa using this
theorem KeysI.nil:KeysI [] []:=⟨rfl,.nil⟩
theorem qPU (k:Key):∀Af:List (Key×V),(Af.any λkv=>decide (kv.1=k))=true↔k∈Af.map (·.1)
 |[]=>by simp
 |p::r=>by
  rw[U5,D0,P9,qPU k r,C0,decide_eq_true_eq];exact or_congr_left ⟨B14,B14⟩
theorem KeysI.mem {Af:List (Key×V)}{ks:List Int}(h:KeysI Af ks)(x:Int):(E3 x:Key)∈Af.map (·.1)↔x∈ks:=by
 rw[h.keys,D8];exact⟨λ⟨y,b,e⟩=>Z9 e▸b,λa=>⟨x,a,rfl⟩⟩
theorem KeysI.has {Af:List (Key×V)}{ks:List Int}(h:KeysI Af ks)(x:Int):(valV Af (E3 x)).isSome=decide (x∈ks):=by
 rw[<- qFS];have:=(qPU (E3 x) Af).trans (h.mem x);by_cases e:x∈ks
 ·rw[decide_eq_true e];exact this.mpr e
 ·rw[decide_eq_false e];exact G4.mpr λz=>e (this.mp z)
theorem qQX (k:Key)(v:V):∀Af:List (Key×V),(Af.map λkv=>if kv.1=k then(kv.1,v) else kv).map (·.1)=Af.map (·.1)
 |[]=>rfl
 |p::r=>by
  rw[D0,D0,D0,qQX k v r];congr 1
  split<;>rfl
theorem KeysI.put {Af:List (Key×V)}{ks:List Int}(h:KeysI Af ks)(x:Int)(v:V):KeysI (putK Af (E3 x) v) (addI ks x):=by
 have a:=(qPU (E3 x) Af).trans (h.mem x);unfold putK addI;by_cases e:x∈ks
 ·rw[if_pos (a.mpr e),if_pos e];exact⟨by rw[qQX];exact h.keys,h.nd⟩
 ·rw[if_neg λz=>e (a.mp z),if_neg e];refine⟨by rw[B3,B3,h.keys];rfl,qHO h.nd e⟩
theorem qTX {ks:List Int}{n:Nat}(h:ks.Nodup)(b:∀x∈ks,0<=x/\x<(n:Int)):ks.length<=n:=by
 have a:ks ⊆ (F6 n).map λ(i:Nat)=>(i:Int):=λx c=>by
  have:=b x c;exact D8.mpr ⟨x.toNat,G1.mpr (by lia),by lia⟩
 have:=U3 h a;simpa using this
structure Fnd (Ae:List (List Int))(Ad ks:List Int)(j:Int):Prop where
 in_:∀x∈ks,(0<=x/\x<(Ae.length:Int))/\Nd Ae Ad x
 ask:∀x∈Ad,x∈ks
 clo:∀(w:Nat) zs,j<=(w:Int)->(w:Int)∈ks->Ae[w]?=some zs->∀y∈zs,y∈ks
theorem Fnd.all {Ae:List (List Int)}{Ad ks:List Int}(c:WFn Ae)(h:Fnd Ae Ad ks 0)(x:Int):x∈ks↔Nd Ae Ad x:=by
 refine⟨λa=>(h.in_ x a).2,λa=>?_⟩
 induction a with
 |ask m=>exact h.ask _ m
 |@need w y zs _ e m ih=>
  have b:=(h.in_ w ih).1;exact h.clo w.toNat zs (by lia) (by rw[show((w.toNat:Nat):Int)=w by lia];exact ih) e y m
def qAL (Ae:List (List Int))(Ad zs:List Int):Prop:=Rise (Ae.length:Int) zs/\∀x,x∈zs↔Nd Ae Ad x
theorem qHH:∀{l m:List Int},l.Pairwise (·<·)->m.Pairwise (·<·)->(∀x,x∈l↔x∈m)->l=m
 |[],[],_,_,_=>rfl
 |[],y::m,_,_,h=>absurd ((h y).mpr (by simp)) (by simp)
 |x::l,[],_,_,h=>absurd ((h x).mp (by simp)) (by simp)
 |x::l,y::m,hl,hm,h=>by
  have l1:=P0.mp hl;have m1:=P0.mp hm;have exy:x=y:=by
   rcases C0.mp ((h x).mp (by simp)) with e|e
   ·exact e
   ·rcases C0.mp ((h y).mpr (by simp)) with e2|e2
    ·exact e2.symm
    ·have:=m1.1 x e;have:=l1.1 y e2
     lia
  subst exy;rw[qHH l1.2 m1.2 λz=>?_]
  constructor
  ·intro hz;rcases C0.mp ((h z).mp (by simp[hz])) with e|e
   ·have:=l1.1 z hz;lia
   ·exact e
  ·intro hz;rcases C0.mp ((h z).mpr (by simp[hz])) with e|e
   ·have:=m1.1 z hz;lia
   ·exact e
noncomputable def qC8 (ws:List Int)(x:Int):Option Int:=if x∈ws then some (ws.idxOf x:Int) else none
theorem qGU {a:List Int}{x p:Int}(h:qC8 a x=some p):0<=p/\a[p.toNat]?=some x:=by
 unfold qC8 at h
 split at h
 ·rename_i m
  cases h;have b:=List.idxOf_lt_length_iff.mpr m;refine⟨by lia,?_⟩
  rw[B8,A3 b,List.getElem_idxOf]
 ·cases h
theorem qD4 {a:List Int}(c:a.Nodup){x:Int}{i:Nat}(h:a[i]?=some x):qC8 a x=some (i:Int):=by
 obtain⟨b,e⟩:=A4.mp h;unfold qC8;rw[if_pos (by rw[<- e];exact X5 b),<- e,c.idxOf_getElem]
theorem qKM {a:List Int}(f:a.Nodup){i:Nat}{y:Int}(h:a[i]?=some y)(x:Int):qC8 (a.take (i+1)) x=if x=y then some (i:Int) else qC8 (a.take i) x:=by
 obtain⟨g,e⟩:=A4.mp h;have d:a.take (i+1)=a.take i++[y]:=by rw[C5,h];rfl
 have c:(a.take (i+1)).Nodup:=f.sublist (T6 _ _);by_cases b:x=y
 ·subst b;rw[if_pos rfl];exact qD4 c (by rw[Q2 (by lia)];exact h)
 ·rw[if_neg b];unfold qC8;rw[d];by_cases m:x∈a.take i
  ·rw[if_pos (by simp[m]),if_pos m,List.idxOf_append,if_pos m]
  ·rw[if_neg (by simp[m,b]),if_neg m]
noncomputable def qBB (Ae:List (List Int))(a:List Int):List (List Int):=a.map λw=>((Ae[w.toNat]?).getD []).filterMap (qC8 a)
theorem qB7 (Ae:List (List Int))(a:List Int):(qBB Ae a).length=a.length:=by simp[qBB]
theorem qFB {Ae:List (List Int)}{a:List Int}{i:Nat}{w:Int}(h:a[i]?=some w):(qBB Ae a)[i]?=some (((Ae[w.toNat]?).getD []).filterMap (qC8 a)):=by
 unfold qBB;rw[B6,h]
 rfl
theorem qMW {c:List Int}(l:c.Pairwise (·<·)){i j:Nat}{x y:Int}(k:c[i]?=some x)(m:c[j]?=some y):i<j↔x<y:=by
 obtain⟨g,n⟩:=A4.mp k;obtain⟨f,o⟩:=A4.mp m;have d:∀a b (ha:a<c.length) (hb:b<c.length),a<b->c[a]<c[b]:=λa b ha hb e=>G2.mp l a b ha hb e
 constructor
 ·intro h;have:=d i j g f h
  lia
 ·intro h;rcases c6 i j with z|z|z
  ·exact z
  ·subst z
   lia
  ·have:=d j i f g z
   lia
theorem qI0 {d zs:List Int}(f:d.Pairwise (·<·))(h:zs.Pairwise (·<·)):(zs.filterMap (qC8 d)).Pairwise (·<·):=by
 rw[List.pairwise_filterMap];refine h.imp λ{a b} c p i q g=>?_;obtain⟨k,e⟩:=qGU i;obtain⟨l,j⟩:=qGU g;have:=(qMW f e j).mpr c
 lia
theorem qBR {a zs:List Int}(f:a.Nodup){p:Int}:p∈zs.filterMap (qC8 a)↔0<=p/\∃x,a[p.toNat]?=some x/\x∈zs:=by
 rw[Y6]
 constructor
 ·rintro⟨x,c,e⟩;obtain⟨d,b⟩:=qGU e;exact⟨d,x,b,c⟩
 ·rintro⟨d,x,b,c⟩;refine⟨x,c,?_⟩;have:=qD4 f b;rw[this];congr 1
  lia
theorem qGW {Ae:List (List Int)}(a:WFn Ae)(w:Nat):Rise (w:Int) ((Ae[w]?).getD []):=by
 cases e:Ae[w]? with
 |none=>exact Rise.nil
 |some zs=>exact a w zs e
theorem qBU {Ae:List (List Int)}{a:List Int}(j:WFn Ae)(r:Rise (Ae.length:Int) a):WFn (qBB Ae a):=by
 intro i k h;have c:i<a.length:=by rw[<- qB7 Ae a];exact(A4.mp h).1
 have d:=A3 c;rw[qFB d] at h;cases h;have m:=(r.in_ a[i] (X5 c)).1;have b:=qGW j a[i].toNat;refine⟨qI0 r.up b.up,λp e=>?_⟩;obtain⟨n,x,f,g⟩:=(qBR r.nodup).mp e;have l:=b.in_ x g;have:=(qMW r.up f d).mpr (by lia)
 lia
theorem qWG {Ae:List (List Int)}(k:WFn Ae):qBB Ae (qAV 0 Ae.length)=Ae:=by
 have f:Rise (Ae.length:Int) (qAV 0 Ae.length):=qEJ (P6 0);apply u9;intro i;by_cases g:i<Ae.length
 ·have e:=qBL (n:=(Ae.length:Int)) (i:=i) (by lia)
  rw[qFB e,B8,A3 g];have c:=k i _ (A3 g);congr 1;show Ae[i].filterMap _=Ae[i];refine qHH (qI0 f.up c.up) c.up λp=>?_;rw[qBR f.nodup]
  constructor
  ·rintro⟨l,x,a,j⟩;have h:=(A4.mp a).1;rw[qC6] at h;rw[qBL (by lia)] at a
   have:x=p:=by have:=D5 a;lia
   rw[<- this];exact j
  ·intro d;have b:=c.in_ p d;refine⟨b.1,p,?_,d⟩;rw[qBL (by lia)]
   congr 1
   lia
 ·rw[J1 (by rw[qB7,qC6];lia),J1 (by lia)]
def qb1:Sp:=λvs H Q _=>∃(r d:Addr) (zs:List Int) (Af:List (Key×V)) (num:Int->Option Int),vs=[.ref r,.ref d]/\H r=some (.tup (zs.map V.int))/\zs.length<=1000/\H d=some (.dK Af)/\(∀x,valV Af (E3 x)=(num x).map V.int)/\
 ∀r' H',Same H H'->H' r'=some (.tup ((zs.filterMap num).map V.int))->Q (.ref r') H'
abbrev Mv:=Str×Int
def nd (Ae:List (List Int))(w:Int):List Int:=(Ae[w.toNat]?).getD []
theorem qJH {Ae:List (List Int)}{w:Int}{zs:List Int}(h:Ae[w.toNat]?=some zs):nd Ae w=zs:=by unfold nd;rw[h];rfl
noncomputable def qCZ (Ae:List (List Int)):List Int->Int->Option Int
 |[],_=>none
 |w::r,y=>match qCZ Ae r y with
  |some v=>some v
  |none=>if y∈nd Ae w then some w else none
theorem qKV {Ae:List (List Int)}{y v:Int}:∀{l:List Int},qCZ Ae l y=some v->v∈l/\y∈nd Ae v
 |[],h=>by cases h
 |w::r,h=>by
  unfold qCZ at h;cases e:qCZ Ae r y with
  |some u=>
   rw[e] at h;cases h;have:=qKV e;exact⟨B5 _ this.1,this.2⟩
  |none=>
   rw[e] at h;dsimp only at h
   split at h
   ·cases h;exact⟨E7,by assumption⟩
   ·cases h
theorem lastOf_none {Ae:List (List Int)}{y:Int}:∀{l:List Int},qCZ Ae l y=none↔∀v∈l,y∉nd Ae v
 |[]=>by simp[qCZ]
 |w::r=>by
  unfold qCZ;have ih:=lastOf_none (Ae:=Ae) (y:=y) (l:=r);cases e:qCZ Ae r y with
  |some u=>
   refine⟨λz=>(by cases z),λz=>?_⟩
   have:=ih.mpr λv hv=>z v (B5 _ hv);rw[e] at this;cases this
  |none=>
   dsimp only;have q:=ih.mp e
   constructor
   ·intro z v hv
    split at z
    ·cases z
    ·rcases C0.mp hv with rfl|hv
     ·assumption
     ·exact q v hv
   ·intro z;rw[if_neg (z w E7)]
def later (Ae:List (List Int))(zs:List Int)(j:Nat)(x:Int):Prop:=∃v∈zs.drop j,x∈nd Ae v
instance (Ae:List (List Int)) (zs:List Int) (j:Nat) (x:Int):Decidable (later Ae zs j x):=by unfold later;infer_instance
theorem qUB {Ae:List (List Int)}{zs:List Int}(n:zs.Nodup){i:Nat}{w:Int}(h:zs[i]?=some w)(y:Int):qCZ Ae zs y=some w↔y∈nd Ae w/\¬later Ae zs (i+1) y:=by
 obtain⟨p,e⟩:=A4.mp h;have split:zs=zs.take i++w::zs.drop (i+1):=by rw[<- e,<- J6 p,R8]
 have d:∀(a b:List Int),w∉a->w∉b->(qCZ Ae (a++w::b) y=some w↔y∈nd Ae w/\¬ ∃v∈b,y∈nd Ae v):=by
  intro a b j l
  induction a with
  |nil=>
   show qCZ Ae (w::b) y=some w↔_;unfold qCZ;cases q:qCZ Ae b y with
   |some v=>
    have:=qKV q
    constructor
    ·intro z;cases z;exact absurd this.1 l
    ·rintro⟨_,z⟩;exact absurd ⟨v,this.1,this.2⟩ z
   |none=>
    have:=lastOf_none.mp q;dsimp only
    constructor
    ·intro z
     split at z
     ·rename_i hy
      exact⟨hy,λ⟨v,k,c⟩=>this v k c⟩
     ·cases z
    ·rintro⟨z,_⟩;rw[if_pos z]
  |cons x a ih=>
   have ih:=ih λz=>j (B5 _ z);rw[A01];unfold qCZ;cases q:qCZ Ae (a++w::b) y with
   |some v=>
    rw[q] at ih;exact ih
   |none=>
    rw[q] at ih;dsimp only
    constructor
    ·intro z
     split at z
     ·cases z;exact absurd E7 j
     ·cases z
    ·intro z;exact absurd (ih.mpr z) (by simp)
 have f:=n;rw[split] at f;have g:=c8.mp f;have o:w∉zs.drop (i+1):=(O8.mp g.2.1).1;have m:w∉zs.take i:=λz=>g.2.2 w z w E7 rfl;have:=d (zs.take i) (zs.drop (i+1)) m o;rw[<- split] at this;exact this
noncomputable def clrs (Ae:List (List Int))(Ad zs:List Int)(w:Int):List Int:=(nd Ae w).filter λy=>decide (qCZ Ae zs y=some w/\y∉Ad)
noncomputable def qTO (Ae:List (List Int)) (Ad zs:List Int) (w:Int):List Mv:=("do",w)::(clrs Ae Ad zs w).map λy=>("clear",y)
noncomputable def qQJ (Ae:List (List Int))(Ad zs:List Int):List Mv:=zs.flatMap (qTO Ae Ad zs)
inductive Run (Ae:List (List Int))(Aa:Int):List Int->List Mv->List Int->Prop
 |nil {s:List Int}:Run Ae Aa s [] s
 |do_ {s s' t:List Int} {w:Int} {ms:List Mv}:w∉s->(∀y∈nd Ae w,y∈s)->(s.length:Int)<Aa->s'.Perm (s++[w])->s'.Pairwise (·<·)->Run Ae Aa s' ms t->Run Ae Aa s (("do",w)::ms) t
 |clear {s t:List Int} {w:Int} {ms:List Mv}:w∈s->Run Ae Aa (s.filter λx=>decide (x≠w)) ms t->Run Ae Aa s (("clear",w)::ms) t
noncomputable def qEA (ms:List Mv):List Int:=ms.filterMap λ(m:Mv)=>if m.1=D3 "do" then some m.2 else none
theorem qNX (a b:List Mv):qEA (a++b)=qEA a++qEA b:=T0
theorem qXT:∀{s:List Int} {w:Int},s.Nodup->w∈s->(s.filter λx=>decide (x≠w)).length+1=s.length
 |[],w,_,h=>by cases h
 |x::s,w,n,h=>by
  have n2:=O8.mp n;by_cases e:x=w
  ·subst e;have:s.filter (λy=>decide (y≠x))=s:=X9.mpr λy hy=>decide_eq_true λz=>n2.1 (z▸hy);rw[L8,if_neg (by simp),this,D6]
  ·rw[L8,if_pos (by simpa using e),D6,D6,qXT n2.2 ((C0.mp h).resolve_left λz=>e z.symm)]
theorem Run.len {Ae:List (List Int)}{Aa:Int}{s t:List Int}{c:List Mv}(h:Run Ae Aa s c t):s.Nodup->c.length+t.length=s.length+2*(qEA c).length:=by
 induction h with
 |nil=>intro _;simp[qEA]
 |@do_ s s' t w c h1 h2 h3 h4 h5 h6 ih=>
  intro _;have e:=ih (h5.imp λ{a b} f=>by lia)
  have l:=h4.length_eq;rw[A9,C2] at l;have d:(qEA (("do",w)::c)).length=(qEA c).length+1:=by simp[qEA]
  rw[d,D6]
  lia
 |@clear s t w c h1 h2 ih=>
  intro n;have e:=ih (n.filter _);have l:=qXT n h1;have d:qEA (("clear",w)::c)=qEA c:=by unfold qEA;rw[O4,if_neg qAK]
  rw[d,D6]
  lia
theorem qKJ {Ae:List (List Int)} {Aa:Int} {t:List Int} {ms:List Mv}:∀{cs s:List Int},cs.Nodup->(∀y∈cs,y∈s)->Run Ae Aa (s.filter λx=>decide (x∉cs)) ms t->Run Ae Aa s ((cs.map λy=>(("clear",y):Mv))++ms) t
 |[],s,_,_,h=>by
  have:(s.filter λx=>decide (x∉([]:List Int)))=s:=X9.mpr λx _=>decide_eq_true (by simp)
  rw[this] at h;exact h
 |c::cs,s,n,hs,h=>by
  have n2:=O8.mp n;refine .clear (hs c E7) (qKJ n2.2 (λy hy=>C9.mpr ⟨hs y (B5 _ hy),decide_eq_true λz=>n2.1 (z▸hy)⟩) ?_);rw[List.filter_filter];have:(s.filter λx=>decide (x∉cs)&&decide (x≠c))=s.filter λx=>decide (x∉c::cs):=by
   refine w5 λx _=>?_;rw[<- Bool.decide_and];exact decide_eq_decide.mpr ⟨λ⟨a,b⟩ z=>(C0.mp z).elim b a,λz=>⟨λq=>z (B5 _ q),λq=>z (q▸E7)⟩⟩
  rw[this];exact h
noncomputable def stAt (Ae:List (List Int))(Ad zs:List Int)(i:Nat):List Int:=(zs.take i).filter λx=>decide (x∈Ad\/later Ae zs i x)
section
variable{Ae:List (List Int)}{Ad zs:List Int}
theorem qHN (j:WFn Ae)(N:qAL Ae Ad zs){i:Nat}{w y:Int}(h:zs[i]?=some w)(a:y∈nd Ae w):y∈zs.take i/\y<w:=by
 have b:=B0 h;have l:=N.1.in_ w b;have f:w.toNat<Ae.length:=by lia
 have e:=A3 f;rw[qJH e] at a;have m:=(j w.toNat _ e).in_ y a;have d:y∈zs:=(N.2 y).mpr (.need ((N.2 w).mp b) e a);obtain⟨k,c⟩:=F9 d;have g:k<i:=(qMW N.1.up c h).mpr (by lia)
 refine⟨B0 (i:=k) (by rw[Q2 g];exact c),by lia⟩
theorem qXI (N:qAL Ae Ad zs)(d:WFn Ae){i:Nat}{w:Int}(h:zs[i]?=some w):w∈Ad\/later Ae zs (i+1) w:=by
 have c:=B0 h;cases(N.2 w).mp c with
 |ask m=>exact .inl m
 |@need v _ ns hv e hm=>
  have b:=(N.2 v).mpr hv;obtain⟨k,a⟩:=F9 b;have q:=qHN d N a (by rw[qJH e];exact hm)
  have f:i<k:=(qMW N.1.up h a).mpr q.2;refine .inr ⟨v,B0 (i:=k-(i+1)) ?_,by rw[qJH e];exact hm⟩
  rw[A46,show i+1+(k-(i+1))=k by lia]
  exact a
theorem qSS (N:qAL Ae Ad zs){i:Nat}{w x:Int}(h:zs[i]?=some w)(c:x∈zs.take i):x<w:=by
 obtain⟨k,a⟩:=F9 c;have b:k<i:=by have:=(A4.mp a).1;rw[C4] at this;lia
 rw[Q2 b] at a;exact(qMW N.1.up a h).mp b
theorem qYU (N:qAL Ae Ad zs)(i:Nat):(stAt Ae Ad zs i).Pairwise (·<·):=(N.1.up.sublist (T6 _ _)).filter _
theorem qKH (N:qAL Ae Ad zs){i:Nat}{w:Int}(h:zs[i]?=some w):(stAt Ae Ad zs i++[w]).Pairwise (·<·):=by
 refine M7.mpr ⟨qYU N i,U9 _ _,λx a y b=>?_⟩;rw[A6.mp b];exact qSS N h (C9.mp a).1
theorem mem_st {i:Nat}{x:Int}:x∈stAt Ae Ad zs i↔x∈zs.take i/\(x∈Ad\/later Ae zs i x):=by
 unfold stAt;rw[C9,decide_eq_true_eq]
theorem qKU {i:Nat}{w x:Int}(h:zs[i]?=some w):later Ae zs i x↔x∈nd Ae w\/later Ae zs (i+1) x:=by
 obtain⟨a,e⟩:=A4.mp h;unfold later;rw[J6 a,e];simp only[C0,exists_eq_or_imp]
theorem qTW (b:WFn Ae)(N:qAL Ae Ad zs){i:Nat}{w y:Int}(h:zs[i]?=some w)(a:y∈nd Ae w):y∈stAt Ae Ad zs i:=mem_st.mpr ⟨(qHN b N h a).1,.inr ((qKU h).mpr (.inl a))⟩
theorem qM1 (N:qAL Ae Ad zs){i:Nat}{w:Int}(h:zs[i]?=some w){x:Int}:x∈clrs Ae Ad zs w↔x∈nd Ae w/\¬later Ae zs (i+1) x/\x∉Ad:=by
 unfold clrs;rw[C9,decide_eq_true_eq,qUB N.1.nodup h]
 constructor
 ·rintro⟨a,⟨_,b⟩,c⟩;exact⟨a,b,c⟩
 ·rintro⟨a,b,c⟩;exact⟨a,⟨a,b⟩,c⟩
theorem qd7 (a:WFn Ae)(w:Int):(nd Ae w).Pairwise (·<·):=(qGW a w.toNat).up
theorem qaD (a:WFn Ae)(w:Int):(clrs Ae Ad zs w).Pairwise (·<·):=(qd7 a w).filter _
theorem qYV (e:WFn Ae)(N:qAL Ae Ad zs){i:Nat}{w:Int}(h:zs[i]?=some w):((stAt Ae Ad zs i++[w]).filter λx=>decide (x∉clrs Ae Ad zs w))=stAt Ae Ad zs (i+1):=by
 refine qHH ((qKH N h).filter _) (qYU N (i+1)) λx=>?_;rw[C9,decide_eq_true_eq,qM1 N h,A8,A6,mem_st,mem_st,qKU h,C5,h,C6,A8,A6]
 constructor
 ·rintro⟨a|a,b⟩
  ·refine⟨.inl a.1,?_⟩;rcases a.2 with q|q|q
   ·exact .inl q
   ·by_cases c:x∈Ad
    ·exact .inl c
    ·by_cases l:later Ae zs (i+1) x
     ·exact .inr l
     ·exact absurd ⟨q,l,c⟩ b
   ·exact .inr q
  ·rw[a];exact⟨.inr rfl,qXI N e h⟩
 ·rintro⟨a|a,b⟩
  ·exact⟨.inl ⟨a,b.imp id .inr⟩,λ⟨_,c,d⟩=>b.elim d c⟩
  ·exact⟨.inr a,λ⟨_,c,d⟩=>b.elim d c⟩
theorem qaZ (i:Nat):(stAt Ae Ad zs i).length<=i:=by
 have:=J2 (λx=>decide (x∈Ad\/later Ae zs i x)) (zs.take i);rw[C4] at this;unfold stAt
 lia
theorem st_end (N:qAL Ae Ad zs)(b:Ad.Pairwise (·<·)):stAt Ae Ad zs zs.length=Ad:=by
 refine qHH (qYU N _) b λx=>?_;rw[mem_st,O3]
 constructor
 ·rintro⟨_,q|⟨v,a,_⟩⟩
  ·exact q
  ·rw[A73] at a;cases a
 ·intro q;exact⟨(N.2 x).mpr (.ask q),.inl q⟩
theorem qQI (wf:WFn Ae)(N:qAL Ae Ad zs)(ua:Ad.Pairwise (·<·)):∀(m i:Nat),zs.length-i=m->i<=zs.length->Run Ae (Ae.length:Int) (stAt Ae Ad zs i) ((zs.drop i).flatMap (qTO Ae Ad zs)) Ad
 |0,i,hm,hi=>by
  have e:i=zs.length:=by lia
  rw[e,A73,st_end N ua];exact .nil
 |m+1,i,hm,hi=>by
  have lt:i<zs.length:=by lia
  have h:=A3 lt;rw[J6 lt,A61];generalize zs[i]=w at h;have lz:=N.1.len;have ls:=qaZ (Ae:=Ae) (Ad:=Ad) (zs:=zs) i;refine .do_ (λz=>?_) (λy hy=>qTW wf N h hy) (by lia) (.refl _) (qKH N h) (qKJ ((qaD wf w).imp λ{a b} hab=>by lia) (λy hy=>A8.mpr (.inl (qTW wf N h ((qM1 N h).mp hy).1))) ?_)
  ·have:=qSS N h (mem_st.mp z).1
   lia
  ·rw[qYV wf N h];exact qQI wf N ua m (i+1) (by lia) (by lia)
theorem qZ9 (b:WFn Ae)(N:qAL Ae Ad zs)(a:Ad.Pairwise (·<·)):Run Ae (Ae.length:Int) [] (qQJ Ae Ad zs) Ad:=by
 have:=qQI b N a zs.length 0 rfl (E8 _);exact this
theorem qXD (w:Int):qEA (qTO Ae Ad zs w)=[w]:=by
 unfold qTO qEA;rw[O4,if_pos rfl];dsimp only;congr 1;rw[List.filterMap_map];exact List.filterMap_eq_nil_iff.mpr λy _=>if_neg (t:=some y) qAK
theorem qXE (l:List Int):qEA (l.flatMap (qTO Ae Ad zs))=l:=by
 induction l with
 |nil=>rfl
 |cons w l ih=>
  rw[A61,qNX,qXD,ih]
  rfl
theorem qW9 (g:WFn Ae) (N:qAL Ae Ad zs) {m:Mv} (h:m∈qQJ Ae Ad zs):(m.1 = "do"\/m.1 = "clear")/\0<=m.2/\m.2<(Ae.length:Int):=by
 obtain⟨w,a,c⟩:=List.mem_flatMap.mp h;obtain⟨i,b⟩:=F9 a;have d:=N.1.in_ w a;rcases C0.mp c with e|e
 ·rw[e];exact⟨.inl rfl,d⟩
 ·obtain⟨y,j,e⟩:=D8.mp e;rw[<- e];have:=qHN g N b ((qM1 N b).mp j).1;have f:=N.1.in_ y (P1 this.1);exact⟨.inr rfl,f⟩
theorem qKR {c:List Int}(a:qAL Ae Ad zs)(b:qAL Ae Ad c):zs=c:=qHH a.1.up b.1.up λx=>(a.2 x).trans (b.2 x).symm
end
def qRG (H:Hp)(l:Addr)(ms:List Mv):Prop:=∃rs:List Addr,H l=some (.lst (rs.map V.ref))/\MovL H rs ms
def qHY (H:Hp)(t:Addr)(Ae:List (List Int))(Ad:List Int):Prop:=H t=some (.tup (Ad.map V.int))/\Rise (Ae.length:Int) Ad
def qT2:Sp:=λvs H Q _=>∃d c t ns a Ae,vs=[.ref d,.ref a]/\StAt H d c t ns/\t<=TB-100/\NetAt H a Ae/\WFn Ae/\1<=Ae.length/\Ae.length<=400/\
 ∀r ws t' ns' H',StAt H' d c t' ns'->t<=t'->t'<=t+10->Keep d c H H'->H' r=some (.tup (ws.map V.int))->Rise (Ae.length:Int) ws->1<=ws.length->Q (.ref r) H'
def qQ3:Sp:=λvs H Q _=>∃(a t:Addr) (Ae:List (List Int)) (Ad:List Int),vs=[.ref a,.ref t]/\NetAt H a Ae/\WFn Ae/\Ae.length<=1000/\qHY H t Ae Ad/\
 ∀l zs H',Same H H'->H l=none->H' l=some (.lst (zs.map V.int))->qAL Ae Ad zs->Q (.ref l) H'
theorem qaG:B23 "dict" = some (.type "dict"):=by decide +kernel
noncomputable def lv (L:List Int)(x:Int):Int:=(L[x.toNat]?).getD 0
structure Lev (Ae:List (List Int))(L:List Int):Prop where
 len:L.length=Ae.length
 at_:∀(i:Nat) zs,Ae[i]?=some zs->∃l,L[i]?=some l/\0<=l/\l<=(i:Int)/\(∀y∈zs,lv L y+1<=l)/\(l=0\/∃y∈zs,lv L y+1=l)
structure Fd (n:Nat)(L:List Int)(S:Int->Prop)(fs:List Int):Prop where
 len:fs.length=n
 at_:∀w:Nat,w<n->(S w->fs[w]?=some (lv L w))/\(¬S w->fs[w]?=some 0)
structure CntX (n:Nat)(cs:List Int)(seen:List Int):Prop where
 len:cs.length=n
 at_:∀x:Nat,x<n->cs[x]?=some ((seen.count (x:Int):Nat):Int)
def Beh (st st':List Int) (Ac:Str) (wk:Int):Prop:=(Ac = "do"->st'.Perm (st++[wk])/\st'.Pairwise (·<=·))/\(Ac = "clear"->st'=st.filter λx=>decide (x≠wk))
theorem qRO:∀{l m:List Int},l.Perm m->l.Pairwise (·<=·)->m.Pairwise (·<=·)->l=m:=by
 intro l m f g c;exact f.eq_of_pairwise (λa b _ _ e d=>Int.le_antisymm e d) g c
theorem Beh.one {st a b:List Int} {Ac:Str} {c:Int} (k:Ac = "do"\/Ac = "clear") (f:Beh st a Ac c) (d:Beh st b Ac c):a=b:=by
 rcases k with e|e
 ·obtain⟨g,j⟩:=f.1 e;obtain⟨i,h⟩:=d.1 e;exact qRO (g.trans i.symm) j h
 ·rw[f.2 e,d.2 e]
def qJ4:Sp:=λvs H Q _=>∃(s mv:Addr) (st:List Int) (Ac:Str) (wk:Int),vs=[.ref s,.ref mv]/\H s=some (.tup (st.map V.int))/\st.length<=62/\H mv=some (.tup [.str Ac,.int wk])/\(Ac = "do"\/Ac = "clear")/\
 ∀r st' H',Same H H'->H' r=some (.tup (st'.map V.int))->Beh st st' Ac wk->Q (.ref r) H'
inductive Play (Ae:List (List Int))(Aa:Int):List Int->List Mv->List (List Int)->V->Prop
 |nil {st}:Play Ae Aa st [] [] .non
 |stop {st m ms w0}:wd Ae st Aa m=.str w0->Play Ae Aa st (m::ms) [] (.str w0)
 |go {st st' m ms sts v}:wd Ae st Aa m=.non->Beh st st' m.1 m.2->Play Ae Aa st' ms sts v->Play Ae Aa st (m::ms) (st'::sts) v
def MvOk (Ae:List (List Int)) (ms:List Mv):Prop:=∀m∈ms,(m.1 = "do"\/m.1 = "clear")/\0<=m.2/\m.2<(Ae.length:Int)
def qXK (H:Hp)(l:Addr)(sts:List (List Int)):Prop:=∃rs:List Addr,H l=some (.lst (rs.map V.ref))/\NetL H rs sts
theorem StAt.put' {H:Hp}{d c l:Addr}{t:Int}{ns:List Int}{o:HO}(S:StAt H d c t ns)(a:l≠d)(b:l≠c):StAt (Ag H l o) d c t ns:=⟨by rw[qAA (J3 a)];exact S.dict,by rw[qAA (J3 b)];exact S.list,S.ne,S.len,S.pos⟩
structure YNa (K:PySem.W.Frag)(C:Addr):Prop where
 Ae:qRH K C "net"
 Aa:qRH K C "rooms"
 made:qRH K C "made"
 stands:qRH K C "stands"
noncomputable def yfs (a:Addr) (Aa:Int) (lm ls:Addr):List (Str×V):=putF "stands" (.ref ls) (putF "made" (.ref lm) (putF "rooms" (.int Aa) (putF "net" (.ref a) [])))
structure YardAt (C:Addr)(H:Hp)(y a lm ls:Addr)(Ae:List (List Int))(Aa:Int)(ms:List Mv)(sts:List (List Int)):Prop where
 obj:∃dx,H y=some (.ins C dx (yfs a Aa lm ls))
 nat:NetAt H a Ae
 wf:WFn Ae
 n400:Ae.length<=400
 r0:0<=Aa
 r62:Aa<=62
 made:qRG H lm ms
 ok:MvOk Ae ms
 len:ms.length<=10000
 stands:qXK H ls ([]::sts)
 play:Play Ae Aa [] ms sts .non
 ne:lm≠ls
section
variable{Ae:List (List Int)}
noncomputable def qaC (Ae:List (List Int)):Nat->List Int
 |0=>[]
 |i+1=>qaC Ae i++[if nd Ae (i:Int)=[] then 1 else((nd Ae (i:Int)).map λz=>(qaC Ae i).getD z.toNat 0).sum]
noncomputable def cn (Ae:List (List Int))(z:Int):Int:=(qaC Ae (z.toNat+1)).getD z.toNat 0
def hd (p:List Int):Int:=p.headD 0
noncomputable def apF (Ae:List (List Int)):Nat->List Int->List (List Int)
 |0,p=>[p]
 |n+1,p=>if nd Ae (hd p)=[] then[p] else((nd Ae (hd p)).reverse.map λz=>apF Ae n (z::p)).flatten
noncomputable def aP (Ae:List (List Int))(p:List Int):List (List Int):=apF Ae ((hd p).toNat+1) p
structure POk (Ae:List (List Int))(p:List Int):Prop where
 ne:p≠[]
 h0:0<=hd p
 h1:hd p<(Ae.length:Int)
 len:(p.length:Int)+hd p<=(Ae.length:Int)
structure PWay (Ae:List (List Int))(work:Int)(fs st:List (List Int)):Prop where
 all:fs++(st.map (aP Ae)).flatten=aP Ae [work]
 ok:∀p∈st,POk Ae p
 fok:∀p∈fs,POk Ae p
end
noncomputable abbrev keyOf (s:Nat×Nat):List Key:=[E3 (s.1:Int),E3 (s.2:Int)]
structure NumP (rs:List Addr)(ss:List (Nat×Nat))(j:Nat)(ps:List (List Key×Addr×V)):Prop where
 keys:ps.map (·.1)=(ss.take j).map keyOf
 at_:∀(k:Nat) (s:Nat×Nat),k<j->ss[k]?=some s->∃a,ps[k]?=some (keyOf s,a,.int (k:Int))
def qQ1:Sp:=λvs H Q _=>∃i:Int,vs=[.int i]/\Q (.bl true) H
def qT0:Sp:=λvs H Q _=>∃i k:Int,vs=[.int i,.int k]/\0<=i/\i<k/\Q (.bl true) H
noncomputable def qZV (ins:List (Int×Int))(x:Int):Option Int:=(ins.find? λq=>decide (q.1=x)).map (·.2)
noncomputable def qcW (ins:List (Int×Int))(i:Nat):Nat:=((F6 i).filter λ(x:Nat)=>(qZV ins (x:Int)).isNone).length
noncomputable def numO (m:Nat)(ins:List (Int×Int))(x:Nat):Int:=match qZV ins (x:Int) with|some v=>v|none=>((m+qcW ins x:Nat):Int)
structure InsAt (H:Hp)(i:Addr)(ins:List (Int×Int)):Prop where
 at_:∃rs:List Addr,BareT H i (rs.map V.ref)/\Paired (λr (q:Int×Int)=>H r=some (.tup [.int q.1,.int q.2])) rs ins
 nodup:(ins.map (·.1)).Nodup
structure InsOk (m:Nat)(other:List (List Int))(k:Nat)(ins:List (Int×Int))(fs:List Int):Prop where
 st:∀q∈ins,(0<=q.1/\q.1<(k:Int))/\other[q.1.toNat]?=some []/\0<=q.2/\q.2<(m:Int)
 nd1:(ins.map (·.1)).Nodup
 nd2:(ins.map (·.2)).Nodup
 fr:fs.Nodup
 fin:∀x∈fs,(0<=x/\x<(m:Int))/\x∉ins.map (·.2)
 len:ins.length<=k
noncomputable def pm (m:Mv):Int:=if m.1 = "do" then 1 else -1
noncomputable def peak:Int->List Mv->Int
 |n,[]=>n
 |n,m::ms=>max n (peak (n+pm m) ms)
theorem Run.app {Ae:List (List Int)}{Aa:Int}{s t u:List Int}{a b:List Mv}(h:Run Ae Aa s a t)(k:Run Ae Aa t b u):Run Ae Aa s (a++b) u:=by
 induction h with
 |nil=>exact k
 |do_ h1 h2 h3 h4 h5 _ ih=>exact .do_ h1 h2 h3 h4 h5 (ih k)
 |clear h1 _ ih=>exact .clear h1 (ih k)
noncomputable def less (th s:List Int):List Int:=s.filter λx=>decide (x∉th)
noncomputable def qdC (th:List Int)(ms:List Mv):List Mv:=ms.filter λm=>decide (m.2∉th)
noncomputable def pbGo (num:Int->Int)(jn:Int->Bool)(pl:Int->List Mv):List Int->List Mv->List Mv
 |_,[]=>[]
 |th,m::ms=>if m.1 = "clear" then("clear",num m.2)::pbGo num jn pl (th.filter λx=>decide (x≠num m.2)) ms else(if jn m.2 then qdC th (pl (num m.2)) else[("do",num m.2)])++pbGo num jn pl (th++[num m.2]) ms
structure ThOk (n:Nat)(num:Int->Int)(th s:List Int):Prop where
 perm:th.Perm (s.map num)
 rise:Rise (n:Int) s
structure TopO (Ae:List (List Int))(zs:List Int):Prop where
 nodup:zs.Nodup
 in_:∀x∈zs,0<=x/\x<(Ae.length:Int)
 bef:∀(p:Nat) (o:Int),zs[p]?=some o->∀x∈nd Ae o,x∈zs.take p
 aft:∀(p:Nat) (o:Int),zs[p]?=some o->p+1<zs.length->later Ae zs (p+1) o
structure Begun (Ae:List (List Int))(some_ ord:List Int):Prop where
 nodup:ord.Nodup
 sub:∀x∈ord,x∈some_
 bef:∀(p:Nat) (o:Int),ord[p]?=some o->∀x∈nd Ae o,x∈ord.take p
def qT3:Sp:=λvs H Q _=>∃(a t:Addr) (Ae:List (List Int)) (Ad:List Int),vs=[.ref a,.ref t]/\NetAt H a Ae/\WFn Ae/\Ae.length<=60/\H t=some (.tup (Ad.map V.int))/\(∀x∈Ad,0<=x/\x<(Ae.length:Int))/\
 ∀l zs H',Same H H'->H l=none->H' l=some (.lst (zs.map V.int))->qAL Ae Ad zs->Q (.ref l) H'
noncomputable def ndOf (Ae:List (List Int))(Ad:List Int):List Int:=by
 classical
 exact if h:∃zs,qAL Ae Ad zs then A74 h else[]
noncomputable def qXV (Ae:List (List Int))(w:Int):List Mv:=qQJ Ae [w] (ndOf Ae [w])
def numF (m:Nat)(ins:List (Int×Int))(x:Int):Int:=numO m ins x.toNat
noncomputable def qdF (ins:List (Int×Int))(x:Int):Bool:=(qZV ins x).isSome
noncomputable def qdU (one:List (List Int))(ins:List (Int×Int))(ms:List Mv):List Mv:=pbGo (numF one.length ins) (qdF ins) (qXV one) [] ms
noncomputable def qd8 (one:List (List Int))(ins:List (Int×Int)):Int:=(topD (some 1) (ins.map λq=>peak 0 (qXV one q.2))).getD 0
noncomputable def qdT (one:List (List Int))(ins:List (Int×Int))(ms:List Mv):Int:=match ins with|[]=>peak 0 ms|_::_=>qd8 one ins+peak 0 ms-1
structure BehIn (H:Hp)(a b i l:Addr)(one other:List (List Int))(ins:List (Int×Int))(ms:List Mv)(st:List Int):Prop where
 gA:NetAt H a one
 wf1:WFn one
 gB:NetAt H b other
 wf2:WFn other
 gI:InsAt H i ins
 ok:∃fs,InsOk one.length other other.length ins fs
 plan:qRG H l ms
 mv:MvOk other ms
 len:ms.length<=400
 run:Run other (other.length:Int) [] ms st
 o1:1<=one.length
 o2:one.length<=60
 o3:1<=other.length
 o4:other.length<=60
theorem qWK {Ae:List (List Int)}{Ad:List Int}(a:WFn Ae)(r:Rise (Ae.length:Int) Ad){x:Int}(h:Nd Ae Ad x):0<=x/\x<(Ae.length:Int):=by
 induction h with
 |ask m=>exact r.in_ _ m
 |need _ e hy ih=>
  have b:=(a _ _ e).in_ _ hy;have c:=(A4.mp e).1
  lia
theorem qND {Ae:List (List Int)}{Ad:List Int}(b:WFn Ae)(r:Rise (Ae.length:Int) Ad):∃zs,qAL Ae Ad zs:=by
 classical
 refine⟨(qAV 0 Ae.length).filter λx=>decide (Nd Ae Ad x),⟨(qDE _ _).filter _,λx a=>?_⟩,λx=>?_⟩
 ·have:=mem_rangeI.mp (C9.mp a).1
  lia
 ·rw[C9,decide_eq_true_eq,mem_rangeI];exact⟨λh=>h.2,λh=>⟨qWK b r h,h⟩⟩
structure TwoIn (H:Hp)(a b i:Addr)(one other:List (List Int))(ins:List (Int×Int)):Prop where
 gA:NetAt H a one
 wf1:WFn one
 gB:NetAt H b other
 wf2:WFn other
 gI:InsAt H i ins
 ok:∃fs,InsOk one.length other other.length ins fs
 o1:1<=one.length
 o2:one.length<=40
 o3:1<=other.length
 o4:other.length<=7
theorem qaR {Ae:List (List Int)} {st:List Int} {Aa:Int} {Ac:Str} {b:Int} (c:Ac = "do"\/Ac = "clear") (e:wd Ae st Aa (Ac,b)=.non):(Ac = "do"->b∉st/\(∀y∈nd Ae b,y∈st)/\(st.length:Int)<Aa)/\(Ac = "clear"->b∈st):=by
 rcases c with d|d
 ·subst d;refine⟨λ_=>?_,λz=>absurd z.symm qAK⟩;have a:qF4 ((Ae[b.toNat]?).getD []) st Aa b=.non:=by
   have:=e;unfold wd qGL at this;rw[if_pos rfl] at this;exact this
  unfold qF4 at a
  split at a
  ·cases a
  rename_i hn
  split at a
  ·rename_i hall
   split at a
   ·cases a
   ·exact⟨hn,hall,by lia⟩
  ·cases a
 ·subst d;refine⟨λz=>absurd z qAK,λ_=>?_⟩;have a:qF5 st b=.non:=by
   have:=e;unfold wd qGL at this;rw[if_neg (show¬D3 "clear" = D3 "do" from qAK)] at this
   exact this
  unfold qF5 at a
  split at a
  ·rename_i hin;exact hin
  ·cases a
theorem qXH {n:Nat} {st a:List Int} {Ac:Str} {c:Int} (r:Rise (n:Int) st) (k:Ac = "do"\/Ac = "clear") (i:0<=c) (g:c<(n:Int)) (h:Ac = "do"->c∉st) (b:Beh st a Ac c):Rise (n:Int) a:=by
 rcases k with d|d
 ·obtain⟨f,j⟩:=b.1 d;refine⟨qDU j (f.nodup_iff.mpr (qHO r.nodup (h d))),λx e=>?_⟩;rcases A8.mp (f.mem_iff.mp e) with q|q
  ·exact r.in_ x q
  ·rw[A6.mp q];exact⟨i,g⟩
 ·rw[b.2 d];exact⟨r.up.filter _,λx e=>r.in_ x (C9.mp e).1⟩
structure Ord (Ae:List (List Int))(Ad os:List Int):Prop where
 nodup:os.Nodup
 in_:∀w∈os,0<=w/\w<(Ae.length:Int)
 has:∀(i:Nat) (w y:Int),os[i]?=some w->y∈nd Ae w->y∈os.take i
 used:∀(i:Nat) (w:Int),os[i]?=some w->w∈Ad\/later Ae os (i+1) w
 ask:∀x∈Ad,x∈os
section
variable{Ae:List (List Int)}{Ad os:List Int}
end
theorem qU6 {a b:List Int}(c:a.Nodup)(d:b.Nodup)(h:∀x∈a,x∈b):a.length<=b.length:=by
 have p:a.Perm (b.filter λx=>decide (x∈a)):=(m8 c (d.filter _)).mpr λx=>by
  rw[C9,decide_eq_true_eq];exact⟨λm=>⟨h x m,m⟩,λm=>m.2⟩
 have l:=p.length_eq;have f:=J2 (λx=>decide (x∈a)) b
 lia
structure Span (Ae:List (List Int))(Ad os:List Int)(K:Nat):Prop where
 near:∀(q r:Nat) (x v:Int),os[q]?=some x->os[r]?=some v->x∈nd Ae v->r<=q+K
 last:∀x∈Ad,∀q:Nat,os[q]?=some x->q+1=os.length
structure Told (Ae:List (List Int))(R:Int)(ms:List Mv):Prop where
 run:Run Ae R [] ms [(Ae.length:Int)-1]
 top:peak 0 ms=R
 ok:MvOk Ae ms
 once:(qEA ms).Perm (qAV 0 (Ae.length:Int))
 len:ms.length<=2*Ae.length
noncomputable def mskN (zs:List Int):Nat:=(zs.map λz=>2^z.toNat).sum
noncomputable def cntN (n b:Nat):Nat:=((F6 n).map λk=>b/2^k%2).sum
def clrb (b k:Nat):Nat:=b-2^k*(b/2^k%2)
noncomputable def nxt (Ae:List (List Int))(k:Nat):Nat:=mskN ((Ae[k]?).getD [])
def can (Ae:List (List Int))(Aa:Int)(b k:Nat):Prop:=(cntN Ae.length b:Int)<Aa/\k<Ae.length/\b &&& nxt Ae k=nxt Ae k
inductive Rm (Ae:List (List Int))(Aa:Int):Nat->Nat->Prop
 |zero:Rm Ae Aa 0 0
 |clr {m b k:Nat}:Rm Ae Aa m b->k<Ae.length->Rm Ae Aa m (clrb b k)
 |do_ {m b k:Nat}:Rm Ae Aa m b->can Ae Aa b k->Rm Ae Aa (m+1) (b ||| 2^k)
def Mn (Ae:List (List Int))(Aa:Int)(m b:Nat):Prop:=Rm Ae Aa m b/\∀m',m'<m->¬Rm Ae Aa m' b
theorem qaE (b k:Nat):clrb b k<=b:=Nat.sub_le _ _
theorem Rm.lt {Ae:List (List Int)}{Aa:Int}{m b:Nat}(h:Rm Ae Aa m b):b<2^Ae.length:=by
 induction h with
 |zero=>exact Nat.two_pow_pos _
 |clr _ _ ih=>exact R6 (qaE _ _) ih
 |do_ _ c ih=>exact Nat.or_lt_two_pow ih (A26 (by decide) c.2.1)
theorem Rm.mono {Ae:List (List Int)}{r a:Int}(h:r<=a){m b:Nat}(x:Rm Ae r m b):Rm Ae a m b:=by
 induction x with
 |zero=>exact .zero
 |clr _ k ih=>exact .clr ih k
 |do_ _ c ih=>exact .do_ ih ⟨Int.lt_of_lt_of_le c.1 h,c.2⟩
theorem qOI {α:Type}[DecidableEq α]:∀{l r:List α},l.Nodup->(∀x∈l,x∈r)->l.length<=r.length
 |[],r,_,_=>E8 _
 |a::l,r,nd,h=>by
  have nd':=O8.mp nd;have ha:=h a (E7 ..);have:=qOI (r:=r.erase a) nd'.2 λx hx=>(List.mem_erase_of_ne (λ(e:x=a)=>nd'.1 (e▸hx))).mpr (h x (B5 _ hx));rw[List.length_erase_of_mem ha] at this;have:0<r.length:=V4 ha;rw[D6]
  lia
theorem qDM {ks:List Nat}{n:Nat}(c:ks.Nodup)(h:∀b∈ks,b<n):ks.length<=n:=by
 have:=qOI (r:=F6 n) c λx a=>G1.mpr (h x a)
 rwa[W5] at this
theorem qHJ {ks:List Nat}{x:Nat}(f:ks.Nodup)(h:x∉ks):(ks++[x]).Nodup:=by
 rw[c8];exact⟨f,by simp,λa d b c e=>h (by rw[A6.mp c] at e;exact e▸d)⟩
structure FdC (Ae:List (List Int))(Aa:Int)(many:Nat)(ks:List Nat)(f:Nat->Nat):Prop where
 nd:ks.Nodup
 snd:∀b∈ks,f b<=many/\Mn Ae Aa (f b) b
 zero:0∈ks
 full:∀m,m<many->∀b,Rm Ae Aa m b->b∈ks
section
variable{Ae:List (List Int)}{Aa:Int}{many:Nat}{ks cl ly:List Nat}{f:Nat->Nat}{at_ wk:Nat}
theorem FdC.lt (h:FdC Ae Aa many ks f){b:Nat}(a:b∈ks):b<2^Ae.length:=(h.snd b a).2.1.lt
theorem FdC.len (h:FdC Ae Aa many ks f):ks.length<=2^Ae.length:=qDM h.nd λb a=>h.lt a
theorem FdC.le (h:FdC Ae Aa many ks f){m b:Nat}(a:b∈ks)(r:Rm Ae Aa m b):f b<=m:=by
 apply F0;intro z;exact(h.snd b a).2.2 m (by lia) r
def fset (f:Nat->Nat)(x v:Nat):Nat->Nat:=λy=>if y=x then v else f y
theorem qFG (f:Nat->Nat)(x v:Nat):fset f x v x=v:=if_pos rfl
theorem qa1 {f:Nat->Nat}{x v y:Nat}(h:y≠x):fset f x v y=f y:=if_neg h
theorem qFH {f:Nat->Nat}{x v y:Nat}{ks:List Nat}(h:y∈ks)(a:x∉ks):fset f x v y=f y:=qa1 λe=>a (by rw[<- e];exact h)
theorem FdC.add (h:FdC Ae Aa many ks f){x:Nat}(a:x∉ks)(r:Rm Ae Aa many x):FdC Ae Aa many (ks++[x]) (fset f x many):=by
 refine⟨qHJ h.nd a,λb hb=>?_,A8.mpr (.inl h.zero),λm c b e=>A8.mpr (.inl (h.full m c b e))⟩;rcases A8.mp hb with hb|hb
 ·rw[qFH hb a];exact h.snd b hb
 ·rw[A6.mp hb,qFG];exact⟨A7 _,r,λd c z=>a (h.full d c x z)⟩
structure A1 (Ae:List (List Int))(Aa:Int)(many:Nat)(ks:List Nat)(f:Nat->Nat)(cl:List Nat)(at_ wk:Nat):Prop where
 fd:FdC Ae Aa many ks f
 dos:∀m b k,m+1=many->Rm Ae Aa m b->can Ae Aa b k->b ||| 2^k∈ks
 clm:∀b,b∈cl↔b∈ks/\f b=many
 nd:cl.Nodup
 done:∀i b,cl[i]?=some b->i<at_->∀k,k<Ae.length->clrb b k∈ks
 dk:∀b,cl[at_]?=some b->∀k,k<wk->clrb b k∈ks
theorem A1.start:A1 Ae Aa 0 [0] (λ_=>0) [0] 0 0:=
 ⟨⟨by simp,λb a=>by rw[A6.mp a];exact⟨A7 _,.zero,λ_ z=>absurd z (G8 _)⟩,by simp,λm c=>absurd c (G8 _)⟩,λm b k e=>by lia,λb=>by simp,by simp,λi b _ z=>absurd z (G8 _),λb _ k z=>absurd z (G8 _)⟩
theorem A1.hit (h:A1 Ae Aa many ks f cl at_ wk){c:Nat}(d:cl[at_]?=some c)(i:clrb c wk∈ks):A1 Ae Aa many ks f cl at_ (wk+1):=by
 refine⟨h.fd,h.dos,h.clm,h.nd,h.done,λb a k g=>?_⟩;by_cases e:k=wk
 ·rw[d] at a;cases a;rw[e];exact i
 ·exact h.dk b a k (by lia)
theorem A1.add (h:A1 Ae Aa many ks f cl at_ wk){c:Nat}(n:cl[at_]?=some c)(t:wk<Ae.length)(j:clrb c wk∉ks):A1 Ae Aa many (ks++[clrb c wk]) (fset f (clrb c wk) many) (cl++[clrb c wk]) at_ (wk+1):=by
 have d:=(h.clm c).mp (B0 n);have q:Rm Ae Aa many c:=d.2▸(h.fd.snd c d.1).2.1;have g:∀{i b},i<=at_->(cl++[clrb c wk])[i]?=some b->cl[i]?=some b:=λ{i b} o e=>by
  have:=(A4.mp n).1
  rwa[G6 (by lia)] at e
 refine⟨h.fd.add j (.clr q t),λm b k p r c=>A8.mpr (.inl (h.dos m b k p r c)),λb=>?_,qHJ h.nd λz=>j ((h.clm _).mp z).1,λi b e o k a=>?_,λb e k a=>?_⟩
 ·rw[A8,A8,A6,h.clm b]
  constructor
  ·rintro(z|z)
   ·exact⟨.inl z.1,by rw[qFH z.1 j];exact z.2⟩
   ·exact⟨.inr z,by rw[z,qFG]⟩
  ·rintro⟨z|z,e⟩
   ·rw[qFH z j] at e;exact .inl ⟨z,e⟩
   ·exact .inr z
 ·exact A8.mpr (.inl (h.done i b (g (by lia) e) o k a))
 ·have l:=g (A7 _) e;by_cases s:k=wk
  ·rw[n] at l;cases l;rw[s];exact A8.mpr (.inr (A6.mpr rfl))
  ·exact A8.mpr (.inl (h.dk b l k (by lia)))
theorem A1.next (h:A1 Ae Aa many ks f cl at_ Ae.length):A1 Ae Aa many ks f cl (at_+1) 0:=by
 refine⟨h.fd,h.dos,h.clm,h.nd,λi b e d k a=>?_,λb _ k z=>absurd z (G8 _)⟩;by_cases c:i=at_
 ·rw[c] at e;exact h.dk b e k a
 ·exact h.done i b e (by lia) k a
theorem A1.len (h:A1 Ae Aa many ks f cl at_ wk):cl.length<=2^Ae.length:=qDM h.nd λb a=>h.fd.lt ((h.clm b).mp a).1
theorem A1.all (h:A1 Ae Aa many ks f cl at_ wk)(l:cl.length<=at_):∀m b,Rm Ae Aa m b->m<=many->b∈ks:=by
 intro m b r
 induction r with
 |zero=>exactλ_=>h.fd.zero
 |@clr m b k r hk ih=>
  intro d;have a:=ih d;by_cases e:f b=many
  ·obtain⟨i,j,g⟩:=L5 ((h.clm b).mpr ⟨a,e⟩);exact h.done i b (by rw[A3 j,g]) (by lia) k hk
  ·have:=(h.fd.snd b a);exact h.fd.full (f b) (by lia) _ (.clr this.2.1 hk)
 |@do_ m b k r c ih=>
  intro d;by_cases e:m+1=many
  ·exact h.dos m b k e r c
  ·exact h.fd.full (m+1) (by lia) _ (.do_ r c)
structure A2 (Ae:List (List Int))(Aa:Int)(many:Nat)(ks:List Nat)(f:Nat->Nat)(cl ly:List Nat)(at_ wk:Nat):Prop where
 fd:FdC Ae Aa (many+1) ks f
 clm:∀b,b∈cl↔b∈ks/\f b=many
 lym:∀b,b∈ly↔b∈ks/\f b=many+1
 nd:ly.Nodup
 done:∀i b,cl[i]?=some b->i<at_->∀k,can Ae Aa b k->b ||| 2^k∈ks
 dk:∀b,cl[at_]?=some b->∀k,k<wk->can Ae Aa b k->b ||| 2^k∈ks
theorem A1.two (h:A1 Ae Aa many ks f cl at_ wk)(c:cl.length<=at_):A2 Ae Aa many ks f cl [] 0 0:=by
 refine⟨⟨h.fd.nd,λb a=>⟨by have:=(h.fd.snd b a).1;lia,(h.fd.snd b a).2⟩,h.fd.zero,λm d b r=>h.all c m b r (by lia)⟩,h.clm,λb=>⟨λz=>absurd z (by simp),λz=>?_⟩,.nil,λi b _ z=>absurd z (G8 _),λb _ k z=>absurd z (G8 _)⟩
 have:=(h.fd.snd b z.1).1
 lia
theorem A2.hit (h:A2 Ae Aa many ks f cl ly at_ wk){c:Nat}(g:cl[at_]?=some c)(j:can Ae Aa c wk->c ||| 2^wk∈ks):A2 Ae Aa many ks f cl ly at_ (wk+1):=by
 refine⟨h.fd,h.clm,h.lym,h.nd,h.done,λb a k i d=>?_⟩;by_cases e:k=wk
 ·rw[g] at a;cases a;rw[e] at d ⊢;exact j d
 ·exact h.dk b a k (by lia) d
theorem A2.add (h:A2 Ae Aa many ks f cl ly at_ wk){c:Nat}(j:cl[at_]?=some c)(p:can Ae Aa c wk)(a:c ||| 2^wk∉ks):A2 Ae Aa many (ks++[c ||| 2^wk]) (fset f (c ||| 2^wk) (many+1)) cl (ly++[c ||| 2^wk]) at_ (wk+1):=by
 have d:=(h.clm c).mp (B0 j);have l:Rm Ae Aa many c:=d.2▸(h.fd.snd c d.1).2.1;refine⟨h.fd.add a (.do_ l p),λb=>?_,λb=>?_,qHJ h.nd λz=>a ((h.lym _).mp z).1,λi b e o k g=>A8.mpr (.inl (h.done i b e o k g)),λb e k n g=>?_⟩
 ·rw[h.clm b,A8,A6]
  constructor
  ·rintro⟨z,e⟩;exact⟨.inl z,by rw[qFH z a];exact e⟩
  ·rintro⟨z|z,e⟩
   ·rw[qFH z a] at e;exact⟨z,e⟩
   ·rw[z,qFG] at e
    lia
 ·rw[A8,A8,A6,h.lym b]
  constructor
  ·rintro(z|z)
   ·exact⟨.inl z.1,by rw[qFH z.1 a];exact z.2⟩
   ·exact⟨.inr z,by rw[z,qFG]⟩
  ·rintro⟨z|z,e⟩
   ·rw[qFH z a] at e;exact .inl ⟨z,e⟩
   ·exact .inr z
 ·by_cases m:k=wk
  ·rw[j] at e;cases e;rw[m];exact A8.mpr (.inr (A6.mpr rfl))
  ·exact A8.mpr (.inl (h.dk b e k (by lia) g))
theorem A2.next (h:A2 Ae Aa many ks f cl ly at_ Ae.length):A2 Ae Aa many ks f cl ly (at_+1) 0:=by
 refine⟨h.fd,h.clm,h.lym,h.nd,λi b e d k c=>?_,λb _ k z=>absurd z (G8 _)⟩;by_cases a:i=at_
 ·rw[a] at e;exact h.dk b e k c.2.1 c
 ·exact h.done i b e (by lia) k c
theorem A2.skip (h:A2 Ae Aa many ks f cl ly at_ wk){c:Nat}(g:cl[at_]?=some c)(j:¬(cntN Ae.length c:Int)<Aa):A2 Ae Aa many ks f cl ly (at_+1) 0:=by
 refine⟨h.fd,h.clm,h.lym,h.nd,λi b e l k a=>?_,λb _ k z=>absurd z (G8 _)⟩;by_cases d:i=at_
 ·rw[d,g] at e;cases e;exact absurd a.1 j
 ·exact h.done i b e (by lia) k a
theorem A2.one (h:A2 Ae Aa many ks f cl ly at_ wk)(o:cl.length<=at_):A1 Ae Aa (many+1) ks f ly 0 0:=by
 refine⟨h.fd,λm b k e r c=>?_,h.lym,h.nd,λi b _ z=>absurd z (G8 _),λb _ k z=>absurd z (G8 _)⟩;have j:m=many:=by lia
 subst j;have a:=h.fd.full m (by lia) b r
 have g:=h.fd.le a r;by_cases l:f b=m
 ·obtain⟨i,n,d⟩:=L5 ((h.clm b).mpr ⟨a,l⟩);exact h.done i b (by rw[A3 n,d]) (by lia) k c
 ·exact h.fd.full (f b+1) (by lia) _ (.do_ (h.fd.snd b a).2.1 c)
structure Come (Ae:List (List Int))(Aa:Int)(ks:List Nat)(f:Nat->Nat):Prop where
 nd:ks.Nodup
 snd:∀b∈ks,Mn Ae Aa (f b) b
 all:∀m b,Rm Ae Aa m b->b∈ks
theorem A1.come (h:A1 Ae Aa many ks f [] at_ wk):Come Ae Aa ks f:=by
 have d:∀b∈ks,f b<many:=λb a=>by
  have g:=(h.fd.snd b a).1;have i:f b≠many:=λe=>nomatch(h.clm b).mpr ⟨a,e⟩
  lia
 refine⟨h.fd.nd,λb a=>(h.fd.snd b a).2,λm b r=>?_⟩
 induction r with
 |zero=>exact h.fd.zero
 |@clr m b k r hk ih=>exact h.fd.full (f b) (d b ih) _ (.clr (h.fd.snd b ih).2.1 hk)
 |@do_ m b k r c ih=>
  have:=d b ih;by_cases e:f b+1=many
  ·exact h.dos (f b) b k e (h.fd.snd b ih).2.1 c
  ·exact h.fd.full (f b+1) (by lia) _ (.do_ (h.fd.snd b ih).2.1 c)
end
noncomputable def kvN (ks:List Nat)(f:Nat->Nat):List (Key×V):=ks.map λ(b:Nat)=>((E3 (b:Int):Key),V.int (f b:Int))
theorem qM3 (ks:List Nat)(f:Nat->Nat):(kvN ks f).length=ks.length:=by simp[kvN]
theorem qPC (ks:List Nat)(f:Nat->Nat)(x:Nat):valV (kvN ks f) (E3 (x:Int))=if x∈ks then some (.int (f x:Int)) else none:=by
 induction ks with
 |nil=>rfl
 |cons b ks ih=>
  show((((E3 (b:Int):Key),V.int (f b:Int))::kvN ks f).find? λc=>decide (c.1=E3 (x:Int))).map (·.2)=_;rw[T9];by_cases e:b=x
  ·subst e;simp
  ·have:¬((E3 (b:Int):Key)=E3 (x:Int)):=λz=>e (by have:=Z9 z;lia)
   rw[decide_eq_false this];show valV (kvN ks f) (E3 (x:Int))=_;rw[ih];have a:x≠b:=J3 e;simp[a]
theorem qUC {ks:List Nat}{f:Nat->Nat}{x v:Nat}(h:x∉ks):putK (kvN ks f) (E3 (x:Int)) (.int (v:Int))=kvN (ks++[x]) (fset f x v):=by
 rw[qQG _ (by rw[qPC,if_neg h])]
 unfold kvN;rw[B3];congr 1
 ·exact R1 λb a=>by rw[qFH a h]
 ·simp[qFG]
theorem qEE (a b:Nat):M9 (a:Int) (b:Int)=((a &&& b:Nat):Int):=by
 unfold M9;rw[decide_eq_true (R5 a),decide_eq_true (R5 b)]
 rfl
theorem qVO (a b:Nat):A37 (a:Int) (b:Int)=((a ||| b:Nat):Int):=by
 have d:∀c:Nat,T1 (c:Int)=A00 c:=λc=>by unfold T1;lia
 have f:∀c:Nat,decide (0<=A00 c)=false:=λc=>decide_eq_false (by lia)
 have e:∀c:Nat,T1 (A00 c)=(c:Int):=λc=>by unfold T1;lia
 unfold A37 M9;rw[d,d,f,f];show T1 (T1 (((T1 (A00 a)).toNat ||| (T1 (A00 b)).toNat:Nat)))=_;rw[e,e,d,e]
 rfl
theorem qYZ (a k:Nat):(a:Int)/2^k=((a/2^k:Nat):Int):=by
 rw[Int.natCast_ediv,A85]
 rfl
theorem qFQ (a k:Nat):M9 ((a:Int)/2^k) 1=((a/2^k%2:Nat):Int):=by
 rw[qYZ,show(1:Int)=((1:Nat):Int) from rfl,qEE,Nat.and_one_is_mod]
theorem qLS (k:Nat):(1:Int)*2^k=((2^k:Nat):Int):=by
 rw[Int.one_mul,A85]
 rfl
theorem qaF (a k:Nat):(a:Int)-(1*2^k)*M9 ((a:Int)/2^k) 1=((clrb a k:Nat):Int):=by
 rw[qFQ,qLS,<- Int.natCast_mul];unfold clrb;have b:a/2^k%2<=a/2^k:=Nat.mod_le _ _;have c:2^k*(a/2^k%2)<=a:=F3 (Nat.mul_le_mul_left _ b) (Nat.mul_div_le _ _)
 lia
noncomputable def qIA (ws Ad:List Int):Nat:=mskN ((qAV 0 ws.length).filter λp=>decide ((ws[p.toNat]?).getD 0∈Ad))
def qHD (Ae:List (List Int))(ws Ad:List Int)(r:Int):Prop:=∃m b,Rm (qBB Ae ws) r m b/\b &&& qIA ws Ad=qIA ws Ad
def LeastR (Ae:List (List Int))(ws Ad:List Int)(r:Int):Prop:=1<=r/\qHD Ae ws Ad r/\∀r',1<=r'->r'<r->¬qHD Ae ws Ad r'
theorem qML (g:Nat->Nat):∀l:List Nat,(l.map λk=>((g k:Nat):Int)).sum=(((l.map g).sum:Nat):Int)
 |[]=>rfl
 |k::l=>by rw[D0,k9,qML g l,D0,k9];lia
theorem qP4:∀zs:List Int,(zs.map λz=>(1:Int)*2^z.toNat).sum=((mskN zs:Nat):Int)
 |[]=>rfl
 |z::l=>by
  have:=qP4 l;unfold mskN at this ⊢;rw[D0,k9,this,D0,k9,qLS]
  lia
def natI (l:List Nat):List Int:=l.map λ(b:Nat)=>(b:Int)
theorem qJI (l:List Nat)(b:Nat):natI (l++[b])=natI l++[(b:Int)]:=by simp[natI]
theorem qEM (l:List Nat):(natI l).length=l.length:=by simp[natI]
theorem qQW {l:List Nat}{i:Nat}{b:Nat}(h:l[i]?=some b):(natI l)[i]?=some (b:Int):=by unfold natI;rw[B6,h];rfl
theorem qTY {l:List Nat}{i:Nat}{z:Int}(h:(natI l)[i]?=some z):∃b:Nat,l[i]?=some b/\z=(b:Int):=by
 unfold natI at h;rw[B6] at h;cases e:l[i]? with
 |none=>rw[e] at h;cases h
 |some b=>rw[e] at h;cases h;exact⟨b,rfl,rfl⟩
def qXQ:Sp:=λvs H Q _=>∃(a:Addr) (Ae:List (List Int)) (Aa:Int),vs=[.ref a,.int Aa]/\NetAt H a Ae/\WFn Ae/\Ae.length<=12/\
 ∀(d:Addr) (o:Obj) (ks:List Nat) (f:Nat->Nat) H',Same H H'->H d=none->H' d=some (.frz o (.dK (kvN ks f)))->Come Ae Aa ks f->Q (.ref d) H'
def qXR:Sp:=λvs H Q _=>∃(l:Addr) (ws:List Int),vs=[.ref l]/\H l=some (.lst (ws.map V.int))/\(∀x∈ws,0<=x/\x<1000)/\ws.length<=1000/\∀H',Same H H'->Q (.int ((mskN ws:Nat):Int)) H'
theorem qU1 {k:Nat}:∀{st:List Int},(∀x∈st,(k:Int)<=x)->∃a,mskN st=2^k*a
 |[],_=>⟨0,rfl⟩
 |z::st,h=>by
  obtain⟨a,ha⟩:=qU1 (st:=st) λx hx=>h x (B5 _ hx);have hz:=h z (by simp)
  refine⟨2^(z.toNat-k)+a,?_⟩;show 2^z.toNat+mskN st=_;rw[ha,Nat.mul_add,<- Nat.pow_add,show k+(z.toNat-k)=z.toNat by lia]
theorem qLZ:∀{st:List Int},st.Pairwise (·<·)->(∀x∈st,0<=x)->∀j:Nat,(mskN st).testBit j=decide ((j:Int)∈st)
 |[],_,_,j=>by show(0:Nat).testBit j=_;simp
 |z::st,up,nn,j=>by
  have up':=P0.mp up;have hz:=nn z (by simp)
  obtain⟨a,ha⟩:=qU1 (k:=z.toNat+1) (st:=st) λx hx=>by have:=up'.1 x hx;lia
  have ih:=qLZ up'.2 (λx hx=>nn x (B5 _ hx)) j;have e:mskN (z::st)=2^(z.toNat+1)*a+2^z.toNat:=by show 2^z.toNat+mskN st=_;rw[ha,Nat.add_comm]
  rw[e,Nat.testBit_two_pow_mul_add a (A26 (by decide) (by lia)) j]
  by_cases c:j<z.toNat+1
  ·rw[if_pos c,R3];refine decide_eq_decide.mpr ⟨λh=>?_,λh=>?_⟩
   ·rw[C0];left;lia
   ·rcases C0.mp h with h|h
    ·lia
    ·have:=up'.1 _ h;lia
  ·rw[if_neg c];rw[ha,Nat.testBit_two_pow_mul] at ih;have:decide (j>=z.toNat+1)=true:=decide_eq_true (by lia)
   rw[this,j8] at ih;rw[ih];refine decide_eq_decide.mpr ⟨λh=>B5 _ h,λh=>?_⟩;rcases C0.mp h with h|h
   ·lia
   ·exact h
theorem Rise.nn {n:Int}{st:List Int}(r:Rise n st):∀x∈st,0<=x:=λx a=>(r.in_ x a).1
theorem qAX {n:Int}{st:List Int}(r:Rise n st)(j:Nat):(mskN st).testBit j=decide ((j:Int)∈st):=qLZ r.up r.nn j
theorem qP5 {n:Int}{st a:List Int}(r:Rise n st)(c:Rise n a)(h:mskN st=mskN a):st=a:=by
 refine qHH r.up c.up λx=>?_
 constructor
 ·intro b;have e:=qAX r x.toNat;rw[h,qAX c x.toNat] at e;have d:=r.nn x b;rw[show((x.toNat:Nat):Int)=x by lia,decide_eq_true b] at e
  exact of_decide_eq_true e
 ·intro b;have e:=qAX r x.toNat;rw[h,qAX c x.toNat] at e;have d:=c.nn x b;rw[show((x.toNat:Nat):Int)=x by lia,decide_eq_true b] at e
  exact of_decide_eq_true e.symm
theorem qMP (b k:Nat):b/2^k%2=if b.testBit k=true then 1 else 0:=by
 rw[Nat.testBit_eq_decide_div_mod_eq];by_cases h:b/2^k%2=1
 ·rw[decide_eq_true h,if_pos rfl,h]
 ·rw[decide_eq_false h,if_neg B1]
  lia
theorem qWM {a b:List Int}(h:a.Perm b):mskN a=mskN b:=by
 induction h with
 |nil=>rfl
 |cons x _ ih=>show 2^x.toNat+mskN _=2^x.toNat+mskN _;rw[ih]
 |swap x y l=>show 2^y.toNat+(2^x.toNat+mskN l)=2^x.toNat+(2^y.toNat+mskN l);lia
 |trans _ _ h1 h2=>exact h1.trans h2
theorem qJW {st:List Int}(a:st.Nodup){k:Int}(h:k∈st):st.Perm (k::st.filter λx=>decide (x≠k)):=by
 have e:(st.filter λx=>decide (x≠k))=st.erase k:=by
  rw[a.erase_eq_filter];exact w5 λx _=>by simp[bne,BEq.beq]
 rw[e];exact List.perm_cons_erase h
theorem qMK {n:Int}{st:List Int}(r:Rise n st)(k:Nat):clrb (mskN st) k=mskN (st.filter λx=>decide (x≠(k:Int))):=by
 unfold clrb;rw[qMP,qAX r];by_cases h:(k:Int)∈st
 ·rw[decide_eq_true h,if_pos rfl,Nat.mul_one,qWM (qJW r.nodup h)];show 2^((k:Int)).toNat+mskN _-_=_;rw[B8,Nat.add_sub_cancel_left]
 ·rw[decide_eq_false h,if_neg B1,Nat.mul_zero,A65];congr 1;exact(X9.mpr λx a=>by rw[decide_eq_true_eq];intro e;exact h (e▸a)).symm
theorem qGJ {n:Int}{st ns:List Int}(r:Rise n st)(a:Rise n ns):mskN st &&& mskN ns=mskN ns↔∀y∈ns,y∈st:=by
 constructor
 ·intro h y d;have e:=congrArg (λb=>Nat.testBit b y.toNat) h;simp only[Z1,qAX r,qAX a] at e;have f:=a.nn y d;rw[show((y.toNat:Nat):Int)=y by lia,decide_eq_true d,B05] at e
  exact of_decide_eq_true e
 ·intro h;refine P2 λj=>?_;rw[Z1,qAX r,qAX a];by_cases c:(j:Int)∈ns
  ·rw[decide_eq_true c,decide_eq_true (h _ c)];rfl
  ·rw[decide_eq_false c,d0]
noncomputable def insL:List Int->Int->List Int
 |[],k=>[k]
 |x::r,k=>if k<x then k::x::r else x::insL r k
theorem qE7:∀(st:List Int) (k:Int),(insL st k).Perm (st++[k])
 |[],k=>.refl _
 |x::r,k=>by
  unfold insL
  split
  ·exact(g8 (l₁:=x::r) (l₂:=[k])).symm
  ·exact(qE7 r k).cons x
theorem mem_insL {st:List Int}{k x:Int}:x∈insL st k↔x∈st\/x=k:=by
 rw[(qE7 st k).mem_iff,A8,A6]
theorem qPE:∀{st:List Int} {k:Int},st.Pairwise (·<=·)->(insL st k).Pairwise (·<=·)
 |[],k,_=>by simp[insL]
 |x::r,k,h=>by
  have h':=P0.mp h;unfold insL
  split
  ·rename_i c
   refine P0.mpr ⟨λy hy=>?_,h⟩;rcases C0.mp hy with e|e
   ·lia
   ·have:=h'.1 y e;lia
  ·rename_i c
   refine P0.mpr ⟨λy hy=>?_,qPE h'.2⟩;rcases mem_insL.mp hy with e|e
   ·exact h'.1 y e
   ·lia
theorem qR1 (st:List Int)(k:Int):(insL st k).length=st.length+1:=by rw[(qE7 st k).length_eq,A9];rfl
noncomputable def behL (st:List Int) (m:Mv):List Int:=if m.1=D3 "do" then insL st m.2 else st.filter λx=>decide (x≠m.2)
theorem qRF {n:Int} {st:List Int} {m:Mv} (r:Rise n st) (a:m.1 = "do"\/m.1 = "clear"):Beh st (behL st m) m.1 m.2:=by
 refine⟨λe=>?_,λe=>?_⟩
 ·unfold behL;rw[if_pos e];exact⟨qE7 _ _,qPE (r.up.imp λh=>n6 h)⟩
 ·unfold behL;rw[if_neg (λz=>by rw[e] at z;exact qAK z)]
theorem qYG {n:Int} {st a:List Int} {m:Mv} (r:Rise n st) (b:m.1 = "do"\/m.1 = "clear") (h:Beh st a m.1 m.2):a=behL st m:=Beh.one b h (qRF r b)
theorem qXZ {n:Int}{st:List Int}(r:Rise n st){k:Nat}(b:(k:Int)∉st)(a:Rise n (insL st (k:Int))):mskN st ||| 2^k=mskN (insL st (k:Int)):=by
 refine P2 λj=>?_;rw[d6,qAX r,qAX a,R3,J4,P9,decide_eq_true_eq,decide_eq_true_eq,decide_eq_true_eq,mem_insL]
 constructor
 ·rintro(h|h)
  ·exact .inl h
  ·exact .inr (by lia)
 ·rintro(h|h)
  ·exact .inl h
  ·exact .inr (by lia)
theorem qJ0 (p:Nat->Bool):∀l:List Nat,(l.map λk=>if p k=true then 1 else 0).sum=(l.filter p).length
 |[]=>rfl
 |k::l=>by
  rw[D0,k9,qJ0 p l,L8];cases p k
  ·simp
  ·simp;lia
theorem qMJ {n:Nat}{st:List Int}(r:Rise (n:Int) st):cntN n (mskN st)=st.length:=by
 unfold cntN;have e:((F6 n).map λk=>mskN st/2^k%2)=(F6 n).map λ(k:Nat)=>if(decide ((k:Int)∈st))=true then 1 else 0:=R1 λk _=>by rw[qMP,qAX r]
 rw[e,qJ0 (λ(k:Nat)=>decide ((k:Int)∈st))];have b:(((F6 n).filter λ(k:Nat)=>decide ((k:Int)∈st)).map λ(k:Nat)=>(k:Int))=st:=by
  refine qHH ?_ r.up λx=>?_
  ·refine O5.mpr ?_;exact(A05.filter _).imp λh=>by lia
  ·rw[D8]
   constructor
   ·rintro⟨k,c,rfl⟩;exact of_decide_eq_true (C9.mp c).2
   ·intro a;have d:=r.in_ x a;exact⟨x.toNat,C9.mpr ⟨G1.mpr (by lia),decide_eq_true (by rw[show((x.toNat:Nat):Int)=x by lia];exact a)⟩,by lia⟩
 have:=congrArg U4 b
 rwa[A0] at this
section
variable{Ae:List (List Int)}{Aa:Int}
theorem due_iff {st:List Int} {m:Mv}:m∈qCW Ae st Aa↔((m.1 = "do"\/m.1 = "clear")/\0<=m.2/\m.2<(Ae.length:Int))/\(m.1 = "do"->m.2∉st/\(∀y∈nd Ae m.2,y∈st)/\(st.length:Int)<Aa)/\(m.1 = "clear"->m.2∈st):=by
 unfold qCW;rw[C9,decide_eq_true_eq]
 constructor
 ·rintro⟨g,d⟩;have a:=qR6 g;exact⟨a,qaR a.1 d⟩
 ·rintro⟨⟨g,d,h⟩,k,j⟩;obtain⟨i,f⟩:=m;refine⟨?_,?_⟩
  ·unfold qMC qJJ;rw[A8,D8,D8];rcases g with e|e
   ·exact .inl ⟨f.toNat,G1.mpr (by dsimp only at d h;lia),by dsimp only at e d ⊢;rw[e];congr 1;lia⟩
   ·exact .inr ⟨f.toNat,G1.mpr (by dsimp only at d h;lia),by dsimp only at e d ⊢;rw[e];congr 1;lia⟩
  ·show qGL _ st Aa i f=.non;unfold qGL;rcases g with e|e
   ·obtain⟨a,b,c⟩:=k e;dsimp only at e;rw[if_pos e];unfold qF4;rw[if_neg a,if_pos (show∀y∈(Ae[f.toNat]?).getD [],y∈st from b),if_neg (by lia)]
   ·have a:=j e;dsimp only at e;rw[if_neg (λz=>by rw[e] at z;exact qAK z)]
    unfold qF5;rw[if_pos a]
inductive Pt (Ae:List (List Int))(Aa:Int):Nat->List Int->Prop
 |zero:Pt Ae Aa 0 []
 |step {t:Nat} {st:List Int} {m:Mv}:Pt Ae Aa t st->m∈qCW Ae st Aa->Pt Ae Aa (t+1) (behL st m)
theorem Pt.rise {t:Nat}{st:List Int}(h:Pt Ae Aa t st):Rise (Ae.length:Int) st:=by
 induction h with
 |zero=>exact .nil
 |step _ hm ih=>
  obtain⟨⟨a,b,c⟩,d,e⟩:=due_iff.mp hm;exact qXH ih a b c (λz=>(d z).1) (qRF ih a)
theorem qHX {st:List Int} (r:Rise (Ae.length:Int) st) {m:Mv} (f:m∈qCW Ae st Aa):(m.1 = "do"/\(behL st m).length=st.length+1)\/(m.1 = "clear"/\(behL st m).length+1=st.length):=by
 obtain⟨⟨a,b,c⟩,d,e⟩:=due_iff.mp f;rcases a with a|a
 ·refine .inl ⟨a,?_⟩;unfold behL;rw[if_pos a,qR1]
 ·refine .inr ⟨a,?_⟩;unfold behL;rw[if_neg (λz=>by rw[a] at z;exact qAK z)]
  have:=(qJW r.nodup (e a)).length_eq;rw[D6] at this
  lia
theorem qP3 (a:WFn Ae){w:Int}(h:w<(Ae.length:Int)):Rise (Ae.length:Int) (nd Ae w):=by
 by_cases b:0<=w
 ·exact(qGW a w.toNat).mono (by lia)
 ·have:=qGW a w.toNat;rw[show w.toNat=0 by lia] at this
  unfold nd;rw[show w.toNat=0 by lia]
  exact this.mono (by lia)
theorem Pt.bits (q:WFn Ae){t:Nat}{st:List Int}(h:Pt Ae Aa t st):∃m,2*m=t+st.length/\Rm Ae Aa m (mskN st):=by
 induction h with
 |zero=>exact⟨0,rfl,.zero⟩
 |@step t st m h hm ih=>
  obtain⟨d,e,R⟩:=ih;have r:=h.rise;have i:=(Pt.step h hm).rise;obtain⟨⟨a,b,c⟩,s,u⟩:=due_iff.mp hm;have f:((m.2.toNat:Nat):Int)=m.2:=by lia
  rcases qHX r hm with⟨w,l⟩|⟨w,l⟩
  ·refine⟨d+1,by lia,?_⟩
   obtain⟨o,j,n⟩:=s w;have g:behL st m=insL st m.2:=by unfold behL;rw[if_pos w]
   rw[g] at i ⊢;have:=qXZ (k:=m.2.toNat) r (by rw[f];exact o) (by rw[f];exact i)
   rw[f] at this;rw[<- this];refine .do_ R ⟨by rw[qMJ r];exact n,by lia,?_⟩
   have p:Rise (Ae.length:Int) (nd Ae m.2):=qP3 q c;exact(qGJ r p).mpr j
  ·refine⟨d,by lia,?_⟩
   have g:behL st m=st.filter λx=>decide (x≠m.2):=by unfold behL;rw[if_neg (λz=>by rw[w] at z;exact qAK z)]
   rw[g];have:=qMK r m.2.toNat;rw[f] at this;rw[<- this];exact .clr R (by lia)
theorem qZE {b k:Nat}(h:b.testBit k=true):b ||| 2^k=b:=by
 refine P2 λj=>?_;rw[d6,R3];by_cases e:k=j
 ·subst e;simp[h]
 ·simp[e]
theorem Rm.path (o:WFn Ae){m b:Nat}(h:Rm Ae Aa m b):∃st t,b=mskN st/\Pt Ae Aa t st/\t+st.length<=2*m:=by
 induction h with
 |zero=>exact⟨[],0,rfl,.zero,by simp⟩
 |@clr m b k _ hk ih=>
  obtain⟨st,t,rfl,P,l⟩:=ih;have r:=P.rise;by_cases c:(k:Int)∈st
  ·have a:((D3 "clear",(k:Int)):Mv)∈qCW Ae st Aa:=due_iff.mpr ⟨⟨.inr rfl,by show(0:Int)<=(k:Int);lia,by show(k:Int)<_;lia⟩,λz=>absurd z qAK,λ_=>c⟩
   refine⟨_,t+1,?_,.step P a,?_⟩
   ·rw[qMK r];unfold behL;rw[if_neg qAK]
   ·rcases qHX r a with⟨w,_⟩|⟨_,u⟩
    ·exact absurd w qAK
    ·lia
  ·refine⟨st,t,?_,P,l⟩;rw[qMK r];congr 1;exact X9.mpr λx q=>by rw[decide_eq_true_eq];intro e;exact c (e▸q)
 |@do_ m b k _ hc ih=>
  obtain⟨st,t,rfl,P,l⟩:=ih;have r:=P.rise;by_cases c:(k:Int)∈st
  ·exact⟨st,t,qZE (by rw[qAX r];exact decide_eq_true c),P,by lia⟩
  ·obtain⟨j,s,i⟩:=hc;rw[qMJ r] at j;have p:Rise (Ae.length:Int) (nd Ae (k:Int)):=qP3 o (by lia)
   have n:nxt Ae k=mskN (nd Ae (k:Int)):=by unfold nxt nd;rw[B8]
   rw[n] at i;have a:((D3 "do",(k:Int)):Mv)∈qCW Ae st Aa:=due_iff.mpr ⟨⟨.inl rfl,by show(0:Int)<=(k:Int);lia,by show(k:Int)<_;lia⟩,λ_=>⟨c,(qGJ r p).mp i,j⟩,λz=>absurd z.symm qAK⟩
   have g:=Pt.step P a;have f:behL st ((D3 "do",(k:Int)):Mv)=insL st (k:Int):=by unfold behL;rw[if_pos rfl]
   refine⟨_,t+1,?_,g,?_⟩
   ·have d:=g.rise;rw[f] at d ⊢;exact qXZ r c d
   ·rw[f,qR1]
    lia
def Mt (Ae:List (List Int))(Aa:Int)(t:Nat)(st:List Int):Prop:=Pt Ae Aa t st/\∀u,u<t->¬Pt Ae Aa u st
theorem Mt.one {t u:Nat}{st:List Int}(h:Mt Ae Aa t st)(h':Mt Ae Aa u st):t=u:=by
 rcases c6 t u with c|c|c
 ·exact absurd h.1 (h'.2 t c)
 ·exact c
 ·exact absurd h'.1 (h.2 u c)
structure BF (Ae:List (List Int))(Aa:Int)(t:Nat)(ks due ly:List (List Int))(f:List Int->Nat)(i k:Nat):Prop where
 nd:ks.Nodup
 snd:∀s∈ks,∃u,u<=t+1/\Mt Ae Aa u s/\2*f s=u+s.length
 full:∀u s,u<=t->Pt Ae Aa u s->s∈ks
 duem:∀s,s∈due↔Mt Ae Aa t s
 lym:∀s,s∈ly↔s∈ks/\Mt Ae Aa (t+1) s
 done:∀j s,due[j]?=some s->j<i->∀m∈qCW Ae s Aa,behL s m∈ks
 dk:∀s,due[i]?=some s->∀m∈(qCW Ae s Aa).take k,behL s m∈ks
theorem BF.start:BF Ae Aa 0 [[]] [[]] [] (λ_=>0) 0 0:=by
 have z:∀s,Pt Ae Aa 0 s->s=[]:=λs h=>by cases h;rfl
 have a:Mt Ae Aa 0 []:=⟨.zero,λu b=>absurd b (G8 _)⟩;refine⟨by simp,λs f=>?_,λu s b p=>?_,λs=>?_,λs=>?_,λj s _ d=>absurd d (G8 _),λs _ m c=>by simp at c⟩
 ·rw[A6.mp f];exact⟨0,by lia,a,rfl⟩
 ·have:u=0:=by lia
  subst this;rw[z s p];simp
 ·rw[A6];exact⟨λe=>e▸a,λh=>z s h.1⟩
 ·constructor
  ·intro h;cases h
  ·rintro⟨h,m⟩;rw[A6.mp h] at m;exact absurd (Mt.one m a) (by lia)
section
variable{t:Nat}{ks due ly:List (List Int)}{f:List Int->Nat}{i k:Nat}
theorem BF.hit (h:BF Ae Aa t ks due ly f i k){s:List Int}{m:Mv}(b:due[i]?=some s)(d:(qCW Ae s Aa)[k]?=some m)(g:behL s m∈ks):BF Ae Aa t ks due ly f i (k+1):=by
 refine⟨h.nd,h.snd,h.full,h.duem,h.lym,h.done,λj e c a=>?_⟩;rw[b] at e;cases e;rw[C5,d,C6,A8,A6] at a;rcases a with z|z
 ·exact h.dk s b c z
 ·rw[z];exact g
noncomputable def qIH (f:List Int->Nat)(x:List Int)(v:Nat):List Int->Nat:=λy=>if y=x then v else f y
theorem qL0 (f:List Int->Nat)(x:List Int)(v:Nat):qIH f x v x=v:=if_pos rfl
theorem qIR {f:List Int->Nat}{x y:List Int}{v:Nat}{ks:List (List Int)}(h:y∈ks)(a:x∉ks):qIH f x v y=f y:=if_neg λe=>a (by rw[<- e];exact h)
theorem qJ5 {ks:List (List Int)}{x:List Int}(f:ks.Nodup)(h:x∉ks):(ks++[x]).Nodup:=by
 rw[c8];exact⟨f,by simp,λa d b c e=>h (by rw[A6.mp c] at e;exact e▸d)⟩
theorem BF.val (h:BF Ae Aa t ks due ly f i k){s:List Int}(b:s∈due):s∈ks/\2*f s=t+s.length:=by
 have m:=(h.duem s).mp b;have a:=h.full t s (A7 _) m.1;obtain⟨u,_,c,e⟩:=h.snd s a;rw[Mt.one c m] at e;exact⟨a,e⟩
theorem BF.add (h:BF Ae Aa t ks due ly f i k){s:List Int}{m:Mv}(d:due[i]?=some s)(o:(qCW Ae s Aa)[k]?=some m)(g:behL s m∉ks):
  BF Ae Aa t (ks++[behL s m]) due (ly++[behL s m]) (qIH f (behL s m) (f s+if m.1=D3 "do" then 1 else 0)) i (k+1):=by
 have b:=B0 d;have q:=(h.duem s).mp b;obtain⟨a0,ev⟩:=h.val b;have n:=B0 o;have r:Mt Ae Aa (t+1) (behL s m):=⟨.step q.1 n,λu v p=>g (h.full u _ (by lia) p)⟩
 refine⟨qJ5 h.nd g,λx y=>?_,λu x v p=>A8.mpr (.inl (h.full u x v p)),h.duem,λx=>?_,λj x e hj c a=>A8.mpr (.inl (h.done j x e hj c a)),λx e c a=>?_⟩
 ·rcases A8.mp y with z|z
  ·rw[qIR z g];exact h.snd x z
  ·rw[A6.mp z,qL0];refine⟨t+1,A7 _,r,?_⟩;rcases qHX q.1.rise n with⟨w,l⟩|⟨w,l⟩
   ·rw[if_pos w];lia
   ·rw[if_neg (λz=>by rw[w] at z;exact qAK z)];lia
 ·rw[A8,A8,A6,h.lym x]
  constructor
  ·rintro(z|z)
   ·exact⟨.inl z.1,z.2⟩
   ·exact⟨.inr z,z▸r⟩
  ·rintro⟨z|z,e⟩
   ·exact .inl ⟨z,e⟩
   ·exact .inr z
 ·rw[d] at e;cases e;rw[C5,o,C6,A8,A6] at a;rcases a with z|z
  ·exact A8.mpr (.inl (h.dk s d c z))
  ·rw[z];simp
theorem BF.next (h:BF Ae Aa t ks due ly f i k){s:List Int}(b:due[i]?=some s)(d:(qCW Ae s Aa).length<=k):BF Ae Aa t ks due ly f (i+1) 0:=by
 refine⟨h.nd,h.snd,h.full,h.duem,h.lym,λj x e g m a=>?_,λs _ m a=>by simp at a⟩
 by_cases c:j=i
 ·subst c;rw[b] at e;cases e;exact h.dk s b m (by rw[C7 d];exact a)
 ·exact h.done j x e (by lia) m a
theorem BF.level (h:BF Ae Aa t ks due ly f i k)(hi:due.length<=i):BF Ae Aa (t+1) ks ly [] f 0 0:=by
 have full:∀u s,u<=t+1->Pt Ae Aa u s->s∈ks:=λu s g p=>by
  cases p with
  |zero=>exact h.full 0 [] (by lia) .zero
  |@step u st m p hm=>
   have d:=h.full u st (by lia) p
   obtain⟨v,q,a,_⟩:=h.snd st d;have o:v<=u:=by
    apply F0;intro z;exact a.2 u (by lia) p
   by_cases e:v=t
   ·subst e;obtain⟨j,b,l⟩:=L5 ((h.duem st).mpr a);exact h.done j st (by rw[A3 b,l]) (by lia) m hm
   ·exact h.full (v+1) _ (by lia) (.step a.1 hm)
 refine⟨h.nd,λs c=>?_,full,λs=>?_,λs=>?_,λj s _ b=>absurd b (G8 _),λs _ m hm=>by simp at hm⟩
 ·obtain⟨u,g,r⟩:=h.snd s c;exact⟨u,by lia,r⟩
 ·rw[h.lym s];exact⟨λz=>z.2,λz=>⟨full _ _ (A7 _) z.1,z⟩⟩
 ·constructor
  ·intro z;cases z
  ·rintro⟨c,m⟩;obtain⟨u,g,n,_⟩:=h.snd s c;exact absurd (Mt.one n m) (by lia)
structure Rch (Ae:List (List Int))(Aa:Int)(ks:List (List Int))(f:List Int->Nat):Prop where
 nd:ks.Nodup
 snd:∀s∈ks,∃u,Mt Ae Aa u s/\2*f s=u+s.length
 all:∀u s,Pt Ae Aa u s->s∈ks
theorem BF.rch (h:BF Ae Aa t ks [] [] f i k):Rch Ae Aa ks f:=by
 have d:∀s∈ks,∃u,u<t/\Mt Ae Aa u s:=λs a=>by
  obtain⟨u,l,b,_⟩:=h.snd s a;have m:u≠t:=λe=>nomatch(h.duem s).mpr (e▸b);have j:u≠t+1:=λe=>nomatch(h.lym s).mpr ⟨a,e▸b⟩;exact⟨u,by lia,b⟩
 refine⟨h.nd,λs a=>let⟨u,_,r⟩:=h.snd s a;⟨u,r⟩,λu s p=>?_⟩
 induction p with
 |zero=>exact h.full 0 [] (by lia) .zero
 |step p hm ih=>
  obtain⟨v,g,c⟩:=d _ ih;exact h.full (v+1) _ (by lia) (.step c.1 hm)
theorem BF.len (h:BF Ae Aa t ks due ly f i k):ks.length<=2^Ae.length:=by
 have c:∀s∈ks,Rise (Ae.length:Int) s:=λs d=>let⟨_,_,m,_⟩:=h.snd s d;m.1.rise
 have nd:(ks.map mskN).Nodup:=by
  refine O5.mpr (h.nd.imp_of_mem λ{a b} o l g e=>g (qP5 (c a o) (c b l) e))
 have:=qDM (n:=2^Ae.length) nd λb l=>by
  obtain⟨s,d,rfl⟩:=D8.mp l;refine q5 _ λj p=>?_;rw[qAX (c s d)];refine decide_eq_false λz=>?_;have:=((c s d).in_ _ z).2
  lia
 rwa[A0] at this
end
theorem Rch.le {ks:List (List Int)}{f:List Int->Nat}(h:Rch Ae Aa ks f){s:List Int}(a:s∈ks){t:Nat}(p:Pt Ae Aa t s):2*f s<=t+s.length:=by
 obtain⟨u,m,e⟩:=h.snd s a;have:u<=t:=by
  apply F0;intro z;exact m.2 t (by lia) p
 lia
end
theorem _root_.L2.lm_hu {X:Cx}{a:Scope}{p:Str}{fv:List Nat}{q:Str}(z:LmZ):(lmCx X a p fv q z).A.units+1<cLine:=by
 have:=z.rm.un;show z.A.units+3+1<cLine
 lia
theorem _root_.L2.hu2_of {k:Nat}{A:Around}(a:Room k A):A.in1.units+1<cLine:=by
 have:=a.units;show A.units+1+1<cLine
 lia
noncomputable def keyS (s:List Int):List Key:=s.map E3
theorem qDI (s:List Int):(keyS s).map kV=s.map V.int:=by unfold keyS;rw[Y3];rfl
theorem qH0 {s c:List Int}(h:keyS s=keyS c):s=c:=by
 unfold keyS at h;exact List.map_inj_right (λa b e=>Z9 e) |>.mp h
def Val3 (H:Hp)(v:V)(n:Nat):Prop:=∃r x y,v=.ref r/\H r=some (.tup [.int (n:Int),x,y])
theorem Val3.same {H H':Hp}{v:V}{n:Nat}(h:Val3 H v n)(a:Same H H'):Val3 H' v n:=let⟨r,x,y,e,g⟩:=h;⟨r,x,y,e,a _ _ g⟩
def Ent (H:Hp)(Af:List (List Key×V))(ks:List (List Int))(f:List Int->Nat):Prop:=Paired (λ(kv:List Key×V) s=>kv.1=keyS s/\Val3 H kv.2 (f s)) Af ks
section
variable{H H':Hp}{Af:List (List Key×V)}{ks:List (List Int)}{f:List Int->Nat}
theorem Ent.same (h:Ent H Af ks f)(a:Same H H'):Ent H' Af ks f:=Paired.mapP h λ_ _ z=>⟨z.1,z.2.same a⟩
theorem Ent.val:∀{Af:List (List Key×V)} {ks:List (List Int)},Ent H Af ks f->∀{s:List Int},s∈ks->∃v,valV Af (keyS s)=some v/\Val3 H v (f s)
 |_,_,.nil,s,hs=>nomatch hs
 |_,_,.cons (a:=kv) (b:=s0) ⟨e,v3⟩ t,s,hs=>by
  by_cases c:s0=s
  ·subst c;exact⟨kv.2,qBI e,v3⟩
  ·rw[qBJ (λz=>c (qH0 (e.symm.trans z)))];exact Ent.val t ((C0.mp hs).resolve_left λz=>c z.symm)
theorem Ent.none:∀{Af:List (List Key×V)} {ks:List (List Int)},Ent H Af ks f->∀{s:List Int},s∉ks->valV Af (keyS s)=none
 |_,_,.nil,s,hs=>rfl
 |_,_,.cons (a:=kv) (b:=s0) ⟨e,v3⟩ t,s,hs=>by
  rw[qBJ (λz=>hs (by rw[qH0 (e.symm.trans z)];simp))]
  exact Ent.none t λz=>hs (B5 _ z)
theorem Ent.len (h:Ent H Af ks f):Af.length=ks.length:=C3 h
end
def StL (H:Hp)(rs:List Addr)(ss:List (List Int)):Prop:=Paired (λ(r:Addr) (s:List Int)=>H r=some (.tup (s.map V.int))) rs ss
theorem StL.same {H H':Hp}{b:List Addr}{a:List (List Int)}(h:StL H b a)(c:Same H H'):StL H' b a:=Paired.mapP h λ_ _ z=>c _ _ z
theorem StL.put {H:Hp}{b:List Addr}{a:List (List Int)}{d:Addr}{o u:HO}(h:StL H b a)(f:H d=some o)(c:∀xs,o≠.tup xs):StL (Ag H d u) b a:=Paired.mapP h λr s z=>by
 rw[qAA (qCB z f λe=>c _ e.symm)];exact z
theorem StL.snoc {H:Hp}{c:List Addr}{b:List (List Int)}{r:Addr}{s:List Int}(h:StL H c b)(g:H r=some (.tup (s.map V.int))):StL H (c++[r]) (b++[s]):=by
 induction h with
 |nil=>exact .cons g .nil
 |cons a _ ih=>exact .cons a ih
theorem MovL.putG {H:Hp}{a:List Addr}{b:List Mv}{d:Addr}{o u:HO}(h:MovL H a b)(c:H d=some o)(f:∀xs,o≠.tup xs):MovL (Ag H d u) a b:=Paired.mapP h λr s z=>by
 rw[qAA (qCB z c λe=>f _ e.symm)];exact z
theorem qHQ:∀a b c:List Int,HT.lexLt a b=false->HT.lexLt b c=false->HT.lexLt a c=false
 |[],[],c,_,h=>h
 |[],_::_,c,h,_=>by cases h
 |x::a,[],[],_,_=>rfl
 |x::a,[],_::_,_,h=>by cases h
 |x::a,y::b,[],_,_=>rfl
 |x::a,y::b,z::c,h1,h2=>by
  rw[HT.lexLt_cons] at h1 h2 ⊢;by_cases e1:x=y
  ·subst e1;rw[if_pos rfl] at h1;by_cases e2:x=z
   ·rw[if_pos e2] at h2 ⊢;exact qHQ a b c h1 h2
   ·rw[if_neg e2] at h2 ⊢;exact h2
  ·rw[if_neg e1] at h1;have h1:=of_decide_eq_false h1;by_cases e2:y=z
   ·subst e2;rw[if_neg e1];exact decide_eq_false h1
   ·rw[if_neg e2] at h2;have h2:=of_decide_eq_false h2;rw[if_neg (by lia)]
    exact decide_eq_false (by lia)
theorem qQY:∀a b:List Int,HT.lexLt a b=true->HT.lexLt b a=false
 |[],[],_=>rfl
 |[],_::_,_=>rfl
 |_::_,[],h=>by cases h
 |x::a,y::b,h=>by
  rw[HT.lexLt_cons] at h ⊢;by_cases e:x=y
  ·subst e;rw[if_pos rfl] at h ⊢;exact qQY a b h
  ·rw[if_neg e] at h;have h:=of_decide_eq_true h;rw[if_neg (by lia)]
   exact decide_eq_false (by lia)
theorem qJB:∀(r:List (V×List Int)) (b:V×List Int),∃k,(qF2 b r,k)∈b::r/\∀q∈b::r,HT.lexLt q.2 k=false
 |[],b=>⟨b.2,by simp[qF2],λq hq=>by rw[A6.mp hq];exact qPA _⟩
 |x::r,b=>by
  by_cases e:HT.lexLt x.2 b.2=true
  ·obtain⟨k,h1,h2⟩:=qJB r x;have ep:qF2 b (x::r)=qF2 x r:=by rw[qF2,if_pos e]
   rw[ep];refine⟨k,B5 _ h1,λq hq=>?_⟩;rcases C0.mp hq with z|z
   ·rw[z];exact qHQ _ _ _ (qQY _ _ e) (h2 x (by simp))
   ·exact h2 q z
  ·obtain⟨k,h1,h2⟩:=qJB r b;have ep:qF2 b (x::r)=qF2 b r:=by rw[qF2,if_neg e]
   rw[ep];refine⟨k,?_,λq hq=>?_⟩
   ·rcases C0.mp h1 with z|z
    ·rw[z];simp
    ·exact B5 _ (B5 _ z)
   ·rcases C0.mp hq with z|z
    ·exact h2 q (by rw[z];simp)
    ·rcases C0.mp z with z|z
     ·rw[z];exact qHQ _ _ _ (G4.mpr e) (h2 b (by simp))
     ·exact h2 q (B5 _ z)
def TabB (H:Hp) (Pt:Addr):Prop:=H Pt=some (.tbl (.tab "best_end.<locals>.<lambda>"))
def qSZ (Pt:Addr):Sp:=λvs H Q _=>∃(d t:Addr) (o:Obj) (Af:List (List Key×V)) (ks:List (List Int)) (f:List Int->Nat) (Ad:List Int),vs=[.ref d,.ref t]/\TabB H Pt/\H d=some (.frz o (.dT Af))/\Ent H Af ks f/\ks.length<=4096/\H t=some (.tup (Ad.map V.int))/\Ad.length<=1000/\
 ∀H',Same H H'->((∀s∈ks,¬ ∀x∈Ad,x∈s)->Q .non H')/\∀r s,H' r=some (.tup (s.map V.int))->s∈ks->(∀x∈Ad,x∈s)->(∀s'∈ks,(∀x∈Ad,x∈s')->f s<=f s')->Q (.ref r) H'
def LB (Ae:List (List Int))(Aa:Int)(Ad:List Int):Option Nat->Prop
 |none=>∀m b,Rm Ae Aa m b->¬b &&& mskN Ad=mskN Ad
 |some k=>(∃b,Rm Ae Aa k b/\b &&& mskN Ad=mskN Ad)/\∀m b,Rm Ae Aa m b->b &&& mskN Ad=mskN Ad->k<=m
section
variable{Ae:List (List Int)}{Aa:Int}{Ad:List Int}
theorem qOB (k:WFn Ae)(i:Rise (Ae.length:Int) Ad){ks:List (List Int)}{f:List Int->Nat}(h:Rch Ae Aa ks f){s:List Int}(r:s∈ks)(v:∀x∈Ad,x∈s)(le:∀s'∈ks,(∀x∈Ad,x∈s')->f s<=f s'):LB Ae Aa Ad (some (f s)):=by
 obtain⟨u,m,e⟩:=h.snd s r;obtain⟨d,y,R⟩:=m.1.bits k;have p:d=f s:=by lia
 subst p;refine⟨⟨_,R,(qGJ m.1.rise i).mpr v⟩,λw b n q=>?_⟩;obtain⟨j,t,o,P,l⟩:=n.path k;subst o;have g:=h.all t j P;have a:=le j g ((qGJ P.rise i).mp q);have c:=h.le g P
 lia
theorem qOC (g:WFn Ae)(c:Rise (Ae.length:Int) Ad){ks:List (List Int)}{f:List Int->Nat}(h:Rch Ae Aa ks f)(i:∀s∈ks,¬ ∀x∈Ad,x∈s):LB Ae Aa Ad none:=λm b R e=>by
 obtain⟨a,t,d,P,l⟩:=R.path g;subst d;exact i a (h.all t a P) ((qGJ P.rise c).mp e)
theorem Rm.done_ (l:WFn Ae){m b:Nat}(h:Rm Ae Aa m b):∃D:List Int,D.Nodup/\D.length<=m/\(∀k:Nat,b.testBit k=true->(k:Int)∈D)/\∀w∈D,0<=w/\w<(Ae.length:Int)/\∀y∈nd Ae w,y∈D:=by
 induction h with
 |zero=>exact⟨[],.nil,A7 _,λk z=>by simp at z,λ_ z=>nomatch z⟩
 |@clr m b k R hk ih=>
  obtain⟨D,g,p,d,f⟩:=ih;refine⟨D,g,p,λj a=>?_,f⟩;obtain⟨s,t,i,P,_⟩:=R.path l;subst i;rw[qMK P.rise,qAX (n:=(Ae.length:Int)) ⟨P.rise.up.filter _,λx hx=>P.rise.in_ x (C9.mp hx).1⟩] at a;exact d j (by rw[qAX P.rise];exact decide_eq_true (C9.mp (of_decide_eq_true a)).1)
 |@do_ m b k R hc ih=>
  obtain⟨D,g,p,d,f⟩:=ih;obtain⟨h1,h2,o⟩:=hc;have v:∀y∈nd Ae (k:Int),y∈D:=λy e=>by
   obtain⟨s,t,i,P,_⟩:=R.path l;subst i;have rn:Rise (Ae.length:Int) (nd Ae (k:Int)):=qP3 l (by lia)
   have u:nxt Ae k=mskN (nd Ae (k:Int)):=by unfold nxt nd;rw[B8]
   rw[u] at o;have:=(qGJ P.rise rn).mp o y e;have y0:=P.rise.nn y this;have:=d y.toNat (by rw[qAX P.rise];exact decide_eq_true (by rw[show((y.toNat:Nat):Int)=y by lia];exact this))
   rwa[show((y.toNat:Nat):Int)=y by lia] at this
  by_cases c:(k:Int)∈D
  ·refine⟨D,g,by lia,λj a=>?_,f⟩
   rw[d6,R3,P9,decide_eq_true_eq] at a;rcases a with z|z
   ·exact d j z
   ·rw[<- z];exact c
  ·refine⟨D++[(k:Int)],qHO g c,by rw[A9,C2];lia,λj a=>?_,λw hw=>?_⟩
   ·rw[d6,R3,P9,decide_eq_true_eq] at a;rcases a with z|z
    ·exact A8.mpr (.inl (d j z))
    ·rw[<- z];simp
   ·rcases A8.mp hw with z|z
    ·obtain⟨a1,q,r⟩:=f w z;exact⟨a1,q,λy e=>A8.mpr (.inl (r y e))⟩
    ·rw[A6.mp z];exact⟨by lia,by lia,λy e=>A8.mpr (.inl (v y e))⟩
theorem qZJ (i:WFn Ae)(d:Rise (Ae.length:Int) Ad){zs:List Int}(N:qAL Ae Ad zs){m b:Nat}(R:Rm Ae Aa m b)(e:b &&& mskN Ad=mskN Ad):zs.length<=m:=by
 obtain⟨D,f,j,h,g⟩:=R.done_ i;have c:∀x,Nd Ae Ad x->x∈D:=by
  intro x a
  induction a with
  |ask a=>
   rename_i x
   have k:=d.nn x a;have q:=congrArg (λb=>Nat.testBit b x.toNat) e;simp only[Z1,qAX d] at q;rw[show((x.toNat:Nat):Int)=x by lia,decide_eq_true a,B05] at q
   have:=h x.toNat q
   rwa[show((x.toNat:Nat):Int)=x by lia] at this
  |need _ hz hy ih=>exact(g _ ih).2.2 _ (by unfold nd;rw[hz];exact hy)
 have:=qU6 N.1.nodup f λx a=>c x ((N.2 x).mp a)
 lia
theorem qXS {a:List Mv}{s t:List Int}(h:Run Ae Aa s a t):∀{u:Nat},(∀m∈a,0<=m.2/\m.2<(Ae.length:Int))->Pt Ae Aa u s->Pt Ae Aa (u+a.length) t:=by
 induction h with
 |nil=>exactλ_ p=>p
 |@do_ s s' t w a h1 h2 h3 h4 h5 h6 ih=>
  intro u b p;have d:((D3 "do",w):Mv)∈qCW Ae s Aa:=due_iff.mpr ⟨⟨.inl rfl,(b _ (by simp)).1,(b _ (by simp)).2⟩,λ_=>⟨h1,h2,h3⟩,λz=>absurd z.symm qAK⟩
  have e:s'=behL s (D3 "do",w):=by
   unfold behL;rw[if_pos rfl];refine qHH h5 ((Pt.step p d).rise.up |> λz=>by unfold behL at z;rw[if_pos rfl] at z;exact z) λx=>?_
   rw[h4.mem_iff,mem_insL,A8,A6]
  have:=ih (u:=u+1) (λm c=>b m (B5 _ c)) (by rw[e];exact .step p d)
  rw[D6,show u+(a.length+1)=u+1+a.length by lia]
  exact this
 |@clear s t w a h1 h2 ih=>
  intro u b p;have d:((D3 "clear",w):Mv)∈qCW Ae s Aa:=due_iff.mpr ⟨⟨.inr rfl,(b _ (by simp)).1,(b _ (by simp)).2⟩,λz=>absurd z qAK,λ_=>h1⟩
  have:=ih (u:=u+1) (fun m c=>b m (B5 _ c)) (by
   have q:=Pt.step p d;unfold behL at q;rw[if_neg qAK] at q;exact q)
  rw[D6,show u+(a.length+1)=u+1+a.length by lia]
  exact this
theorem qZZ (a:WFn Ae)(f:Rise (Ae.length:Int) Ad){zs:List Int}(N:qAL Ae Ad zs):Rm Ae (Ae.length:Int) zs.length (mskN Ad):=by
 have R:=qZ9 a N f.up;have l:=R.len .nil;rw[show qEA (qQJ Ae Ad zs)=zs from qXE zs,N9] at l;have P:=qXS R (u:=0) (λm c=>(qW9 a N c).2) .zero;obtain⟨d,e,b⟩:=P.bits a
 rwa[show d=zs.length by lia] at b
theorem qa0 (a:WFn Ae)(c:Rise (Ae.length:Int) Ad){zs:List Int}(N:qAL Ae Ad zs):LB Ae (Ae.length:Int) Ad (some zs.length):=
 ⟨⟨_,qZZ a c N,Nat.and_self _⟩,λm b R e=>qZJ a c N R e⟩
theorem qWQ {P:Nat->Prop}:∀n,P n->∃k,P k/\∀m,P m->k<=m:=by
 intro n
 induction n using Nat.strongRecOn with
 |_ n ih=>
  intro h;by_cases c:∃m,m<n/\P m
  ·obtain⟨m,a,d⟩:=c;exact ih m a d
  ·exact⟨n,h,λm b=>V0 λz=>c ⟨m,z,b⟩⟩
theorem qdA (Ae:List (List Int))(Aa:Int)(Ad:List Int):∃o,LB Ae Aa Ad o:=by
 by_cases c:∃m b,Rm Ae Aa m b/\b &&& mskN Ad=mskN Ad
 ·obtain⟨m,b,R,e⟩:=c;obtain⟨k,⟨a,d,f⟩,l⟩:=qWQ (P:=λm=>∃b,Rm Ae Aa m b/\b &&& mskN Ad=mskN Ad) m ⟨b,R,e⟩;exact⟨some k,⟨a,d,f⟩,λm b R e=>l m ⟨b,R,e⟩⟩
 ·exact⟨none,λm b R e=>c ⟨m,b,R,e⟩⟩
noncomputable def lstO (Ae:List (List Int))(Aa:Int)(Ad:List Int):Option Nat:=A74 (qdA Ae Aa Ad)
noncomputable def upS (Ae:List (List Int))(Ad:List Int)(r:Nat):List (Nat×Nat):=(F6 r).filterMap λi=>(lstO Ae ((i+1:Nat):Int) Ad).map λk=>(i+1,k)
end
theorem Rch.len {Ae:List (List Int)}{Aa:Int}{ks:List (List Int)}{f:List Int->Nat}(h:Rch Ae Aa ks f):ks.length<=2^Ae.length:=by
 have c:∀s∈ks,Rise (Ae.length:Int) s:=λs d=>let⟨_,m,_⟩:=h.snd s d;m.1.rise
 have nd:(ks.map mskN).Nodup:=O5.mpr (h.nd.imp_of_mem λ{a b} k i g e=>g (qP5 (c a k) (c b i) e));have:=qDM (n:=2^Ae.length) nd λb i=>by
  obtain⟨s,d,rfl⟩:=D8.mp i;refine q5 _ λj l=>?_;rw[qAX (c s d)];refine decide_eq_false λz=>?_;have:=((c s d).in_ _ z).2
  lia
 rwa[A0] at this
def qQ4 (K:PySem.W.Frag)(Pt:Addr):Sp:=λvs H Q E=>TabB H Pt/\qcU K vs H Q E
abbrev Prv:=Option (List Int×Mv)
def ValX (H:Hp)(v:V)(n:Nat):Prv->Prop
 |none=>∃r,v=.ref r/\H r=some (.tup [.int (n:Int),.non,.non])
 |some (p,m)=>∃r rp rm,v=.ref r/\H r=some (.tup [.int (n:Int),.ref rp,.ref rm])/\H rp=some (.tup (p.map V.int))/\H rm=some (.tup [.str m.1,.int m.2])
theorem ValX.same {H H':Hp}{v:V}{n:Nat}{o:Prv}(h:ValX H v n o)(a:Same H H'):ValX H' v n o:=by
 cases o with
 |none=>obtain⟨r,e,g⟩:=h;exact⟨r,e,a _ _ g⟩
 |some pm=>obtain⟨r,c,b,e,d,f,i⟩:=h;exact⟨r,c,b,e,a _ _ d,a _ _ f,a _ _ i⟩
theorem ValX.put {H:Hp}{v:V}{n:Nat}{q:Prv}{d:Addr}{o u:HO}(h:ValX H v n q)(b:H d=some o)(i:∀xs,o≠.tup xs):ValX (Ag H d u) v n q:=by
 have k:∀(r:Addr) (xs:List V),H r=some (.tup xs)->(Ag H d u) r=some (.tup xs):=λr xs g=>by
  rw[qAA (qCB g b λz=>i _ z.symm)];exact g
 cases q with
 |none=>obtain⟨r,e,g⟩:=h;exact⟨r,e,k _ _ g⟩
 |some pm=>obtain⟨r,c,a,e,f,j,l⟩:=h;exact⟨r,c,a,e,k _ _ f,k _ _ j,k _ _ l⟩
theorem ValX.val3 {H:Hp}{v:V}{n:Nat}{o:Prv}(h:ValX H v n o):Val3 H v n:=by
 cases o with
 |none=>obtain⟨r,e,g⟩:=h;exact⟨r,_,_,e,g⟩
 |some pm=>obtain⟨r,b,a,e,g,_⟩:=h;exact⟨r,_,_,e,g⟩
def EntX (H:Hp)(Af:List (List Key×V))(ks:List (List Int))(f:List Int->Nat)(g:List Int->Prv):Prop:=Paired (λ(kv:List Key×V) s=>kv.1=keyS s/\ValX H kv.2 (f s) (g s)) Af ks
noncomputable def gset (g:List Int->Prv)(x:List Int)(v:Prv):List Int->Prv:=λy=>if y=x then v else g y
section
variable{H H':Hp}{Af:List (List Key×V)}{ks:List (List Int)}{f:List Int->Nat}{g:List Int->Prv}
theorem EntX.same (h:EntX H Af ks f g)(a:Same H H'):EntX H' Af ks f g:=Paired.mapP h λ_ _ z=>⟨z.1,z.2.same a⟩
theorem EntX.put {d:Addr}{o u:HO}(h:EntX H Af ks f g)(a:H d=some o)(b:∀xs,o≠.tup xs):EntX (Ag H d u) Af ks f g:=Paired.mapP h λ_ _ z=>⟨z.1,z.2.put a b⟩
theorem EntX.ent (h:EntX H Af ks f g):Ent H Af ks f:=Paired.mapP h λ_ _ z=>⟨z.1,z.2.val3⟩
theorem EntX.val:∀{Af:List (List Key×V)} {ks:List (List Int)},EntX H Af ks f g->∀{s:List Int},s∈ks->∃v,valV Af (keyS s)=some v/\ValX H v (f s) (g s)
 |_,_,.nil,s,hs=>nomatch hs
 |_,_,.cons (a:=kv) (b:=s0) ⟨e,v3⟩ t,s,hs=>by
  by_cases c:s0=s
  ·subst c;exact⟨kv.2,qBI e,v3⟩
  ·rw[qBJ (λz=>c (qH0 (e.symm.trans z)))];exact EntX.val t ((C0.mp hs).resolve_left λz=>c z.symm)
theorem EntX.snoc (h:EntX H Af ks f g){s:List Int}(c:s∉ks){v:V}{n:Nat}{o:Prv}(d:ValX H v n o):EntX H (putK Af (keyS s) v) (ks++[s]) (qIH f s n) (gset g s o):=by
 rw[qQG v (h.ent.none c)];have e:EntX H Af ks (qIH f s n) (gset g s o):=by
  have:∀{Af:List (List Key×V)} {ks:List (List Int)},EntX H Af ks f g->s∉ks->EntX H Af ks (qIH f s n) (gset g s o):=by
   intro Af ks h
   induction h with
   |nil=>exactλ_=>.nil
   |@cons kv s0 l1 l2 a t ih=>exactλb=>.cons ⟨a.1,by rw[show qIH f s n s0=f s0 from if_neg λz=>b (by rw[z];simp),show gset g s o s0=g s0 from if_neg λz=>b (by rw[z];simp)];exact a.2⟩ (ih λz=>b (B5 _ z))
  exact this h c
 have:∀{Af:List (List Key×V)} {ks:List (List Int)},EntX H Af ks (qIH f s n) (gset g s o)->EntX H (Af++[(keyS s,v)]) (ks++[s]) (qIH f s n) (gset g s o):=by
  intro Af ks h
  induction h with
  |nil=>exact .cons ⟨rfl,by rw[show qIH f s n s=n from if_pos rfl,show gset g s o s=o from if_pos rfl];exact d⟩ .nil
  |cons a _ ih=>exact .cons a ih
 exact this e
end
section
variable{Ae:List (List Int)}{Aa:Int}{ks ks':List (List Int)}{f f':List Int->Nat}{g g':List Int->Prv}
def Prov (Ae:List (List Int))(Aa:Int)(ks:List (List Int))(f:List Int->Nat)(g:List Int->Prv):Prop:=
 ∀s∈ks,(s=[]/\g s=none/\f s=0)\/∃p m,g s=some (p,m)/\p∈ks/\m∈qCW Ae p Aa/\s=behL p m/\f s=f p+if m.1=D3 "do" then 1 else 0
theorem qZP {a b:List (List Int)}(d:a.Nodup)(e:b.Nodup)(h:∀x∈a,x∈b):a.length<=b.length:=by
 have p:a.Perm (b.filter λx=>decide (x∈a)):=(m8 d (e.filter _)).mpr λx=>by
  rw[C9,decide_eq_true_eq];exact⟨λc=>⟨h x c,c⟩,λc=>c.2⟩
 rw[p.length_eq];exact J2 _ _
noncomputable def qFA (g:List Int->Prv):Nat->List Int->List Mv
 |0,_=>[]
 |n+1,s=>match g s with
  |none=>[]
  |some (p,m)=>qFA g n p++[m]
noncomputable def pth (f:List Int->Nat)(g:List Int->Prv)(s:List Int):List Mv:=qFA g (2*f s-s.length) s
theorem qLE (R:Rch Ae Aa ks f) {p:List Int} {m:Mv} (a:p∈ks) (b:m∈qCW Ae p Aa) {u:Nat} (e:2*(f p+if m.1=D3 "do" then 1 else 0)=u+(behL p m).length):∃v,u=v+1/\2*f p=v+p.length:=by
 obtain⟨v,c,d⟩:=R.snd p a;refine⟨v,?_,d⟩;rcases qHX c.1.rise b with⟨w,l⟩|⟨w,l⟩
 ·rw[if_pos w] at e;lia
 ·rw[if_neg (λz=>by rw[w] at z;exact qAK z)] at e;lia
theorem qZ1 (n:WFn Ae){p:List Int}{m:Mv}{t:Nat}(P:Pt Ae Aa t p)(g:m∈qCW Ae p Aa):Run Ae Aa p [m] (behL p m):=by
 have r:=P.rise;have j:=(Pt.step P g).rise;obtain⟨⟨a,b,c⟩,d,e⟩:=due_iff.mp g;obtain⟨f,l⟩:=m;rcases a with a|a
 ·have a:f=D3 "do":=a
  subst a;obtain⟨k,h,i⟩:=d rfl;exact .do_ k h i (by unfold behL;rw[if_pos rfl];exact qE7 _ _) j.up .nil
 ·have a:f=D3 "clear":=a;subst a;unfold behL;rw[if_neg (λz=>qAK z)];exact .clear (e rfl) .nil
theorem qQP (wf:WFn Ae)(R:Rch Ae Aa ks f)(pv:Prov Ae Aa ks f g):∀(u:Nat) (s:List Int),s∈ks->2*f s=u+s.length->Run Ae Aa [] (qFA g u s) s/\(qEA (qFA g u s)).length=f s/\MvOk Ae (qFA g u s)/\(qFA g u s).length=u/\
  ∃L:List (List Int),L.length=u+1/\L.Nodup/\∀x∈L,x∈ks/\∃v,v<=u/\2*f x=v+x.length
 |0,s,hs,e=>by
  rcases pv s hs with⟨a1,a2,a3⟩|⟨p,m,a1,a2,a3,a4,a5⟩
  ·subst a1;refine⟨.nil,by rw[a3];rfl,(λ_ z=>by cases z),rfl,[[]],rfl,by simp,λx hx=>by rw[A6.mp hx];exact⟨hs,0,A7 _,e⟩⟩
  ·rw[a5,a4] at e;obtain⟨v,z,_⟩:=qLE R a2 a3 e
   lia
 |u+1,s,hs,e=>by
  rcases pv s hs with⟨a1,a2,a3⟩|⟨p,m,a1,a2,a3,a4,a5⟩
  ·rw[a3,a1] at e;simp at e
  ·have e2:=e;rw[a5,a4] at e2;obtain⟨v,z1,z2⟩:=qLE R a2 a3 e2;have:v=u:=by lia
   subst this;obtain⟨i1,i2,i3,i4,L,i5,i6,i7⟩:=qQP wf R pv v p a2 z2;obtain⟨_,mp,_⟩:=R.snd p a2;have ep:qFA g (v+1) s=qFA g v p++[m]:=by show(match g s with|none=>[]|some (p,m)=>qFA g v p++[m])=_;rw[a1]
   rw[ep];have one:=qZ1 wf mp.1 a3;rw[<- a4] at one;have dd:(qEA [m]).length=if m.1=D3 "do" then 1 else 0:=by
    unfold qEA;rw[O4]
    split<;>rename_i h
    ·split at h
     ·cases h
     ·rename_i hn;rw[if_neg hn];rfl
    ·split at h
     ·rename_i hy;rw[if_pos hy];rfl
     ·cases h
   refine⟨i1.app one,by rw[qNX,A9,i2,dd,a5],λx hx=>?_,by rw[A9,i4];rfl,L++[s],by rw[A9,i5];rfl,qJ5 i6 λhz=>?_,λx hx=>?_⟩
   ·rcases A8.mp hx with z|z
    ·exact i3 x z
    ·rw[A6.mp z];exact(due_iff.mp a3).1
   ·obtain⟨_,w,w1,w2⟩:=i7 s hz
    lia
   ·rcases A8.mp hx with z|z
    ·obtain⟨j1,w,w1,w2⟩:=i7 x z;exact⟨j1,w,by lia,w2⟩
    ·rw[A6.mp z];exact⟨hs,v+1,A7 _,e⟩
theorem qOS (m:WFn Ae)(R:Rch Ae Aa ks f)(c:Prov Ae Aa ks f g){s:List Int}(a:s∈ks):Run Ae Aa [] (pth f g s) s/\(qEA (pth f g s)).length=f s/\MvOk Ae (pth f g s)/\(pth f g s).length+1<=ks.length:=by
 obtain⟨u,_,e⟩:=R.snd s a;have j:2*f s-s.length=u:=by lia
 obtain⟨l,h,k,o,L,n,b,d⟩:=qQP m R c u s a e;unfold pth;rw[j];refine⟨l,h,k,?_⟩;have:=qZP b R.nd λx i=>(d x i).1
 lia
end
structure EntZ (H:Hp)(Af:List (List Key×V))(ks:List (List Int))(f:List Int->Nat)(Φ:(List Int->Prv)->Prop):Prop where
 ex:∃g,EntX H Af ks f g/\Φ g
section
variable{H H':Hp}{Af:List (List Key×V)}{ks:List (List Int)}{f:List Int->Nat}{Φ Ψ:(List Int->Prv)->Prop}
theorem EntZ.same (h:EntZ H Af ks f Φ)(c:Same H H'):EntZ H' Af ks f Φ:=let⟨g,a,b⟩:=h.ex;⟨g,a.same c,b⟩
theorem EntZ.put {d:Addr}{o u:HO}(h:EntZ H Af ks f Φ)(c:H d=some o)(e:∀xs,o≠.tup xs):EntZ (Ag H d u) Af ks f Φ:=let⟨g,a,b⟩:=h.ex;⟨g,a.put c e,b⟩
theorem EntZ.ent (h:EntZ H Af ks f Φ):Ent H Af ks f:=let⟨_,a,_⟩:=h.ex;a.ent
theorem EntZ.len (h:EntZ H Af ks f Φ):Af.length=ks.length:=h.ent.len
theorem EntZ.val (h:EntZ H Af ks f Φ){s:List Int}(a:s∈ks):∃v,valV Af (keyS s)=some v/\Val3 H v (f s):=h.ent.val a
theorem EntZ.none (h:EntZ H Af ks f Φ){s:List Int}(a:s∉ks):valV Af (keyS s)=none:=h.ent.none a
theorem EntZ.snoc (h:EntZ H Af ks f Φ){s p:List Int}{m:Mv}(j:s∉ks){r d c:Addr}{n:Nat}(e:H r=some (.tup [.int (n:Int),.ref d,.ref c]))(k:H d=some (.tup (p.map V.int)))(l:H c=some (.tup [.str m.1,.int m.2]))(i:∀g,Φ g->Ψ (gset g s (some (p,m)))):
  EntZ H (putK Af (keyS s) (.ref r)) (ks++[s]) (qIH f s n) Ψ:=let⟨g,a,b⟩:=h.ex;⟨_,a.snoc (v:=.ref r) (n:=n) (o:=some (p,m)) j ⟨r,d,c,rfl,e,k,l⟩,i g b⟩
end
noncomputable def renW (ws:List Int)(i:Int):Int:=(ws[i.toNat]?).getD 0
noncomputable def renM (ws:List Int)(ms:List Mv):List Mv:=ms.map λm=>(m.1,renW ws m.2)
section
variable{Ae:List (List Int)}{Ad ws:List Int}{Aa:Int}
theorem qQD {i:Nat}{x:Int}(h:ws[i]?=some x):renW ws (i:Int)=x:=by
 unfold renW;rw[B8,h]
 rfl
theorem qJ8 (c:ws.Pairwise (·<·)){i j:Int}(e:0<=i)(h:i<j)(d:j<(ws.length:Int)):renW ws i<renW ws j:=by
 have b:i.toNat<ws.length:=by lia
 have a:j.toNat<ws.length:=by lia
 unfold renW;rw[A3 b,A3 a];exact G2.mp c i.toNat j.toNat b a (by lia)
theorem qQC (a:ws.Pairwise (·<·)){i j:Int}(d:0<=i)(hi:i<(ws.length:Int))(b:0<=j)(f:j<(ws.length:Int))(e:renW ws i=renW ws j):i=j:=by
 rcases Int.lt_trichotomy i j with c|c|c
 ·have:=qJ8 a d c f;lia
 ·exact c
 ·have:=qJ8 a b c hi;lia
theorem qWJ (N:qAL Ae Ad ws){w y:Int}(b:w∈ws)(a:y∈nd Ae w):y∈ws:=by
 have n:=(N.2 w).mp b;unfold nd at a;cases e:Ae[w.toNat]? with
 |none=>rw[e] at a;cases a
 |some zs=>
  rw[e] at a;exact(N.2 y).mpr (.need n e a)
theorem qW3 (N:qAL Ae Ad ws){s t:List Int}{l:List Mv}(R:Run (qBB Ae ws) Aa s l t):(∀x∈s,0<=x/\x<(ws.length:Int))->MvOk (qBB Ae ws) l->Run Ae Aa (s.map (renW ws)) (renM ws l) (t.map (renW ws)):=by
 have up:=N.1.up;have r:=qB7 Ae ws
 induction R with
 |nil=>exactλ_ _=>.nil
 |@do_ s s' t w l h1 h2 h3 h4 h5 h6 ih=>
  intro n j;have c:=(j (D3 "do",w) (by simp)).2
  dsimp only at c;rw[r] at c;have g:∀x∈s',0<=x/\x<(ws.length:Int):=λx d=>by
   rcases A8.mp (h4.mem_iff.mp d) with z|z
   ·exact n x z
   ·rw[A6.mp z];exact c
  have wi:w.toNat<ws.length:=by lia
  have v:ws[w.toNat]?=some (renW ws w):=by unfold renW;rw[A3 wi];rfl
  refine .do_ (λhz=>?_) (λy u=>?_) (by rw[A0];exact h3) ?_ ?_ (ih g λm f=>j m (B5 _ f))
  ·obtain⟨x,d,ex⟩:=D8.mp hz;have k:=n x d;rw[qQC up k.1 k.2 c.1 c.2 ex] at d;exact h1 d
  ·have p:=qWJ N (B0 v) u;obtain⟨i,hi⟩:=F9 p;have q:(i:Int)∈nd (qBB Ae ws) w:=by
    unfold nd;rw[qFB v];exact(qBR N.1.nodup).mpr ⟨by lia,y,by rw[B8];exact hi,u⟩
   exact D8.mpr ⟨(i:Int),h2 _ q,qQD hi⟩
  ·have:=h4.map (renW ws);rw[B3] at this;exact this
  ·rw[O5];exact h5.imp_of_mem λ{a b} ha hb o=>qJ8 up (g a ha).1 o (g b hb).2
 |@clear s t w l h1 h2 ih=>
  intro n j;have c:=(j (D3 "clear",w) (by simp)).2
  dsimp only at c;rw[r] at c;refine .clear (D8.mpr ⟨w,h1,rfl⟩) ?_;have e:(s.map (renW ws)).filter (λx=>decide (x≠renW ws w))=(s.filter λx=>decide (x≠w)).map (renW ws):=by
   rw[List.filter_map];congr 1;refine w5 λx d=>?_;have k:=n x d;refine decide_eq_decide.mpr ⟨λh z=>h (by rw[z]),λh z=>h (qQC up k.1 k.2 c.1 c.2 z)⟩
  rw[e];exact ih (λx d=>n x (C9.mp d).1) λm f=>j m (B5 _ f)
noncomputable def qB9 (ws Ad:List Int):List Int:=Ad.filterMap (qC8 ws)
theorem qHG (N:qAL Ae Ad ws)(b:Rise (Ae.length:Int) Ad):Rise ((qBB Ae ws).length:Int) (qB9 ws Ad):=by
 refine⟨qI0 N.1.up b.up,λx a=>?_⟩;obtain⟨d,y,c,_⟩:=(qBR N.1.nodup).mp a;have:=(A4.mp c).1;rw[qB7]
 lia
theorem qMT (N:qAL Ae Ad ws)(e:Rise (Ae.length:Int) Ad):qIA ws Ad=mskN (qB9 ws Ad):=by
 unfold qIA;congr 1;refine qHH ((qDE 0 ws.length).filter _) (qI0 N.1.up e.up) λx=>?_;rw[C9,show x∈qB9 ws Ad↔_ from qBR N.1.nodup,mem_rangeI,decide_eq_true_eq]
 constructor
 ·rintro⟨⟨b,f⟩,a⟩;have d:x.toNat<ws.length:=by lia
  rw[A3 d] at a ⊢;exact⟨b,_,rfl,a⟩
 ·rintro⟨b,y,c,a⟩;have d:=(A4.mp c).1;rw[c];exact⟨⟨b,by lia⟩,a⟩
theorem qPB (N:qAL Ae Ad ws)(a:Rise (Ae.length:Int) Ad){k:Nat}(h:LB (qBB Ae ws) Aa (qB9 ws Ad) (some k)):qHD Ae ws Ad Aa:=by
 obtain⟨⟨b,R,e⟩,_⟩:=h;exact⟨k,b,R,by rw[qMT N a];exact e⟩
theorem qY3 (N:qAL Ae Ad ws)(a:Rise (Ae.length:Int) Ad)(h:LB (qBB Ae ws) Aa (qB9 ws Ad) none):¬qHD Ae ws Ad Aa:=by
 rintro⟨m,b,R,e⟩;rw[qMT N a] at e;exact h m b R e
end
def qLI:Sp:=λvs H Q _=>∃(t u:Addr) (ws Ad:List Int),vs=[.ref t,.ref u]/\BareT H t (ws.map V.int)/\H u=some (.tup (Ad.map V.int))/\ws.Nodup/\Ad.length<=1000/\ws.length<=1000/\(∀x∈Ad,x∈ws)/\
 ∀r H',Same H H'->H' r=some (.tup ((qB9 ws Ad).map V.int))->Q (.ref r) H'
def qLH:Sp:=λvs H Q _=>∃(a t:Addr) (Ae:List (List Int)) (ws:List Int),vs=[.ref a,.ref t]/\NetAt H a Ae/\WFn Ae/\Ae.length<=1000/\Rd H t (.tup (ws.map V.int))/\Rise (Ae.length:Int) ws/\
 ∀b H',Same H H'->NetAt H' b (qBB Ae ws)->Q (.ref b) H'
def qXP:Sp:=λvs H Q _=>∃(d c:Addr) (t:Int) (ns:List Int),vs=[.ref d]/\StAt H d c t ns/\t<=TB-20000/\
 ∀a Ae t' ns' H',StAt H' d c t' ns'->t<=t'->t'<=t+1000->Keep d c H H'->NetAt H' a Ae->WFn Ae->1<=Ae.length->Ae.length<=10->Q (.ref a) H'
theorem qbF {v u:Int}(b:Bool):atI [V.int v,V.int u] (if b=true then(1:Int) else 0)=some (.int (if b=true then u else v)):=by cases b<;>rfl
theorem LeastR.le {Ae:List (List Int)}{Ad a:List Int}{r:Int}(i:WFn Ae)(N:qAL Ae Ad a)(e:Rise (Ae.length:Int) Ad)(f:1<=Ad.length)(h:LeastR Ae a Ad r):r<=(a.length:Int):=by
 apply F0;intro z;have d:=qBU i N.1;have b:=qHG N e;obtain⟨k,g⟩:=qND d b;have c:=qa0 d b g;rw[qB7] at c;have j:1<=a.length:=by
  cases Ad with
  |nil=>simp at f
  |cons x Ad=>exact V4 ((N.2 x).mpr (.ask (by simp)))
 exact h.2.2 _ (by lia) (by lia) (qPB N e c)
theorem sqo {b:Bool}{K:PySem.W.Frag}{H:Hp}{a:Addr}{xs:List V}(h:Rd H a (seqO b xs)):SqO b K H a xs:=by
 cases b with
 |true=>exact .inl h
 |false=>exact .inl h
theorem Rd.same {H H':Hp}{a:Addr}{o:HO}(h:Rd H a o)(s:Same H H'):Rd H' a o:=h.elim (λe=>.inl (s _ _ e)) λ⟨q,e⟩=>.inr ⟨q,s _ _ e⟩
structure Nev (Ae:List (List Int))(Aa:Int)(want:List Int)(ss:List (List Int)):Prop where
 rise:∀s∈ss,Rise (Ae.length:Int) s
 few:∀s∈ss,(s.length:Int)<=Aa
 nil:[]∈ss
 shut:∀s∈ss,∀m∈qCW Ae s Aa,behL s m∈ss
 no:∀s∈ss,¬ ∀x∈want,x∈s
structure NevP (Ae:List (List Int))(Aa:Int)(ss:List (List Int)):Prop where
 nd:ss.Nodup
 mem:∀s,s∈ss↔∃u,Pt Ae Aa u s
 so:ss.Pairwise λa b=>HT.lexLt b a=false
theorem Pt.few {Ae:List (List Int)}{Aa:Int}(a:0<=Aa){u:Nat}{s:List Int}(h:Pt Ae Aa u s):(s.length:Int)<=Aa:=by
 induction h with
 |zero=>exact a
 |@step t st m p hm ih=>
  rcases qHX p.rise hm with⟨e,l⟩|⟨_,l⟩
  ·have:=((due_iff.mp hm).2.1 e).2.2
   lia
  ·lia
theorem Rch.nevP {Ae:List (List Int)}{Aa:Int}{ks c:List (List Int)}{f:List Int->Nat}(h:Rch Ae Aa ks f)(d:c.Perm ks)(g:c.Pairwise λa b=>HT.lexLt b a=false):NevP Ae Aa c:=
 ⟨d.nodup_iff.mpr h.nd,λs=>d.mem_iff.trans ⟨λe=>let⟨u,m,_⟩:=h.snd s e;⟨u,m.1⟩,λ⟨u,p⟩=>h.all u s p⟩,g⟩
theorem Ent.keys1 {H:Hp}{f:List Int->Nat}:∀{Af:List (List Key×V)} {ks:List (List Int)},Ent H Af ks f->Af.map (·.1)=ks.map λt=>t.map (E3:Int->Key)
 |[],[],.nil=>rfl
 |_::_,_::_,.cons a b=>by rw[D0,D0,Ent.keys1 b,a.1];rfl
def qSX:Sp:=λvs H Q _=>∃(b:Bool) (a t:Addr) (st Ad:List Int),vs=[.ref a,.ref t]/\H a=some (.tup (st.map V.int))/\Rd H t (seqO b (Ad.map V.int))/\Ad.length<=1000/\∀H',Same H H'->Q (.bl (decide (∀x∈Ad,x∈st))) H'
def qSV:Sp:=λvs H Q _=>∃(o:Bool) (a l:Addr) (Ae:List (List Int)) (ws:List Int),vs=[.ref a,.ref l]/\NetAt H a Ae/\WFn Ae/\Ae.length<=60/\Rd H l (seqO o (ws.map V.int))/\Rise (Ae.length:Int) ws/\∀b H',Same H H'->NetAt H' b (qBB Ae ws)->Q (.ref b) H'
def qJ2:Sp:=λvs H Q _=>∃(a:Addr) (zs:List Int) (k:Int),vs=[.ref a,.int k]/\Rd H a (.tup (zs.map V.int))/\Rise k zs/\zs.length<=1000/\∀H',Same H H'->Q (.bl true) H'
def qN2:Sp:=λvs H Q _=>∃(a:Addr) (x y:V),vs=[.ref a]/\H a=some (.tup [x,y])/\Q (.bl true) H
def qN1:Sp:=λvs H Q _=>∃(a t:Addr) (Ae:List (List Int)) (Aa:Int) (zs:List Int),vs=[.ref a,.int Aa,.ref t]/\NetAt H a Ae/\Ae.length<=12/\H t=some (.tup (zs.map V.int))/\Rise (Ae.length:Int) zs/\(zs.length:Int)<=Aa/\∀H',Same H H'->Q (.bl true) H'
def qQ5:Sp:=λvs H Q _=>∃(a l:Addr) (Ae:List (List Int)) (Aa:Int) (want:List Int) (rs:List Addr) (ss:List (List Int)),vs=[.ref a,.int Aa,.ref l]/\NetAt H a Ae/\WFn Ae/\Ae.length<=12/\H l=some (.lst (rs.map V.ref))/\StL H rs ss/\ss.length<=5000/\Nev Ae Aa want ss/\∀H',Same H H'->Q (.bl true) H'
structure PapN (H:Hp)(T tw l:Addr)(ws:List Int)(rs:List Addr)(ss:List (List Int)):Prop where
 tup:H T=some (.tup [.ref tw,.ref l])
 works:BareT H tw (ws.map V.int)
 lst:H l=some (.lst (rs.map V.ref))
 at_:StL H rs ss
def qQ2 (Pt:Addr):Sp:=λvs H Q _=>∃(a t:Addr) (Ae:List (List Int)) (Ad ws:List Int) (Aa:Int),vs=[.ref a,.ref t,.int Aa]/\TabB H Pt/\NetAt H a Ae/\WFn Ae/\Ae.length<=12/\qHY H t Ae Ad/\1<=Ad.length/\qAL Ae Ad ws/\
 (qHD Ae ws Ad Aa->∀H',Same H H'->Q .non H')/\(¬qHD Ae ws Ad Aa->∀T tw l rs ss H',Same H H'->H T=none->H l=none->PapN H' T tw l ws rs ss->NevP (qBB Ae ws) Aa ss->(∀s∈ss,¬ ∀x∈qB9 ws Ad,x∈s)->ss.length<=4096->Q (.ref T) H')
open PySem PySem.Spec L2
theorem qJA (m j:Nat):(2^m-1).testBit j=decide (j<m):=Nat.testBit_two_pow_sub_one m j
theorem qYI {Ae:List (List Int)}(wf:WFn Ae):∀m,m<=Ae.length->Rm Ae (Ae.length:Int) m (2^m-1)
 |0,_=>.zero
 |m+1,h=>by
  have ih:=qYI wf m (by lia)
  have hz:=A3 (show m<Ae.length by lia)
  have rz:=wf m _ hz;have e:2^(m+1)-1=(2^m-1) ||| 2^m:=P2 λj=>by
   rw[d6,qJA,qJA,R3];by_cases c:j<m
   ·rw[decide_eq_true c,decide_eq_true (by lia:j<m+1),Bool.true_or]
   ·by_cases d:m=j
    ·rw[decide_eq_true d,decide_eq_true (by lia:j<m+1),Bool.or_true]
    ·rw[decide_eq_false c,decide_eq_false d,decide_eq_false (by lia:¬j<m+1)];rfl
  rw[e];refine .do_ ih ⟨?_,by lia,?_⟩
  ·have lt:cntN Ae.length (2^m-1)<=m:=by
    unfold cntN;rw[R1 (g:=λk=>if(decide (k<m))=true then 1 else 0) λk _=>by rw[qMP,qJA],qJ0]
    have nd:((F6 Ae.length).filter λk=>decide (k<m)).Nodup:=List.nodup_range.filter _;exact qDM nd λb hb=>of_decide_eq_true (C9.mp hb).2
   lia
  ·unfold nxt;rw[hz];refine P2 λj=>?_;rw[Z1,qJA];show(decide (j<m)&&(mskN Ae[m]).testBit j)=(mskN Ae[m]).testBit j;rw[qLZ rz.up (λx hx=>(rz.in_ x hx).1)];by_cases c:(j:Int)∈Ae[m]
   ·have:=(rz.in_ _ c).2;rw[decide_eq_true (by lia:j<m),j8]
   ·rw[decide_eq_false c,d0]
theorem qUT {Ae:List (List Int)}{a Ad:List Int}(d:WFn Ae)(N:qAL Ae Ad a):qHD Ae a Ad (a.length:Int):=by
 have e:WFn (qBB Ae a):=qBU d N.1;have R:=qYI e _ (A7 _);rw[qB7] at R;refine⟨_,_,R,P2 λj=>?_⟩;rw[Z1,qJA];unfold qIA;rw[qLZ ((qDE _ _).filter _) (λx b=>(mem_rangeI.mp (C9.mp b).1).1)];by_cases c:(j:Int)∈(qAV 0 a.length).filter λp=>decide ((a[p.toNat]?).getD 0∈Ad)
 ·have:=mem_rangeI.mp (C9.mp c).1;rw[decide_eq_true (by lia:j<a.length),j8]
 ·rw[decide_eq_false c,d0]
def PrvH (Ae:List (List Int))(Aa:Int)(ks:List (List Int))(f:List Int->Nat)(g:List Int->Prv):Prop:=Prov Ae Aa ks f g/\∃l,ks=[]::l
theorem PrvH.start {Ae:List (List Int)}{Aa:Int}:PrvH Ae Aa [[]] (λ_=>0) (λ_=>none):=⟨λs a=>.inl ⟨A6.mp a,rfl,rfl⟩,[],rfl⟩
theorem PrvH.snoc {Ae:List (List Int)} {Aa:Int} {ks:List (List Int)} {f:List Int->Nat} {g:List Int->Prv} {s:List Int} {m:Mv} {z:Nat} (b:s∈ks) (d:m∈qCW Ae s Aa) (c:behL s m∉ks) (o:z=if m.1=D3 "do" then 1 else 0) (h:PrvH Ae Aa ks f g):PrvH Ae Aa (ks++[behL s m]) (qIH f (behL s m) (f s+z)) (gset g (behL s m) (some (s,m))):=by
 obtain⟨h,l,n⟩:=h;refine⟨λx i=>?_,l++[behL s m],by rw[n];rfl⟩
 have j:∀y∈ks,gset g (behL s m) (some (s,m)) y=g y:=λy q=>if_neg λe=>c (by rw[<- e];exact q)
 rcases A8.mp i with k|k
 ·rw[qIR k c,j x k];rcases h x k with a|⟨p,mm,a1,a2,a3,a4,a5⟩
  ·exact .inl a
  ·exact .inr ⟨p,mm,a1,A8.mpr (.inl a2),a3,a4,by rw[qIR a2 c];exact a5⟩
 ·rw[A6.mp k];refine .inr ⟨s,m,if_pos rfl,A8.mpr (.inl b),d,rfl,?_⟩;rw[qL0,qIR b c,o]
def qLG:Sp:=λvs H Q _=>∃(a:Addr) (Ae:List (List Int)) (Aa:Int),vs=[.ref a,.int Aa]/\NetAt H a Ae/\WFn Ae/\Ae.length<=12/\
 ∀d o Af ks f g H',Same H H'->H d=none->H' d=some (.frz o (.dT Af))->EntX H' Af ks f g->Rch Ae Aa ks f->PrvH Ae Aa ks f g->Q (.ref d) H'
def qSU:Sp:=λvs H Q _=>∃(d t:Addr) (o:Obj) (Af:List (List Key×V)) (Ae:List (List Int)) (Aa:Int) (ks:List (List Int)) (f:List Int->Nat) (g:List Int->Prv) (s:List Int),vs=[.ref d,.ref t]/\H d=some (.frz o (.dT Af))/\EntX H Af ks f g/\WFn Ae/\Rch Ae Aa ks f/\PrvH Ae Aa ks f g/\ks.length<=4096/\H t=some (.tup (s.map V.int))/\s∈ks/\
 ∀l H',Same H H'->H l=none->qRG H' l (pth f g s)->Q (.ref l) H'
def FewP (Ae:List (List Int))(Ad:List Int)(r:Int)(ms:List Mv):Prop:=∃ws ks f g s,qAL Ae Ad ws/\LeastR Ae ws Ad r/\Rch (qBB Ae ws) r ks f/\Prov (qBB Ae ws) r ks f g/\(s∈ks/\∀x∈qB9 ws Ad,x∈s)/\ms=renM ws (pth f g s)
def qXO (Pt:Addr):Sp:=λvs H Q _=>∃(a t:Addr) (Ae:List (List Int)) (Ad:List Int),vs=[.ref a,.ref t]/\TabB H Pt/\NetAt H a Ae/\WFn Ae/\Ae.length<=12/\qHY H t Ae Ad/\1<=Ad.length/\
 ∀T l r ms H',Same H H'->FewP Ae Ad r ms->H l=none->qRG H' l ms->H' T=some (.tup [.int r,.ref l])->Q (.ref T) H'
theorem FewP.lr {Ae:List (List Int)}{Ad a:List Int}{r:Int}{d:List Mv}(h:FewP Ae Ad r d)(N:qAL Ae Ad a):LeastR Ae a Ad r:=by
 obtain⟨e,i,f,g,s,c,b,_⟩:=h;rw[qKR N c];exact b
theorem FewP.run {Ae:List (List Int)}{Ad:List Int}(wf:WFn Ae)(ra:Rise (Ae.length:Int) Ad)(u:Ae.length<=12){r:Int}{c:List Mv}(h:FewP Ae Ad r c):∃last,Run Ae r [] c last/\(∀x∈Ad,x∈last)/\MvOk Ae c/\c.length<=4096:=by
 obtain⟨a,ks,f,g,s,N,a2,o,w,B,e⟩:=h;have y:=qBU wf N.1;have q:=qB7 Ae a;have lw:=N.1.len;obtain⟨R,_,l,ln⟩:=qOS y o w B.1;have lk:=o.len;have pw:2^(qBB Ae a).length<=2^12:=J7 (by decide) (by lia)
 refine⟨s.map (renW a),?_,λx p=>?_,λm n=>?_,?_⟩
 ·rw[e];exact qW3 N R (λ_ z=>nomatch z) l
 ·have j:x∈a:=(N.2 x).mpr (.ask p);obtain⟨i,b⟩:=F9 j;exact D8.mpr ⟨(i:Int),B.2 _ (Y6.mpr ⟨x,p,qD4 N.1.nodup b⟩),qQD b⟩
 ·rw[e] at n;obtain⟨k,d,t⟩:=D8.mp n;obtain⟨h1,h2,v⟩:=l k d;rw[q] at v;have b:k.2.toNat<a.length:=by lia
  have j:renW a k.2∈a:=by unfold renW;rw[A3 b];exact X5 b
  rw[<- t];exact⟨h1,N.1.in_ _ j⟩
 ·rw[e];unfold renM;rw[A0]
  lia
section
variable{Ae:List (List Int)}{Ad ws:List Int}{Aa:Int}
theorem qFE {st:List Int} {m:Mv} (a:m.1 = "do"\/m.1 = "clear") (x:Int):x∈behL st m↔(m.1 = "do"/\(x∈st\/x=m.2))\/(m.1 = "clear"/\x∈st/\x≠m.2):=by
 unfold behL;rcases a with e|e
 ·rw[if_pos (by rw[e]),mem_insL]
  exact⟨λh=>.inl ⟨e,h⟩,λh=>h.elim (·.2) λh=>absurd (e.symm.trans h.1) (by decide)⟩
 ·rw[if_neg (by rw[e];decide),C9,decide_eq_true_eq]
  exact⟨λh=>.inr ⟨e,h⟩,λh=>h.elim (λh=>absurd (e.symm.trans h.1) (by decide)) (·.2)⟩
theorem prj (rW:Rise (Ae.length:Int) ws){t:Nat}{s:List Int}(h:Pt Ae Aa t s):∃u,Pt (qBB Ae ws) Aa u (qB9 ws s):=by
 have up:=rW.up;have f:=rW.nodup
 induction h with
 |zero=>exact⟨0,.zero⟩
 |@step t st m p hm ih=>
  obtain⟨u,P⟩:=ih;have w:=(Pt.step p hm).rise;obtain⟨⟨k,h0,h1⟩,r,hc⟩:=due_iff.mp hm;by_cases c:m.2∈ws
  ·obtain⟨i,n⟩:=F9 c;have li:=(A4.mp n).1;have o:∀{z:List Int},(i:Int)∈qB9 ws z↔m.2∈z:=λ{z}=>(qBR f).trans ⟨λ⟨_,y,e,g⟩=>by rw[B8,n] at e;cases e;exact g,λh=>⟨by lia,m.2,by rw[B8];exact n,h⟩⟩
   have q:(m.1,(i:Int))∈qCW (qBB Ae ws) (qB9 ws st) Aa:=due_iff.mpr ⟨⟨k,by show(0:Int)<=(i:Int);lia,by rw[qB7];show(i:Int)<_;lia⟩,λe=>⟨λz=>(r e).1 (o.mp z),λy g=>?_,?_⟩,λe=>o.mpr (hc e)⟩
   ·have v:qB9 ws (behL st m)=behL (qB9 ws st) (m.1,(i:Int)):=qHH (qI0 up w.up) (Pt.step P q).rise.up λx=>by
     rw[qFE (m:=(m.1,(i:Int))) k,show x∈qB9 ws (behL st m)↔_ from qBR f,show x∈qB9 ws st↔_ from qBR f]
     constructor
     ·rintro⟨j,y,e,g⟩;rcases(qFE k y).mp g with⟨a,b|b⟩|⟨a,b,d⟩
      ·exact .inl ⟨a,.inl ⟨j,y,e,b⟩⟩
      ·refine .inl ⟨a,.inr ?_⟩;subst b;have:=qD4 f n;rw[qD4 f e] at this;show x=(i:Int);have:=D5 this
       lia
      ·refine .inr ⟨a,⟨j,y,e,b⟩,λz=>d ?_⟩;have z:x=(i:Int):=z;rw[z,B8,n] at e;exact(D5 e).symm
     ·rintro(⟨a,⟨j,y,e,g⟩|b⟩|⟨a,⟨j,y,e,g⟩,d⟩)
      ·exact⟨j,y,e,(qFE k y).mpr (.inl ⟨a,.inl g⟩)⟩
      ·have b:x=(i:Int):=b;exact⟨by lia,m.2,by rw[b,B8];exact n,(qFE k _).mpr (.inl ⟨a,.inr rfl⟩)⟩
      ·refine⟨j,y,e,(qFE k y).mpr (.inr ⟨a,g,λz=>d ?_⟩)⟩;subst z;have:=qD4 f n;rw[qD4 f e] at this;show x=(i:Int);have:=D5 this
       lia
    exact⟨u+1,by rw[v];exact .step P q⟩
   ·unfold nd at g;rw[B8,qFB n,X3] at g;obtain⟨y0,z,ez,hz⟩:=(qBR f).mp g;exact(qBR f).mpr ⟨y0,z,ez,(r e).2.1 z hz⟩
   ·have:=(r e).2.2;have l:(qB9 ws st).length<=st.length:=O6 _ _
    lia
  ·have v:qB9 ws (behL st m)=qB9 ws st:=qHH (qI0 up w.up) (qI0 up p.rise.up) λx=>by
    rw[show x∈qB9 ws (behL st m)↔_ from qBR f,show x∈qB9 ws st↔_ from qBR f];have ne:∀{y:Int},ws[x.toNat]?=some y->y≠m.2:=λe z=>c (by rw[<- z];exact B0 e)
    constructor
    ·rintro⟨j,y,e,g⟩;rcases(qFE k y).mp g with⟨a,b|b⟩|⟨a,b,d⟩
     ·exact⟨j,y,e,b⟩
     ·exact absurd b (ne e)
     ·exact⟨j,y,e,b⟩
    ·rintro⟨j,y,e,g⟩;refine⟨j,y,e,(qFE k y).mpr ?_⟩;rcases k with a|a
     ·exact .inl ⟨a,.inl g⟩
     ·exact .inr ⟨a,g,ne e⟩
   exact⟨u,by rw[v];exact P⟩
end
theorem qa2 {zs:List Int}{g:Int->Option Int}{j:Nat}{z:Int}(h:zs[j]?=some z):(zs.take (j+1)).filterMap g=(zs.take j).filterMap g++(g z).toList:=by
 rw[C5,h,C6,T0];cases e:g z<;>simp[e]
structure NevW (Ae:List (List Int))(Aa:Int)(ss:List (List Int)):Prop where
 rise:∀s∈ss,Rise (Ae.length:Int) s
 few:∀s∈ss,(s.length:Int)<=Aa
 nil:[]∈ss
 shut:∀s∈ss,∀m∈qCW Ae s Aa,behL s m∈ss
section
variable{Ae:List (List Int)}{Ad ws:List Int}{Aa:Int}{ss:List (List Int)}
theorem NevW.nev1 (h:NevW Ae Aa ss):Nev Ae Aa [-1] ss:=
 ⟨h.rise,h.few,h.nil,h.shut,λs a b=>by have:=((h.rise s a).in_ (-1) (b _ (A6.mpr rfl))).1;lia⟩
theorem qZI (b:0<=Aa)(h:∀s,s∈ss↔∃u,Pt Ae Aa u s):NevW Ae Aa ss:=by
 refine⟨λs a=>?_,λs a=>?_,(h _).mpr ⟨0,.zero⟩,λs a m c=>?_⟩
 ·obtain⟨u,p⟩:=(h s).mp a;exact p.rise
 ·obtain⟨u,p⟩:=(h s).mp a;exact p.few b
 ·obtain⟨u,p⟩:=(h s).mp a;exact(h _).mpr ⟨u+1,.step p c⟩
def stB (m b:Nat):List Int:=(qAV 0 m).filter λk=>decide ((b/2^k.toNat%2:Nat)=1)
theorem mem_stB {m b:Nat}{x:Int}:x∈stB m b↔(0<=x/\x<(m:Int))/\b.testBit x.toNat=true:=by
 unfold stB;rw[C9,mem_rangeI,decide_eq_true_eq,qMP];by_cases c:b.testBit x.toNat=true
 ·rw[if_pos c];simp[c]
 ·rw[if_neg c];simp[c]
theorem qIL (m b:Nat):Rise (m:Int) (stB m b):=⟨(qDE _ _).filter _,λx a=>(mem_stB.mp a).1⟩
theorem qOJ {n:Nat}{st:List Int}(r:Rise (n:Int) st):stB n (mskN st)=st:=qHH (qIL _ _).up r.up λx=>by
 rw[mem_stB,qAX r]
 constructor
 ·rintro⟨⟨b,_⟩,e⟩;have:=of_decide_eq_true e
  rwa[show((x.toNat:Nat):Int)=x by lia] at this
 ·intro a;have:=r.in_ x a;exact⟨this,decide_eq_true (by rw[show((x.toNat:Nat):Int)=x by lia];exact a)⟩
theorem qZL {n b:Nat}(h:b<2^n):mskN (stB n b)=b:=P2 λj=>by
 rw[qAX (qIL n b)];by_cases c:b.testBit j=true
 ·have a:j<n:=by
   apply F0;intro z;rw[Nat.testBit_lt_two_pow (D4 h (J7 (by decide) (by lia)))] at c
   cases c
  rw[c];exact decide_eq_true (mem_stB.mpr ⟨by lia,by rw[B8];exact c⟩)
 ·rw[G4.mpr c];exact decide_eq_false λz=>c (by have:=(mem_stB.mp z).2;rwa[B8] at this)
theorem qPQ (c:WFn Ae){a:List Nat}{g:Nat->Nat}(C:Come Ae Aa a g)(e:ss.Perm (a.map (stB Ae.length)))(s:List Int):s∈ss↔∃u,Pt Ae Aa u s:=by
 rw[e.mem_iff,D8]
 constructor
 ·rintro⟨b,d,rfl⟩;obtain⟨f,t,rfl,P,_⟩:=(C.snd b d).1.path c;rw[qOJ P.rise];exact⟨t,P⟩
 ·rintro⟨u,P⟩;obtain⟨m,_,R⟩:=P.bits c;exact⟨_,C.all _ _ R,qOJ P.rise⟩
theorem qPX {x:Int}(e:ws.Nodup):x∈(qAV 0 ws.length).filter (λp=>decide ((ws[p.toNat]?).getD 0∈Ad))↔x∈qB9 ws Ad:=by
 rw[C9,show x∈qB9 ws Ad↔_ from qBR e,mem_rangeI,decide_eq_true_eq]
 constructor
 ·rintro⟨⟨b,f⟩,a⟩;have c:x.toNat<ws.length:=by lia
  rw[A3 c] at a ⊢;exact⟨b,_,rfl,a⟩
 ·rintro⟨b,y,d,a⟩;have c:=(A4.mp d).1;rw[d];exact⟨⟨b,by lia⟩,a⟩
theorem qSP:Rise (ws.length:Int) ((qAV 0 ws.length).filter λp=>decide ((ws[p.toNat]?).getD 0∈Ad)):=⟨(qDE _ _).filter _,λx a=>mem_rangeI.mp (C9.mp a).1⟩
theorem qXC (l:WFn Ae)(f:Rise (Ae.length:Int) ws){d:List Nat}{g:Nat->Nat}(C:Come (qBB Ae ws) Aa d g)(j:ss.Perm (d.map (stB (qBB Ae ws).length))):(∀s∈ss,¬ ∀x∈qB9 ws Ad,x∈s)↔∀b∈d,¬b &&& qIA ws Ad=qIA ws Ad:=by
 have c:=qBU l f;have a:∀st:List Int,Rise ((qBB Ae ws).length:Int) st->(mskN st &&& qIA ws Ad=qIA ws Ad↔∀x∈qB9 ws Ad,x∈st):=λst r=>by
  have q:Rise ((qBB Ae ws).length:Int) ((qAV 0 ws.length).filter λp=>decide ((ws[p.toNat]?).getD 0∈Ad)):=by rw[qB7];exact qSP
  unfold qIA;rw[qGJ r q];exact⟨λh x i=>h x ((qPX f.nodup).mpr i),λh x i=>h x ((qPX f.nodup).mp i)⟩
 constructor
 ·intro h b k e;obtain⟨st,t,rfl,P,_⟩:=(C.snd b k).1.path c;exact h st ((qPQ c C j st).mpr ⟨t,P⟩) ((a st P.rise).mp e)
 ·intro h s o n;obtain⟨u,P⟩:=(qPQ c C j s).mp o;obtain⟨m,_,R⟩:=P.bits c;exact h _ (C.all _ _ R) ((a s P.rise).mpr n)
theorem qZD {a:Int}{f:List Mv}{b:List Int}(g:WFn Ae)(c:Rise (Ae.length:Int) ws)(R:Run Ae a [] f b)(j:MvOk Ae f)(n:∀x∈Ad,x∈b)(h:∀s,(∃u,Pt (qBB Ae ws) Aa u s)->¬ ∀x∈qB9 ws Ad,x∈s):Aa<a:=by
 apply F0;intro z;have P:=qXS R (λm k=>(j m k).2) .zero;obtain⟨m,_,i⟩:=P.bits g;obtain⟨r,t,e,d,_⟩:=(i.mono (show a<=Aa by lia)).path g
 have:=qP5 P.rise d.rise e;subst this;obtain⟨u,Q⟩:=prj c d;refine h _ ⟨u,Q⟩ λx p=>?_;obtain⟨o,y,l,q⟩:=(qBR c.nodup).mp p;exact(qBR c.nodup).mpr ⟨o,y,l,n y q⟩
theorem qa3 (wf:WFn Ae){n:Nat}(hn:Ae.length=n){c:Int}(t:2<=c){B:List Nat}(p:∀b,b∈B↔b<2^n/\(cntN n b:Int)<c)(pm:ss.Perm (B.map (stB n))):NevW Ae (c-1) ss/\∀s,s∈ss↔Rise (Ae.length:Int) s/\(s.length:Int)<c:=by
 have d:∀s,s∈ss↔Rise (Ae.length:Int) s/\(s.length:Int)<c:=λs=>by
  rw[pm.mem_iff,D8,hn]
  constructor
  ·rintro⟨b,g,rfl⟩;obtain⟨v,h3⟩:=(p b).mp g;have:=qMJ (qIL n b);rw[qZL v] at this;exact⟨qIL n b,by lia⟩
  ·rintro⟨r,l⟩;have w:mskN s<2^n:=by
    apply F0;intro z;obtain⟨j,hj,e⟩:=Nat.exists_ge_and_testBit_of_ge_two_pow (show 2^n<=mskN s by lia)
    rw[qAX r] at e;have:=(r.in_ _ (of_decide_eq_true e)).2
    lia
   have:=qMJ r;exact⟨mskN s,(p _).mpr ⟨w,by lia⟩,qOJ r⟩
 refine⟨⟨λs f=>((d s).mp f).1,λs f=>?_,(d _).mpr ⟨⟨b8,λ_ z=>nomatch z⟩,by show((0:Nat):Int)<c;lia⟩,λs f m i=>?_⟩,d⟩
 ·have:=((d s).mp f).2
  lia
 ·obtain⟨r,l⟩:=(d s).mp f;have y:Rise (Ae.length:Int) (behL s m):=by
   obtain⟨⟨o,h0,t⟩,u,hc⟩:=due_iff.mp i;refine⟨?_,λx hx=>?_⟩
   ·rcases o with e|e
    ·have nb:=(u e).1;have le:(behL s m).Pairwise (·<=·):=by unfold behL;rw[if_pos (by rw[e])];exact qPE (r.up.imp λh=>by lia)
     have k:(behL s m).Nodup:=by
      unfold behL;rw[if_pos (by rw[e]),(qE7 s m.2).nodup_iff]
      exact c8.mpr ⟨r.nodup,by simp,λa ha b g e=>nb (by rw[A6] at g;rw[<- g,<- e];exact ha)⟩
     exact qDU le k
    ·unfold behL;rw[if_neg (by rw[e];decide)]
     exact r.up.filter _
   ·rcases(qFE o x).mp hx with⟨_,a|a⟩|⟨_,a,_⟩
    ·exact r.in_ x a
    ·rw[a];exact⟨h0,t⟩
    ·exact r.in_ x a
  refine(d _).mpr ⟨y,?_⟩;rcases qHX r i with⟨e,q⟩|⟨e,q⟩
  ·have:=((due_iff.mp i).2.1 e).2.2
   lia
  ·lia
end
theorem qY4 {B:List Nat}{g:Nat->Nat}{i:Nat}{k:Key}{v:V}(h:(kvN B g)[i]?=some (k,v)):∃b:Nat,B[i]?=some b/\k=E3 (b:Int):=by
 unfold kvN at h;rw[B6] at h;cases e:B[i]? with
 |none=>rw[e] at h;cases h
 |some x=>rw[e] at h;cases h;exact⟨x,rfl,rfl⟩
theorem qWL (a b:List Nat):natI (a++b)=natI a++natI b:=by simp[natI]
def qKI:Sp:=λvs H Q _=>∃(a lw l:Addr) (Ae:List (List Int)) (Aa:Int) (want:List Int) (rs:List Addr) (ss:List (List Int)),vs=[.ref a,.ref lw,.int Aa,.ref l]/\NetAt H a Ae/\WFn Ae/\Ae.length<=12/\H lw=some (.lst (want.map V.int))/\want.length<=1000/\H l=some (.lst (rs.map V.ref))/\StL H rs ss/\ss.length<=5000/\NevW Ae Aa ss/\∀b H',Same H H'->(b=true↔∀s∈ss,¬ ∀x∈want,x∈s)->Q (.bl b) H'
def qLF:Sp:=λvs H Q _=>∃(a t T tw l:Addr) (Ae:List (List Int)) (Ad ws:List Int) (Aa:Int) (rs:List Addr) (ss:List (List Int)),vs=[.ref a,.ref t,.int Aa,.ref T]/\NetAt H a Ae/\WFn Ae/\Ae.length<=12/\qHY H t Ae Ad/\PapN H T tw l ws rs ss/\Rise (Ae.length:Int) ws/\qB9 ws Ad≠[]/\ss.length<=5000/\NevW (qBB Ae ws) Aa ss/\∀b H',Same H H'->(b=true↔∀s∈ss,¬ ∀x∈qB9 ws Ad,x∈s)->Q (.bl b) H'
def qN0:Sp:=λvs H Q _=>∃(d c a t:Addr) (k:Int) (ms:List Int) (Ae:List (List Int)) (Ad:List Int),vs=[.ref d,.ref a,.ref t]/\StAt H d c k ms/\k<=TB-100/\NetAt H a Ae/\WFn Ae/\1<=Ae.length/\Ae.length<=10/\qHY H t Ae Ad/\1<=Ad.length/\
 ∀r ws k' ms' H',StAt H' d c k' ms'->k<=k'->k'<=k+20->Keep d c H H'->BareT H' r (ws.map V.int)->Rise (Ae.length:Int) ws->(∃x∈Ad,x∈ws)->Q (.ref r) H'
def qHI:Sp:=λvs H Q _=>∃(d c f:Addr) (k:Int) (ms:List Int) (m:Nat) (B:List Nat),vs=[.ref d,.ref f,.int (m:Int)]/\StAt H d c k ms/\k<=TB-20000/\m<=12/\B.length<=4096/\((f≠c/\H f=some (.lst ((natI B).map V.int)))\/∃(o:Obj) (g:Nat->Nat),H f=some (.frz o (.dK (kvN B g))))/\
 ∀l rs ss k' ms' H',StAt H' d c k' ms'->k<=k'->k'<=k+5000->Keep d c H H'->H' l=some (.lst (rs.map V.ref))->StL H' rs ss->ss.Perm (B.map (stB m))->Q (.ref l) H'
def qSW (Pt:Addr):Sp:=λvs H Q _=>∃(d c a t:Addr) (k:Int) (ms:List Int) (Ae:List (List Int)) (Ad wn:List Int) (most:Int) (mv:List Mv) (last:List Int),vs=[.ref d,.ref a,.ref t,.int most]/\StAt H d c k ms/\k<=TB-30000/\TabB H Pt/\NetAt H a Ae/\WFn Ae/\1<=Ae.length/\Ae.length<=10/\qHY H t Ae Ad/\1<=Ad.length/\qAL Ae Ad wn/\LeastR Ae wn Ad most/\most<=12/\Run Ae most [] mv last/\MvOk Ae mv/\(∀x∈Ad,x∈last)/\
 ∀k' ms' H',StAt H' d c k' ms'->k<=k'->k'<=k+6000->Keep d c H H'->Q (.bl true) H'
section
variable{P:B20}{w:World}{K:PySem.W.Frag}{mg:Str->Option Value}{base:Heap}{f:Addr}{fd:B37}{qE3 qEU qGH qFM qET qHV qHA f_played qcE qG2 qCM Pt cc qDW qE9 qCN qC3 qDB qJZ qV0 qGG qHU qES qHT qFN qK0 qDL qK1 qM9 qPJ qPK qPL qD7 qDX qER qMA qV1 qMB qM8 qFO:Addr}{qDV qKB qNS qM5 qKA qPI qL3 fd_played qJX qFK qH8 qGF qFL qE8 qJY qSD qa4 qNR qPH qI4 qPG qM6 qSE qII qSF qUX qX9 qXA qXB qG8 qH9 qK9 qUY qa5 qUZ qUW qM7:B37}
theorem sc_Lbegin:FnScope ["_law_script","_law_cells"] ["_law_script"] (qAB qIO):=qBN
theorem ok_Lbegin (F:Fun K "_law_begin" "_law_begin" qIO f fd) (a0:mg "list" = none):FnOk P w K mg base CX0 1 f fd ["_law_script"] (qT1 K):=by
 refine F.okA sc_Lbegin λa1 A u s H vs Q E hr h=>?_;obtain⟨a,m,rfl,hS,t,q⟩:=h;have hu:=qIG hr;have v:=hr.units0;refine⟨_,(qA4 (qAF (i:=1) sc_Lbegin.nd rfl (E6 rfl) (qAD qI6 rfl a0 qPS (qA0 (qLU qOM (pv 0) qOV (qOU qA7)) qA3))) (qA4 (qC0 (qAQ (qTT v) (pv 1) (qBP qA3) (qAW _)) (qA6 (qAF (i:=1) sc_Lbegin.nd rfl (E6 rfl) (qBP (qA0 qA7 qA3)))) qAR) (qA6 (qAH (qTN (qLR qCY (pv 1) (qLR qCY qA7 qTC)) rfl rfl (by simp) (by decide)))))),?_⟩
 try dsimp only[Cx.nox,Cx.wish,cxOf]
 refine⟨_,rfl,_,rfl,a,_,rfl,hS,λp hp=>?_⟩;rw[qMH];have hl:(cutI m none (some 63)).length<=63:=F3 (qXG _ _ _) t;refine⟨p,_,rfl,.inl (SqL.of qA1),λc z=>?_⟩;have s1:Same H (Ag (Ag H p (.lst ((cutI m none (some 63)).map V.int))) c (.lst ((cutI m none (some 63)).map V.int))):=(qA2 hp _).trans (qA2 z _);refine⟨_,rfl,(by show 0<=B18;decide),λe n=>?_⟩
 have l:c≠e:=qA5 qA1 n;refine⟨c,e,_,rfl,rfl,SqL.of (by rw[qAA l];exact qA1),SqL.of qA1,_,rfl,?_⟩
 have j:=s1.trans (qA2 n (.lst []));cases hm:cutI m none (some 63) with
 |nil=>
  rw[hm] at j n;refine iteT ?_;refine⟨(by show 1<=B18;decide),λo k=>?_⟩
  have y:=j.trans (qA2 k (.lst [.int 7]));intro d g;refine⟨_,rfl,?_⟩;have s4:=y.trans (qA2 g (.dK []));refine⟨qA1,[(L9 (D3 "cells"),.ref o),(L9 (D3 "turn"),.int 0)],rfl,(by show 2<=15;decide),?_⟩
  have b:o≠d:=qA5 qA1 g;refine q d o [7] _ ⟨?_,?_,by decide,by decide,by decide⟩ ?_ ?_ ?_
  ·rw[qA1,qY0]
  ·rw[qAA b,qAA b];exact qA1
  ·rw[qIY];exact y.trans (qA2 g _)
  ·exact y.free g
  ·exact j.free k
 |cons x r=>
  rw[hm] at j n hl;refine iteF ?_;intro d g;refine⟨_,rfl,?_⟩;refine⟨qA1,[(L9 (D3 "cells"),.ref c),(L9 (D3 "turn"),.int 0)],rfl,(by show 2<=15;decide),?_⟩
  have gc:(Ag (Ag (Ag H p (.lst ((x::r).map V.int))) c (.lst ((x::r).map V.int))) e (.lst [])) c=some (.lst ((x::r).map V.int)):=by rw[qAA l];exact qA1
  have b:c≠d:=qA5 gc g;refine q d c (x::r) _ ⟨?_,?_,by simp,hl,by decide⟩ ?_ ?_ ?_
  ·rw[qA1,qY0]
  ·rw[qAA b,qAA b];exact gc
  ·rw[qIY];exact j.trans (qA2 g _)
  ·exact j.free g
  ·rw[hm] at z;exact(qA2 hp _).free z
theorem sc_Ltake:FnScope ["_law_state","_law_many","_law_turn","_law_place","_law_cell","_law_digit","_law_mixed"] ["_law_state","_law_many"] (qAB qLM):=qBN
theorem ok_Ltake (F:Fun K "_law_take" "_law_take" qLM f fd) (qB5:mg "len" = none) (a1:mg "divmod" = none):FnOk P w K mg base CX0 1 f fd ["_law_state","_law_many"] qGN:=by
 refine F.okA sc_Ltake λa5 A a0 s H vs Q E hr h=>?_;obtain⟨d,c,t,g,m,rfl,S,ht,a4,a6,q⟩:=h;have v:=qIG hr;refine⟨_,(qA4 (qAF (i:=2) sc_Ltake.nd rfl (E6 rfl) (qAN qDS (qDG v (pv 0) qCY (λ_ _=>rfl)) qA7)) (qA4 (qEL v (pv 0) qCY (pv 2) rfl) (qA4 (qAF (i:=3) sc_Ltake.nd rfl (E6 rfl) (qAN qJF (pv 2) (qA9 qA8 rfl qB5 qB1 (qA0 (qDG v (pv 0) qCY (λ_ _=>rfl)) qA3)))) (qA4 (qAF (i:=4) sc_Ltake.nd rfl (E6 rfl) (qBQ qCU (qDG v (pv 0) qCY (λ_ _=>rfl)) (pv 3) (λ_ _=>rfl))) (qA4 (qC0 (qAQ qWH (pv 4) (qAN qbL qA7 qA7) (qAW _)) (qA4 (qTA (qA9 qPR rfl a1 qVN (qA0 (pv 4) (qA0 (pv 1) qA3))) (qTI rfl (qC1 (qTJ (qDG v (pv 0) qCY (λ_ _=>rfl)) (pv 3) qLK) (qC1 (qAZ (i:=5) sc_Ltake.nd rfl (E6 rfl)) qHK)))) (qA6 (qAH (pv 5)))) qAR) (qA4 (qAF (i:=6) sc_Ltake.nd rfl (E6 rfl) (qAN qJF (qAN qJE (qAN qDS (qAN qDS (qAN qJF (pv 4) qA7) (qAN qJE (qAN qJE (pv 2) (pv 2)) qA7)) qA7) qA7) qA7)) (qA4 (qAF (i:=6) sc_Ltake.nd rfl (E6 rfl) (qAN qJF (qAN qJE (pv 6) (pv 6)) qA7)) (qA6 (qAH (qAN qJF (qAN qP0 (qAN qJF (qAN qJE (qAN qDS (pv 6) (qAN qJE (pv 2) qA7)) qA7) qA7) qA7) (pv 1))))))))))),?_⟩
 try dsimp only[Cx.nox,Cx.wish,cxOf]
 have a2:=S.pos;have a7:=S.ne;have a3:t<=1000000000:=ht;refine⟨_,rfl,d,_,rfl,qa9 S,_,_,rfl,rfl,?_⟩;refine⟨_,rfl,_,rfl,d,_,rfl,qa7 S,?_⟩;have l:=S.turn (u:=t+1) (by lia)
 have k1:Keep d c H (Ag H d (.dK [(L9 (D3 "cells"),.ref c),(L9 (D3 "turn"),.int (t+1))])):=λb o e n _=>by rw[qAA n];exact e
 generalize Ag H d (.dK [(L9 (D3 "cells"),.ref c),(L9 (D3 "turn"),.int (t+1))])=H1 at l k1;have k:(((g.map V.int).length:Nat):Int)=(g.length:Int):=by rw[A0]
 refine⟨_,rfl,_,rfl,d,_,rfl,qME l,c,_,rfl,.inl (SqL.of l.list),_,_,rfl,rfl,(by rw[k];lia),?_⟩
 have p0:0<=(t+1)%(((g.map V.int).length:Nat):Int):=V8 _ (by rw[k];lia)
 have p1:(t+1)%(((g.map V.int).length:Nat):Int)<(g.length:Int):=by
  have:=R7 (t+1) (b:=(((g.map V.int).length:Nat):Int)) (by rw[k];lia)
  rw[k] at this ⊢;exact this
 dsimp only;generalize (t+1)%(((g.map V.int).length:Nat):Int)=pl at p0 p1;obtain⟨j,rfl⟩:∃j:Nat,pl=(j:Int):=⟨pl.toNat,by lia⟩
 have hj:j<g.length:=by lia
 have r:atI (g.map V.int) (j:Int)=some (.int g[j]):=qVP (by rw[B6,A3 hj];rfl)
 refine⟨_,rfl,d,_,rfl,qME l,_,rfl,c,_,_,_,rfl,rfl,SqL.of l.list,r,?_⟩;generalize hx:g[j]=x at r ⊢;refine⟨_,rfl,_,_,rfl,rfl,⟨by decide,by decide,by decide⟩,_,_,rfl,rfl,_,rfl,?_⟩
 refine ite2 (λ_=>?_) (λ_=>?_)
 ·-- a great cell
  refine⟨_,rfl,_,rfl,x,m,rfl,⟨by lia,by lia⟩,λp hp=>?_⟩
  have S2:=l.new hp (.tup [.int (x/m),.int (x%m)]);have a8:p≠c:=(qA5 l.list hp).symm;refine⟨p,_,rfl,SqT.of qA1,rfl,_,_,rfl,?_⟩;refine⟨_,rfl,d,_,rfl,qME S2,_,rfl,c,_,_,j,rfl,rfl,S2.list,qUH (by rw[A0];exact hj),?_⟩
  refine⟨_,_,rfl,rfl,?_⟩;refine⟨_,rfl,?_⟩;have e1:(g.map V.int).set j (.int (x/m))=(g.set j (x/m)).map V.int:=by rw[A66]
  rw[e1];refine q (x%m) (g.set j (x/m)) _ (V8 _ (by lia)) (R7 _ (by lia)) (S2.put (by rw[A09])) ?_
  have k2:=k1.trans (qD5 (d:=d) (c:=c) hp (.tup [.int (x/m),.int (x%m)]));exactλb o e n1 n2=>by rw[qAA n2];exact k2 b o e n1 n2
 ·have b1:0<=x%2147483629:=V8 _ (by decide)
  have b2:x%2147483629<2147483629:=R7 _ (by decide)
  refine⟨_,rfl,_,_,rfl,rfl,(by show(0:Int)<2147483629;decide),_,rfl,_,rfl,_,_,rfl,rfl,.inl ⟨by lia,by lia⟩,_,_,rfl,rfl,.inr ⟨by decide,by decide⟩,_,_,rfl,rfl,_,_,rfl,rfl,_,_,rfl,rfl,.inr ⟨by decide,by decide⟩,_,_,rfl,rfl,(by show(0:Int)<2147483647;decide),?_⟩
  have c1:=V8 ((x%2147483629+(t+1)*(t+1)*7919+11)*48271) (b:=2147483647) (by decide)
  have c2:=R7 ((x%2147483629+(t+1)*(t+1)*7919+11)*48271) (b:=2147483647) (by decide)
  dsimp only;generalize ((x%2147483629+(t+1)*(t+1)*7919+11)*48271)%2147483647=y at c1 c2;refine⟨_,rfl,_,rfl,_,_,rfl,rfl,.inl ⟨by lia,by lia⟩,_,_,rfl,rfl,(by show(0:Int)<2147483587;decide),?_⟩
  dsimp only;generalize y*y%2147483587=z;refine⟨_,rfl,_,rfl,_,_,rfl,rfl,.inr ⟨by decide,by decide⟩,_,_,rfl,rfl,_,_,rfl,rfl,.inr ⟨by decide,by decide⟩,_,_,rfl,rfl,(by show(0:Int)<2147483629;decide),_,_,rfl,rfl,⟨by decide,by decide⟩,_,rfl,_,_,rfl,rfl,(by lia),?_⟩
  exact q _ g _ (V8 _ (by lia)) (R7 _ (by lia)) l k1
theorem sc_Lsome_needs:FnScope ["_law_state","_law_k","_law_found","_law_turn","_law_far"] ["_law_state","_law_k"] (qAB qD3):=qBN
theorem ok_Lsome_needs (F:Fun K "_law_some_needs" "_law_some_needs" qD3 f fd) (u:Clb P w K mg base 1 qE3 qDV "_law_take" ["_law_state","_law_many"] qGN)
  (qAP:mg "range" = none) (qMR:mg "min" = none) (qAI:mg "tuple" = none) (ag:mg "sorted" = none) (ae:mg "set" = none):FnOk P w K mg base CX0 2 f fd ["_law_state","_law_k"] qOK:=by
 refine F.okA sc_Lsome_needs λan A aa s H vs Q E hr h=>?_;obtain⟨d,c,t,ns,k,rfl,S,ht,ap,au,q⟩:=h;have ar:t<=1000000000-20:=ht;have as:Room 1 _:=hr;refine⟨_,(qA4 (qAF (i:=2) sc_Lsome_needs.nd rfl (E6 rfl) (qBP qA3)) (qA4 (qBX D9 rfl (qAY rfl qAP (qA0 (qAS u hr rfl (qA0 (pv 0) (qA0 qA7 qA3))) qA3)) (qAZ (i:=3) sc_Lsome_needs.nd rfl (E6 rfl)) (qA4 (qAF (i:=4) sc_Lsome_needs.nd rfl (E6 rfl) (qBQ qCU (qBP (qA0 (qA9 (qK3 rfl) rfl qMR qRE (qA0 (pv 1) (qA0 qA7 qA3))) (qA0 (pv 1) qA3))) (qAN qP0 (qAS u hr rfl (qA0 (pv 0) (qA0 qA7 qA3))) qA7) (λ_ _=>rfl))) (qA6 (qC0 (qAQ qRV (pv 1) qA7 (qAW _)) (qA6 (qEK (qN9 G5 J8 J9 qCC (pv 2) (qA0 (qAN qDH (qAN qDH (pv 1) qA7) (qAS u hr rfl (qA0 (pv 0) (qA0 (pv 4) qA3)))) qA3)))) qAR)))) (qA6 (qAH (qAD qAJ rfl qAI qAM (qA0 (qA9 (qEY rfl) rfl ag qED (qA0 (qAD (qMN rfl) rfl ae qVM (qA0 (pv 2) qA3)) qA3)) qA3)))))),?_⟩
 try dsimp only[Cx.nox,Cx.wish,cxOf]
 refine cut λN0 ab=>?_;refine⟨(by show 0<=B18;decide),λl g=>?_⟩
 have S1:=S.new g (.lst []);have nd:l≠d:=(qA5 S.dict g).symm;have nc:l≠c:=(qA5 S.list g).symm;refine ab _ _ (cut λN1 ai=>?_);refine⟨_,rfl,d,c,t,ns,5,rfl,S1,(by show t<=1000000000;lia),by decide,by decide,λj aj H1 j0 j5 S2 K2=>?_⟩
 refine ⟨j,rfl,by lia,by lia,qFI (lo:=0) (n:=j.toNat) (fun i σ Hc=>∃ (t':Int) (ms fs:List Int) (v1 v2:Option V),σ=[some (.ref d),some (.int k),some (.ref l),v1,v2]/\StAt Hc d c t' ms/\t<=t'/\t'<=t+1+2 * i/\Keep d c H Hc/\
  Hc l=some (.lst (fs.map V.int))/\fs.length<=i/\∀x∈fs,0<=x/\x<k)
  ⟨t+1,aj,[],none,none,rfl,S2,by lia,by lia,(qD5 g _).trans K2,K2 _ _ qA1 nd nc,A7 _,λ_ z=>nomatch z⟩ ?_ ?_⟩
 ·refineλi σ Hc hi a4=>opq λam a6=>?_;obtain⟨t',ms,fs,v1,v2,rfl,S3,a1,a2,K3,h3,l3,m3⟩:=a4;refine a6 ?_;have ao:(i:Int)<5:=by lia
  -- far
  refine nmD λD1 d1 dr=>cut λM0 ac=>?_;refine⟨_,rfl,k,4,rfl,_,rfl,(by show 2<=B18;decide),λp m=>?_⟩
  have S4:=S3.new m (.lst [.int (if(4:Int)<k then 4 else k),.int k])
  have af:p≠d:=(qA5 S3.dict m).symm;have ak:p≠c:=(qA5 S3.list m).symm;refine⟨_,rfl,d,c,t',ms,4,rfl,S4,(by show t'<=1000000000;lia),by decide,by decide,λk2 a7 H2 g0 g4 S5 K5=>?_⟩
  obtain⟨far,a3,ef⟩:=qd2 (a:=if(4:Int)<k then 4 else k) (b:=k) g0 g4
  have al:far<=k:=by rcases ef with e|e<;>(subst e;first|lia|(split<;>lia))
  have a5:0<k->1<=far:=λhk=>by rcases ef with e|e<;>(subst e;first|lia|(split<;>lia))
  refine⟨_,_,rfl,rfl,⟨by decide,by decide⟩,p,_,_,_,rfl,rfl,SqL.of (K5 _ _ qA1 af ak),a3,?_⟩
  have K6:=K3.trans ((qD5 (d:=d) (c:=c) m (.lst [.int (if(4:Int)<k then 4 else k),.int k])).trans K5)
  have h6:H2 l=some (.lst (fs.map V.int)):=K5 _ _ (by rw[qAA (qA5 h3 m)];exact h3) nd nc
  refine ac _ _ ?_;refine⟨_,rfl,_,_,rfl,rfl,_,rfl,?_⟩;refine ite2 (λck=>?_) (λck=>?_)
  ·have hk:0<k:=of_decide_eq_true ck;refine⟨_,rfl,.inl ⟨rfl,_,SqL.of h6⟩,_,rfl,_,_,rfl,rfl,_,rfl,_,rfl,d,c,t'+1,a7,far,rfl,S5,(by show t'+1<=1000000000;lia),a5 hk,by lia,λk3 a0 H3 c0 c1 S6 K7=>?_⟩
   have h7:=K7 _ _ h6 nd nc;refine⟨_,_,rfl,rfl,l,_,_,rfl,rfl,h7,qAE (by rw[A0];lia),?_⟩
   have S8:StAt (Ag H3 l (.lst (fs.map V.int++[.int (k-1-k3)]))) d c (t'+1+1) a0:=⟨by rw[qAA (J3 nd)];exact S6.dict,by rw[qAA (J3 nc)];exact S6.list,S6.ne,S6.len,S6.pos⟩
   have hH:H l=none:=g;refine d1 _ _ ⟨t'+1+1,a0,fs++[k-1-k3],_,_,rfl,S8,by lia,by lia,λb o e n1 n2=>?_,?_,?_,λx hx=>?_⟩
   ·rw[qAA (qA5 e hH)];exact(K6.trans K7) b o e n1 n2
   ·rw[qA1,B3];rfl
   ·rw[A9,C2];lia
   ·rcases A8.mp hx with hx|hx
    ·exact m3 x hx
    ·rw[A6.mp hx];lia
  ·exact d1 _ _ ⟨t'+1,a7,fs,_,_,rfl,S5,by lia,by lia,K6,h6,by lia,m3⟩
 ·refineλσ Hc y=>opq λaq v=>?_;obtain⟨t',ms,fs,v1,v2,rfl,S3,a1,a2,K3,h3,l3,m3⟩:=y;refine v ?_;refine ai _ _ ?_;refine⟨_,rfl,l,fs,rfl,SqL.of h3,by lia,λa ha=>?_⟩
  have ad:=qA2 ha (SetO w a (dedI fs));refine⟨a,dedI fs,rfl,.inr (.inr qA1),R6 (qMF fs) (by lia),λb zs hb m hs=>?_⟩
  have a9:=ad.trans (qA2 hb (.lst (zs.map V.int)));refine⟨b,_,rfl,.inl ⟨SqL.of qA1,λr ah=>?_⟩⟩;have a8:=a9.trans (qA2 ah (.tup (zs.map V.int)));exact q r zs t' ms _ (S3.same a8) (by lia) (by lia) (K3.trans (.of_same a8)) qA1 (qLQ m hs m3)
theorem sc_Ltree_net:FnScope ["_law_state","_law_many","_law_open_ones","_law_found","_law_k","_law_so_many"] ["_law_state","_law_many"] (qAB qEI):=qBN
theorem ok_Ltree_net (F:Fun K "_law_tree_net" "_law_tree_net" qEI f fd) (au:Clb P w K mg base 1 qE3 qDV "_law_take" ["_law_state","_law_many"] qGN)
  (qAP:mg "range" = none) (qMR:mg "min" = none) (qAI:mg "tuple" = none) (qB5:mg "len" = none):FnOk P w K mg base CX0 2 f fd ["_law_state","_law_many"] qXN:=by
 refine F.okA sc_Ltree_net λay A af s H vs Q E hr h=>?_;obtain⟨d,c,t,ns,m,rfl,S,ht,b4,b0,q⟩:=h;have b1:t<=1000000000-1000:=ht;have b2:Room 1 _:=hr;refine⟨_,(qA4 (qAF (i:=2) sc_Ltree_net.nd rfl (E6 rfl) (qBP qA3)) (qA4 (qAF (i:=3) sc_Ltree_net.nd rfl (E6 rfl) (qBP qA3)) (qA4 (qBX D9 rfl (qAY rfl qAP (qA0 (qAN qDH (pv 1) qA7) qA3)) (qAZ (i:=4) sc_Ltree_net.nd rfl (E6 rfl)) (qA4 (qAF (i:=5) sc_Ltree_net.nd rfl (E6 rfl) (qA9 (qK3 rfl) rfl qMR qRE (qA0 (qA9 qA8 rfl qB5 qB1 (qA0 (pv 2) qA3)) (qA0 (qBQ qCU (qBP (qA0 qA7 (qA0 qA7 (qA0 qA7 (qA0 qA7 (qA0 qA7 (qA0 qA7 qA3))))))) (qAS au hr rfl (qA0 (pv 0) (qA0 qA7 qA3))) (λ_ _=>rfl)) qA3)))) (qA4 (qEK (qN9 G5 J8 J9 qCC (pv 3) (qA0 (qAD qAJ rfl qAI qAM (qA0 (qLU qOM (pv 2) (qOU (qAN qDH (qA9 qA8 rfl qB5 qB1 (qA0 (pv 2) qA3)) (pv 5))) qOV) qA3)) qA3))) (qA6 (qAF (i:=2) sc_Ltree_net.nd rfl (E6 rfl) (qAN qQT (qLU qOM (pv 2) qOV (qOU (qAN qDH (qA9 qA8 rfl qB5 qB1 (qA0 (pv 2) qA3)) (pv 5)))) (qBP (qA0 (pv 4) qA3)))))))) (qA6 (qAH (qAD qAJ rfl qAI qAM (qA0 (qAN qQT (pv 3) (qBP (qA0 (qAD qAJ rfl qAI qAM (qA0 (pv 2) qA3)) qA3))) qA3))))))),?_⟩
 try dsimp only[Cx.nox,Cx.wish,cxOf]
 refine cut λN0 ag=>?_;refine⟨(by show 0<=B18;decide),λo0 a4=>?_⟩
 refine ag _ _ (cut λN1 as=>?_);have S1:=S.new a4 (.lst []);refine⟨(by show 0<=B18;decide),λj a0=>?_⟩
 have S2:=S1.new a0 (.lst []);have nd:j ≠ d:=(qA5 S1.dict a0).symm;have nc:j ≠ c:=(qA5 S1.list a0).symm;have a7:o0 ≠ j:=qA5 qA1 a0;have hF:H j=none:=(qA2 a4 _).free a0;refine as _ _ (cut fun N2 ai=>?_);refine ⟨_,rfl,_,_,rfl,rfl,m - 1,rfl,by lia,by lia,qFI (lo:=0) (n:=(m - 1).toNat) (fun i σ Hc=>∃ (t':Int) (ms os:List Int) (o:Addr) (rs:List Addr) (Ae:List (List Int)) (v1 v2:Option V),σ=[some (.ref d),some (.int m),some (.ref o),some (.ref j),v1,v2]/\StAt Hc d c t' ms/\t<=t'/\t'<=t+i/\Keep d c H Hc/\
  Hc o=some (.lst (os.map V.int))/\(o≠j/\o≠c)/\Hc j=some (.lst (rs.map V.ref))/\NetL Hc rs Ae/\Ae.length=i/\WFn Ae/\Rise (i:Int) os)
  ⟨t,ns,[],o0,[],[],none,none,rfl,S2,by lia,by lia,(qD5 a4 _).trans (qD5 a0 _),by rw[qAA a7];exact qA1,⟨a7,(qA5 S.list a4).symm⟩,qA1,.nil,rfl,WFn.nil,Rise.nil⟩ ?_ ?_⟩
 ·refineλi σ Hc hi ac=>opq λb3 a8=>?_;obtain⟨t',ms,os,o,rs,Ae,v1,v2,rfl,S3,a1,a2,K3,h3,⟨n3,ae⟩,f3,N3,l3,w3,r3⟩:=ac;refine a8 ?_;have az:os.length<=i:=r3.len;refine nmD λD1 d1 dr=>cut λM0 ah=>?_;refine⟨_,rfl,o,_,rfl,.inl (SqL.of h3),(by show 6<=B18;decide),λp hp=>?_⟩
  have S4:=S3.new hp (.lst [.int 0,.int 0,.int 1,.int 2,.int 2,.int 3]);have ap:p≠d:=(qA5 S3.dict hp).symm;have aw:p≠c:=(qA5 S3.list hp).symm;refine⟨_,rfl,d,c,t',ms,6,rfl,S4,(by show t'<=1000000000;lia),by decide,by decide,λk2 ad H2 g0 g6 S5 K5=>?_⟩
  obtain⟨v,hv,v0,v3⟩:=qd1 g0 g6;refine⟨p,_,_,_,rfl,rfl,SqL.of (K5 _ _ qA1 ap aw),hv,?_⟩;have sm:Same Hc (Ag Hc p (.lst [.int 0,.int 0,.int 1,.int 2,.int 2,.int 3])):=qA2 hp _;have K6:=(Keep.of_same (d:=d) (c:=c) sm).trans K5;have av:o≠d:=qCB h3 S3.dict (by intro z;cases z)
  have h6:H2 o=some (.lst (os.map V.int)):=K6 _ _ h3 av ae;have f6:H2 j=some (.lst (rs.map V.ref)):=K6 _ _ f3 nd nc;have N6:NetL H2 rs Ae:=N3.keep (λr zs e=>S3.tup e) K6;refine⟨_,_,rfl,?_⟩;dsimp only;have ar:0<=(if v<(((os.map V.int).length:Nat):Int) then v else(((os.map V.int).length:Nat):Int)):=by split<;>lia
  have aq:(if v<(((os.map V.int).length:Nat):Int) then v else(((os.map V.int).length:Nat):Int))<=(os.length:Int):=by rw[A0];split<;>lia
  generalize (if v<(((os.map V.int).length:Nat):Int) then v else(((os.map V.int).length:Nat):Int))=so at ar aq
  obtain⟨g,ek⟩:∃g:Nat,(os.length:Int)-so=(g:Int):=⟨((os.length:Int)-so).toNat,by lia⟩
  have aa:(((os.map V.int).length:Nat):Int)-so=(g:Int):=by rw[A0];exact ek
  have al:g<=os.length:=by lia
  -- found.append(tuple(open_ones[len(open_ones)-so_many:]))
  refine ah _ _ (cut λM1 am=>?_);refine⟨_,rfl,.inl ⟨rfl,_,SqL.of f6⟩,_,rfl,_,rfl,o,_,rfl,.inl (SqL.of h6),_,rfl,_,_,rfl,rfl,_,rfl,o,_,rfl,SqL.of h6,λp1 aj=>?_⟩;refine⟨p1,_,rfl,.inl ⟨SqL.of qA1,λr a3=>?_⟩⟩;rw[aa,qMH,qVD _ _ al] at a3 ⊢;have x:=(qA2 aj (.lst ((os.drop g).map V.int))).trans (qA2 a3 (.tup ((os.drop g).map V.int)));have f7:=x _ _ f6;have h7:=x _ _ h6;have N7:NetL _ (rs++[r]) (Ae++[os.drop g]):=qCL (N6.same λr zs e=>x _ _ e) (show(Ag (Ag H2 p1 (.lst ((os.drop g).map V.int))) r (.tup ((os.drop g).map V.int))) r=some (.tup ((os.drop g).map V.int)) from qA1);have S7:=S5.same x;have K7:=K6.trans (.of_same x);generalize (Ag (Ag H2 p1 (.lst ((os.drop g).map V.int))) r (.tup ((os.drop g).map V.int)))=H7 at f7 h7 N7 S7 K7 ⊢;refine⟨j,_,_,rfl,rfl,f7,qAE (by rw[A0,NetAt.len N3];lia),?_⟩
  have e8:rs.map V.ref++[V.ref r]=(rs++[r]).map V.ref:=by rw[B3];rfl
  rw[e8];have S8:StAt (Ag H7 j (.lst ((rs++[r]).map V.ref))) d c (t'+1) ad:=⟨by rw[qAA (J3 nd)];exact S7.dict,by rw[qAA (J3 nc)];exact S7.list,S7.ne,S7.len,S7.pos⟩
  have h8:(Ag H7 j (.lst ((rs++[r]).map V.ref))) o=some (.lst (os.map V.int)):=by rw[qAA n3];exact h7
  have N8:NetL (Ag H7 j (.lst ((rs++[r]).map V.ref))) (rs++[r]) (Ae++[os.drop g]):=N7.same λr' zs e=>by rw[qAA (qCB e f7 (by intro z;cases z))];exact e
  have K8:Keep d c H (Ag H7 j (.lst ((rs++[r]).map V.ref))):=λb u e n1 n2=>by rw[qAA (qA5 e hF)];exact(K3.trans K7) b u e n1 n2
  have f8:(Ag H7 j (.lst ((rs++[r]).map V.ref))) j=some (.lst ((rs++[r]).map V.ref)):=qA1;generalize Ag H7 j (.lst ((rs++[r]).map V.ref))=H8 at S8 h8 N8 K8 f8 ⊢
  -- open_ones=open_ones[:len(open_ones)-so_many]+[k]
  refine am _ _ ?_;refine⟨_,rfl,_,rfl,o,_,rfl,.inl (SqL.of h8),_,rfl,_,_,rfl,rfl,_,rfl,o,_,rfl,SqL.of h8,λp2 y=>?_⟩;rw[aa,qMH,qaB];refine⟨_,rfl,(by show 1<=B18;decide),λp3 a5=>?_⟩
  have ak:p2≠p3:=qA5 qA1 a5;refine⟨p2,p3,_,_,rfl,rfl,by rw[qAA ak];exact qA1,qA1,U2 (qAE (by rw[A0,C4,C2];lia)),λp4 a6=>?_⟩
  have l:=((qA2 y (.lst ((os.take g).map V.int))).trans (qA2 a5 (.lst [.int (0+(i:Int))]))).trans (qA2 a6 (.lst ((os.take g).map V.int++[.int (0+(i:Int))])));have e9:(os.take g).map V.int++[V.int (0+(i:Int))]=(os.take g++[(i:Int)]).map V.int:=by rw[B3,Y5];rfl
  have ao:p4≠j:=(qA5 ((qA2 a5 _) _ _ ((qA2 y _) _ _ f8)) a6).symm;have an:p4≠c:=(qA5 ((qA2 a5 _) _ _ ((qA2 y _) _ _ S8.list)) a6).symm;refine d1 _ _ ⟨t'+1,ad,os.take g++[(i:Int)],p4,rs++[r],Ae++[os.drop g],_,_,rfl,S8.same l,by lia,by lia,K8.trans (.of_same l),by rw[<- e9];exact qA1,⟨ao,an⟩,l _ _ f8,N8.same λr' zs e=>l _ _ e,by rw[A9,C2,l3],w3.snoc ?_,?_⟩
  ·rw[l3];exact r3.sub (U0 _ _)
  ·have:=(r3.sub (T6 g os)).snoc (by lia)
   rw[show((i+1:Nat):Int)=(i:Int)+1 by lia]
   exact this
 ·refineλσ Hc ab=>opq λax a9=>?_;obtain⟨t',ms,os,o,rs,Ae,v1,v2,rfl,S3,a1,a2,K3,h3,⟨n3,ae⟩,f3,N3,l3,w3,r3⟩:=ab;refine a9 ?_;refine ai _ _ ?_;refine⟨_,rfl,_,rfl,o,_,rfl,.inl ⟨SqL.of h3,λr a3=>?_⟩⟩;refine⟨(by show 1<=B18;decide),λp hp=>?_⟩
  have x:=(qA2 a3 (.tup (os.map V.int))).trans (qA2 hp (.lst [.ref r]));refine⟨j,p,_,_,rfl,rfl,x _ _ f3,qA1,U2 (qAE (by rw[A0,NetAt.len N3,C2];lia)),λp2 y=>?_⟩
  refine⟨p2,_,rfl,.inl ⟨SqL.of qA1,λa ha=>?_⟩⟩;have l:=(x.trans (qA2 y (.lst (rs.map V.ref++[.ref r])))).trans (qA2 ha (.tup (rs.map V.ref++[.ref r])));have gr:=(qA2 ha (.tup (rs.map V.ref++[.ref r]))) _ _ ((qA2 y (.lst (rs.map V.ref++[.ref r]))) _ _ ((qA2 hp (.lst [.ref r])) r _ (qA1 (H:=Hc) (o:=.tup (os.map V.int)))));have e8:rs.map V.ref++[V.ref r]=(rs++[r]).map V.ref:=by rw[B3];rfl
  refine q a (Ae++[os]) t' ms _ (S3.same l) (by lia) (by lia) (K3.trans (.of_same l)) ⟨rs++[r],by rw[<- e8];exact qA1,qCL (N3.same λr' zs e=>l _ _ e) gr⟩ (w3.snoc (by rw[l3];exact r3)) ?_
  rw[A9,C2,l3]
  lia
theorem sc_Lnet:FnScope ["_law_state","_law_many","_law_way","_law_wide","_law_some","_law_half"] ["_law_state","_law_many"] (qAB qQ9):=qBN
theorem ok_Lnet (F:Fun K "_law_net" "_law_net" qQ9 f fd) (bu:Clb P w K mg base 1 qE3 qDV "_law_take" ["_law_state","_law_many"] qGN)
  (bl:Clb P w K mg base 2 qEU qKB "_law_some_needs" ["_law_state","_law_k"] qOK)
  (cm:Clb P w K mg base 2 qGH qNS "_law_tree_net" ["_law_state","_law_many"] qXN)
  (qAP:mg "range" = none) (ci:mg "max" = none) (qLB:mg "int" = none) (ch:mg "enumerate" = none) (qAI:mg "tuple" = none) (ce:mg "sorted" = none) (ca:mg "set" = none):FnOk P w K mg base CX0 3 f fd ["_law_state","_law_many"] qb2:=by
 refine F.okA sc_Lnet λcy A bw s H vs Q E hr h=>?_;obtain⟨d,c,t,ns,m,rfl,S,ht,cl,c5,q⟩:=h;have d1:t<=1000000000-10000:=ht;have cw:Room 2 _:=hr;have d4:Room 2 _:=hr;refine⟨_,(qA4 (qAF (i:=2) sc_Lnet.nd rfl (E6 rfl) (qAS bu hr rfl (qA0 (pv 0) (qA0 qA7 qA3)))) (qA4 (qAF (i:=3) sc_Lnet.nd rfl (d7 rfl) (qAN qDS qA7 (qAS bu hr rfl (qA0 (pv 0) (qA0 qA7 qA3))))) (qA4 (qC0 (qAQ qFC (pv 2) qA7 (qAW _)) (qA6 (qAH (qAD qAJ rfl qAI qAM (qA0 (qCR rfl (lcs (own:=["_law_k"]) (fv:=[3]) (by kernel_rfl)) (qAY rfl qAP (qA0 (pv 1) qA3)) (λz1=>qBO 0) (λz1=>qB6) (λz1=>(qAD (qKD rfl) rfl qAI qAM (qA0 (qAD qVJ rfl qAP qMO (qA0 (qA9 (qVK rfl) rfl ci qc9 (qA0 qA7 (qA0 (qAN qDH (pv 0) (pv 1)) qA3))) (qA0 (pv 0) qA3))) qA3)))) qA3)))) qAR) (qA4 (qC0 (qAQ qFC (pv 2) qA7 (qAW _)) (qA4 (qOT (i:=4) sc_Lnet.nd rfl rfl rfl (lcs (own:=["_law_k"]) (fv:=[3]) (by kernel_rfl)) (qAY rfl qAP (qA0 (pv 1) qA3)) (λz2=>qBO 0) (λz2=>qB6) (λz2=>(qAN qQT (qAN qTQ (qBP (qA0 (qAN qDH (pv 0) (pv 1)) qA3)) (qAD qHC rfl qLB qO6 (qA0 (qCT qWH (pv 0) (pv 1) (qAW _)) qA3))) (qAN qTQ (qBP (qA0 (qAN qDH (pv 0) qA7) qA3)) (qAD qHC rfl qLB qO6 (qA0 (qCT qRV (qAN qJF (pv 0) (pv 1)) qA7 (qAW _)) qA3))))) (by kernel_rfl)) (qA6 (qAH (qAD qAJ rfl qAI qAM (qA0 (qCR rfl (lcs (own:=["_law_needs"]) (fv:=[]) (by kernel_rfl)) (qCS (pv 4)) (λz3=>qBO 0) (λz3=>qB6) (λz3=>(qAD (qGI (K:=K) rfl) rfl qAI qAM (qA0 (qA9 (qO1 (K:=K) (w:=w) rfl rfl rfl) rfl ce qED (qA0 (qAD (qVI (K:=K) (w:=w) rfl rfl rfl) rfl ca qVM (qA0 (pv 0) qA3)) qA3)) qA3)))) qA3))))) qAR) (qA4 (qC0 (qAQ qFC (pv 2) qA7 (qAW _)) (qA6 (qAH (qAS cm hr rfl (qA0 (pv 0) (qA0 (pv 1) qA3))))) qAR) (qA4 (qC0 (qAQ qFC (pv 2) qA7 (qAW _)) (qA4 (qAF (i:=5) sc_Lnet.nd rfl (d7 rfl) (qAN qP0 (pv 1) qA7)) (qA4 (qOT (i:=4) sc_Lnet.nd rfl rfl rfl (lcs (own:=["_law_k"]) (fv:=[0,5]) (by kernel_rfl)) (qAY rfl qAP (qA0 (pv 1) qA3)) (λz4=>qBO 0) (λz4=>qB6) (λz4=>(qAS bl hr rfl (qA0 (pv 1) (qA0 (qLV (qAQ qNC (pv 0) (pv 2) (qAW _)) (pv 0) (qAN qDH (pv 0) (pv 2))) qA3)))) (by kernel_rfl)) (qA6 (qAH (qAD qAJ rfl qAI qAM (qA0 (qCR rfl (lcs (own:=["_law_k","_law_needs"]) (fv:=[5]) (by kernel_rfl)) (qZA rfl ch qDY (qA0 (pv 4) qA3)) (λz5=>qLT (K:=K) (n:=2) rfl rfl (qC1 (qBO 0) (qC1 (qBO 1) qHK)) rfl rfl) (λz5=>qB6) (λz5=>(qLV (qAQ qNC (pv 0) (pv 2) (qAW _)) (pv 1) (qAD (qGI (K:=K) rfl) rfl qAI qAM (qA0 (qCR (X:=lcCx _ _ _ _ z5) rfl (lcs (own:=["_law_n"]) (fv:=[2]) (by kernel_rfl)) (qOY (K:=K) rfl (pv 1)) (λz6=>qBO 0) (λz6=>qB6) (λz6=>(qAN qDS (pv 0) (pv 1)))) qA3))))) qA3)))))) qAR) (qA6 (qAH (qAD qAJ rfl qAI qAM (qA0 (qCR rfl (lcs (own:=["_law_k"]) (fv:=[0]) (by kernel_rfl)) (qAY rfl qAP (qA0 (pv 1) qA3)) (λz7=>qBO 0) (λz7=>qB6) (λz7=>(qAS bl hr rfl (qA0 (pv 1) (qA0 (pv 0) qA3))))) qA3)))))))))),?_⟩
 try dsimp only[Cx.nox,Cx.wish,cxOf]
 refine cut λN1 cf=>?_;refine⟨_,rfl,d,c,t,ns,8,rfl,S,(by show t<=1000000000;lia),by decide,by decide,λd6 cg H1 w0 w8 S1 K1=>?_⟩
 refine cf _ _ (cut λN2 c0=>?_);refine⟨_,rfl,d,c,t+1,cg,4,rfl,S1,(by show t+1<=1000000000;lia),by decide,by decide,λwd ad H2 d5 da S2 K2=>⟨_,_,rfl,rfl,?_⟩⟩
 dsimp only;have ae:=K1.trans K2;generalize hwide:(1:Int)+wd=k;have d9:1<=k:=by lia
 have d3:k<=4:=by lia
 refine c0 _ _ (cut λN3 c4=>?_);refine⟨_,rfl,rfl,_,rfl,?_⟩;refine ite2 (λ_=>?_) (λ_=>?_)
 ·refine⟨_,rfl,m,rfl,by lia,by lia,λp hp=>?_⟩
  refine qBV (p:=p) (lo:=0) (n:=m.toNat) (λi σ u=>∃(v:Option V) (rs:List Addr) (Ae:List (List Int)),σ=[v,some (.int k)]/\Same H2 u/\u p=some (.lst (rs.map V.ref))/\NetL u rs Ae/\Ae.length=i/\WFn Ae) ?_ ?_ ?_
  ·exact⟨none,[],[],rfl,qA2 hp _,qA1,.nil,rfl,WFn.nil⟩
  ·refineλi σ u hi b9=>opq λct bq=>?_;obtain⟨v,rs,Ae,rfl,sm,o,N,hl,wf⟩:=b9;refine bq ?_;refine⟨_,rfl,_,rfl,_,_,rfl,rfl,0,_,rfl,_,rfl,_,_,rfl,λp1 bd=>?_⟩;refine⟨p1,_,_,rfl,qA1,by split<;>lia,by split<;>lia,by lia,by lia,λr a8=>?_⟩
   have cd:0<=(if(0+(i:Int))-k>0 then(0+(i:Int))-k else 0):=by split<;>lia
   have b4:=qEJ (hi:=0+(i:Int)) cd;dsimp only;rw[qGA];generalize qAV (if(0+(i:Int))-k>0 then(0+(i:Int))-k else 0) (0+(i:Int))=l at b4 ⊢
   generalize HO.rng (if(0+(i:Int))-k>0 then(0+(i:Int))-k else 0) (0+(i:Int))=ho at bd a8 ⊢
   have s1:=(qA2 bd ho).trans (qA2 a8 (.tup (l.map V.int)));have g1:=s1 _ _ o;refine⟨_,g1,qAE (by rw[A0,NetAt.len N];lia),?_⟩
   rw[qBE];refine⟨_,rs++[r],Ae++[l],rfl,qAC (sm.trans s1) hp,qA1,qDT (qCL (N.same λr' ys e=>s1 _ _ e) qA1) g1,by rw[A9,C2,hl],wf.snoc ?_⟩
   rw[hl];exact b4.mono (by lia)
  ·refineλσ u b6=>opq λd0 b5=>?_;obtain⟨v,rs,Ae,rfl,sm,o,N,hl,wf⟩:=b6;refine b5 ?_;refine⟨p,_,rfl,.inl ⟨SqL.of o,λa ha=>?_⟩⟩;have s1:=qA2 ha (.tup (rs.map V.ref));exact q a Ae (t+1+1) ad _ (S2.same (sm.trans s1)) (by lia) (by lia) (ae.trans (.of_same (sm.trans s1))) ⟨rs,qA1,N.same λr ys e=>s1 _ _ e⟩ wf (by rw[hl];lia)
 refine c4 _ _ (cut λN4 cc=>?_);refine⟨_,rfl,rfl,_,rfl,?_⟩;refine ite2 (λ_=>?_) (λ_=>?_)
 ·refine⟨_,rfl,m,rfl,by lia,by lia,λp hp=>?_⟩
  refine qBV (p:=p) (lo:=0) (n:=m.toNat) (fun i σ u=>∃ (v:Option V) (rs:List Addr) (ls:List (List Int)),σ=[v,some (.int k)]/\Same H2 u/\u p=some (.lst (rs.map V.ref))/\Paired (fun r l=>r ≠ p/\u r=some (.lst (l.map V.int))) rs ls/\ls.length=i/\
   ∀(j:Nat) l,ls[j]?=some l->l.length<=2/\∀x∈l,0<=x/\x<(j:Int)) ?_ ?_ ?_
  ·exact⟨none,[],[],rfl,qA2 hp _,qA1,.nil,rfl,λj l e=>by simp at e⟩
  ·refineλi σ u hi br=>opq λd8 bg=>?_;obtain⟨v,rs,ls,rfl,sm,o,N,hl,wf⟩:=br;refine bg ?_;refine⟨_,rfl,_,rfl,_,_,rfl,rfl,(by show 1<=B18;decide),λa1 cj=>?_⟩
   refine⟨_,rfl,_,rfl,_,_,rfl,rfl,.inr ⟨_,rfl,?_⟩⟩;refine⟨a1,_,_,rfl,rfl,qA1,by split<;>decide,by split<;>decide,?_,λa2 c7=>?_⟩
   ·have:∀b:Bool,[V.int (0+(i:Int)-k)].length*(if b=true then(1:Int) else 0).toNat<=B18:=by intro b;cases b<;>simp[B28]
    exact this _
   dsimp only;rw[qb9];refine⟨_,rfl,_,_,rfl,rfl,(by show 1<=B18;decide),λa3 bi=>?_⟩
   refine⟨_,rfl,_,rfl,_,_,rfl,rfl,(by show 0<k;lia),_,_,rfl,rfl,.inr ⟨_,rfl,?_⟩⟩
   refine⟨a3,_,_,rfl,rfl,qA1,by split<;>decide,by split<;>decide,?_,λa4 bf=>?_⟩
   ·have:∀b:Bool,[V.int (0+(i:Int)-1)].length*(if b=true then(1:Int) else 0).toNat<=B18:=by intro b;cases b<;>simp[B28]
    exact this _
   dsimp only;rw[qb9];have b1:∀x∈(if decide (k<=0+(i:Int))=true then[0+(i:Int)-k] else[]),0<=x/\x<(i:Int):=by
    intro x hx
    split at hx
    ·rename_i hd
     have:=of_decide_eq_true hd;rw[A6.mp hx];lia
    ·cases hx
   have b2:∀x∈(if decide (0<(0+(i:Int))%k)=true then[0+(i:Int)-1] else[]),0<=x/\x<(i:Int):=by
    intro x hx
    split at hx
    ·rename_i hd
     have bj:=of_decide_eq_true hd;have:(i:Int)≠0:=by
      intro e;rw[e] at bj;simp at bj
     rw[A6.mp hx];lia
    ·cases hx
   have c1:(if decide (k<=0+(i:Int))=true then[0+(i:Int)-k] else[]).length<=1:=by split<;>simp
   have c2:(if decide (0<(0+(i:Int))%k)=true then[0+(i:Int)-1] else[]).length<=1:=by split<;>simp
   generalize (if decide (k<=0+(i:Int))=true then[0+(i:Int)-k] else[])=z1 at b1 c1 bi bf ⊢
   generalize (if decide (0<(0+(i:Int))%k)=true then[0+(i:Int)-1] else[])=z2 at b2 c2 ⊢
   have s2:=(qA2 bi (.lst [.int (0+(i:Int)-1)])).trans (qA2 bf (.lst (z2.map V.int)));refine⟨a2,a4,_,_,rfl,rfl,s2 _ _ qA1,qA1,U2 (qAE (by rw[A0,A0];lia)),λa5 bb=>?_⟩
   have s1:=(qA2 cj (.lst [.int (0+(i:Int)-k)])).trans (qA2 c7 (.lst (z1.map V.int)));have s3:=(s1.trans s2).trans (qA2 bb (.lst (z1.map V.int++z2.map V.int)));have e5:z1.map V.int++z2.map V.int=(z1++z2).map V.int:=by rw[B3]
   rw[e5] at s3 ⊢;have g1:=s3 _ _ o;have n5:a5≠p:=(qA5 ((s1.trans s2) _ _ o) bb).symm;refine⟨_,g1,qAE (by rw[A0,C3 N];lia),?_⟩
   rw[qBE];refine⟨_,rs++[a5],ls++[z1++z2],rfl,qAC (sm.trans s3) hp,qA1,U6 (qKO N λr l e=>⟨e.1,by rw[qAA e.1];exact s3 _ _ e.2⟩) ⟨n5,by rw[qAA n5];exact qA1⟩,by rw[A9,C2,hl],λj l e=>?_⟩
   rcases qQ8 e with e|⟨rfl,rfl⟩
   ·exact wf j l e
   ·rw[hl];refine⟨by rw[A9];lia,λx hx=>?_⟩
    rcases A8.mp hx with hx|hx
    ·exact b1 x hx
    ·exact b2 x hx
  ·refineλσ u bo=>opq λcx bm=>?_;obtain⟨v,rs,ls,rfl,sm,o,N,hl,wf⟩:=bo;refine bm ?_;refine⟨_,rfl,p,rfl,⟨_,SqL.of o⟩,λp' ab=>?_⟩;refine qGC (p:=p') (a:=p) (xs:=rs.map V.ref) (λi σ Hd=>∃(v:Option V) (rs':List Addr) (Ae:List (List Int)),σ=[v]/\Same u Hd/\Hd p'=some (.lst (rs'.map V.ref))/\NetL Hd rs' Ae/\Ae.length=i/\WFn Ae) ?_ ?_ ?_ ?_
   ·exact⟨none,[],[],rfl,qA2 ab _,qA1,.nil,rfl,WFn.nil⟩
   ·rintro i σ Hd hi ⟨v,rs',Ae,rfl,sm2,_⟩;exact SqL.of (sm2 _ _ o)
   ·refineλi x σ Hd hx bc=>opq λcz ba=>?_;obtain⟨v,rs',Ae,rfl,sm2,aa,N2,a0,a9⟩:=bc;obtain⟨r,a8,rfl⟩:=qCV hx;obtain⟨l,hz,_,ar⟩:=qB2 N a8;obtain⟨l2,m2⟩:=wf i l hz;refine ba ?_;refine⟨_,rfl,r,l,rfl,SqL.of (sm2 _ _ ar),by lia,λa ha=>?_⟩
    refine⟨a,dedI l,rfl,.inr (.inr qA1),R6 (qMF l) (by lia),λb ys hb c3 hs=>?_⟩
    refine⟨b,_,rfl,.inl ⟨SqL.of qA1,λr2 av=>?_⟩⟩;have s1:=((qA2 ha (SetO w a (dedI l))).trans (qA2 hb (.lst (ys.map V.int)))).trans (qA2 av (.tup (ys.map V.int)));have g1:=s1 _ _ aa;have c6:rs.length=m.toNat:=by rw[C3 N,hl]
    have hi:i<rs.length:=(A4.mp a8).1;refine⟨_,g1,qAE (by rw[A0,NetAt.len N2];lia),?_⟩
    rw[qBE];refine⟨_,rs'++[r2],Ae++[ys],rfl,qAC (sm2.trans s1) ab,qA1,qDT (qCL (N2.same λr' bh e=>s1 _ _ e) qA1) g1,by rw[A9,C2,a0],a9.snoc ?_⟩
    rw[a0];exact qLQ c3 hs m2
   ·refineλσ Hd bp=>opq λcu bs=>?_;obtain⟨v,rs',Ae,rfl,sm2,aa,N2,a0,a9⟩:=bp;refine bs ?_;refine⟨p',_,rfl,.inl ⟨SqL.of aa,λa ha=>?_⟩⟩;have s1:=qA2 ha (.tup (rs'.map V.ref));refine q a Ae (t+1+1) ad _ (S2.same ((sm.trans sm2).trans s1)) (by lia) (by lia) (ae.trans (.of_same ((sm.trans sm2).trans s1))) ⟨rs',qA1,N2.same λr ys e=>s1 _ _ e⟩ a9 ?_
    rw[a0,A0,C3 N,hl]
    lia
 refine cc _ _ (cut λN5 c8=>?_);refine⟨_,rfl,rfl,_,rfl,?_⟩;refine ite2 (λ_=>?_) (λ_=>?_)
 ·refine⟨_,rfl,_,rfl,d,c,t+1+1,ad,m,rfl,S2,?_,cl,c5,λa Ae t' ms H' a1 a2 a3 a4 a5 a6 a7=>?_⟩
  ·show t+1+1<=1000000000-1000;lia
  ·exact q a Ae t' ms H' a1 (by lia) (by lia) (ae.trans a4) a5 a6 a7
 refine c8 _ _ (cut λN6 c9=>?_);refine⟨_,rfl,rfl,_,rfl,?_⟩;refine ite2 (λ_=>?_) (λ_=>?_)
 ·refine⟨_,rfl,_,_,rfl,rfl,⟨by decide,by decide⟩,?_⟩
  dsimp only;have b8:0<=m/2:=by lia
  have bv:m/2<=m:=by lia
  generalize m/2=g at b8 bv;refine⟨_,rfl,m,rfl,by lia,by lia,λp hp=>?_⟩
  refine qBV (p:=p) (lo:=0) (n:=m.toNat) (fun i σ u=>∃ (v:Option V) (t':Int) (ms:List Int) (rs:List Addr) (Ae:List (List Int)),σ=[v,some (.ref d),some (.int g)]/\StAt u d c t' ms/\t+2<=t'/\t'<=t+2+9 * i/\Keep d c H2 u/\u p=some (.lst (rs.map V.ref))/\NetL u rs Ae/\Ae.length=i/\
   ∀(j:Nat) l,Ae[j]?=some l->Rise (if(j:Int)<g then(j:Int) else(j:Int)-g) l) ?_ ?_ ?_
  ·exact⟨none,t+1+1,ad,[],[],rfl,S2.new hp _,by lia,by lia,qD5 hp _,qA1,.nil,rfl,λj l e=>by simp at e⟩
  ·refine fun i σ u hi b7=>opq fun cv bk=>?_;obtain ⟨v,t',ms,rs,Ae,rfl,S3,b1,b2,k3,o,N,hl,wf⟩:=b7;refine bk ?_;have af:p ≠ d:=(qA5 S2.dict hp).symm;have ag:p ≠ c:=(qA5 S2.list hp).symm;have nx:∀ (kk:Int),kk=(if (i:Int)<g then (i:Int) else (i:Int) - g)->qOK [.ref d,.int kk] u (fun y H4=>∃ ys,H4 p=some (.lst ys)/\ys.length<B18/\∃ (v:Option V) (t':Int) (ms:List Int) (rs:List Addr) (Ae:List (List Int)),[some (V.int (0+(i:Int))),some (.ref d),some (.int g)]=[v,some (.ref d),some (.int g)]/\StAt (Ag H4 p (.lst (ys++[y]))) d c t' ms/\t+2<=t'/\t'<=t+2+9 * (i+1:Nat)/\Keep d c H2 (Ag H4 p (.lst (ys++[y])))/\(Ag H4 p (.lst (ys++[y]))) p=some (.lst (rs.map V.ref))/\NetL (Ag H4 p (.lst (ys++[y]))) rs Ae/\Ae.length=i+1/\
     ∀(j:Nat) l,Ae[j]?=some l->Rise (if(j:Int)<g then(j:Int) else(j:Int)-g) l) E0:=by
    intro kk ek;refine⟨d,c,t',ms,kk,rfl,S3,(by show t'<=1000000000-20;lia),by rw[ek];split<;>lia,by rw[ek];split<;>lia,λr l ap aw H3 e1 e2 e3 e4 e5 e6=>?_⟩
    have g1:=e4 _ _ o af ag;refine⟨_,g1,qAE (by rw[A0,NetAt.len N];lia),?_⟩
    rw[qBE];refine⟨_,ap,aw,rs++[r],Ae++[l],rfl,⟨by rw[qAA (J3 af)];exact e1.dict,by rw[qAA (J3 ag)];exact e1.list,e1.ne,e1.len,e1.pos⟩,by lia,by lia,qH1 (k3.trans e4) hp,qA1,qDT (qCL (N.keep (λr ys e=>S3.tup e) e4) e5) g1,by rw[A9,C2,hl],λj ys e=>?_⟩
    rcases qQ8 e with e|⟨rfl,rfl⟩
    ·exact wf j ys e
    ·rw[hl,<- ek];exact e6
   refine⟨_,rfl,_,rfl,_,rfl,_,_,rfl,rfl,_,rfl,?_⟩;refine ite2 (λck=>?_) (λck=>?_)
   ·have ac:0+(i:Int)<g:=of_decide_eq_true ck;exact⟨_,rfl,nx _ (by rw[if_pos (by lia)];lia)⟩
   ·have ac:¬0+(i:Int)<g:=of_decide_eq_false (G4.mpr ck);exact⟨_,rfl,_,rfl,_,_,rfl,rfl,nx _ (by rw[if_neg (by lia)];lia)⟩
  ·refineλσ u bn=>opq λd2 bt=>?_;obtain⟨v,t',ms,rs,Ae,rfl,S3,b1,b2,k3,o,N,hl,wf⟩:=bn;refine bt ?_;have c6:rs.length=m.toNat:=by rw[C3 N,hl]
   refine⟨_,rfl,p,rfl,⟨_,SqL.of o⟩,λp' ab=>?_⟩;refine qU7 (p:=p') (a:=p) (xs:=rs.map V.ref) (λi σ Hd=>∃(v1 v2:Option V) (rs':List Addr) (net':List (List Int)),σ=[v1,v2,some (.int g)]/\Same u Hd/\Hd p'=some (.lst (rs'.map V.ref))/\NetL Hd rs' net'/\net'.length=i/\WFn net') ?_ ?_ ?_ ?_
   ·exact⟨none,none,[],[],rfl,qA2 ab _,qA1,.nil,rfl,WFn.nil⟩
   ·rintro i σ Hd hi ⟨v1,v2,rs',net',rfl,sm2,_⟩;exact SqL.of (sm2 _ _ o)
   ·refineλi x σ Hd T hx aq hT=>opq λcn ao=>?_;obtain⟨v1,v2,rs',net',rfl,sm2,aa,N2,a0,a9⟩:=aq;obtain⟨r,a8,rfl⟩:=qCV hx;obtain⟨l,hz,ar⟩:=qB2 N a8;refine ao ?_;have hi:i<rs.length:=(A4.mp a8).1;have rz:=wf i l hz;have sT:=qA2 hT (.tup [.int (i:Int),.ref r]);have ah:=sT _ _ (sm2 _ _ ar);have ai:=sT _ _ aa;have NT:=N2.same λr' bh e=>sT _ _ e;have az:=sm2.trans sT;have gT:SqT K (Ag Hd T (.tup [.int (i:Int),.ref r])) T [.int (i:Int),.ref r]:=SqT.of qA1;generalize Ag Hd T (.tup [.int (i:Int),.ref r])=bz at ah ai NT az gT ⊢;refine⟨T,_,rfl,gT,rfl,_,_,rfl,_,_,rfl,rfl,?_⟩;refine⟨_,rfl,_,rfl,_,_,rfl,rfl,_,rfl,?_⟩;refine ite2 (λck=>?_) (λck=>?_)
    ·have ac:(i:Int)<g:=of_decide_eq_true ck;rw[if_pos ac] at rz;refine⟨_,rfl,_,ai,qAE (by rw[A0,NetAt.len N2];lia),?_⟩
     rw[qBE];refine⟨_,_,rs'++[r],net'++[l],rfl,qAC az ab,qA1,qDT (qCL NT ah) ai,by rw[A9,C2,a0],a9.snoc ?_⟩
     rw[a0];exact rz
    ·have ac:¬(i:Int)<g:=of_decide_eq_false (G4.mpr ck);rw[if_neg ac] at rz;have lz:l.length<=i:=by
      have e:((i:Int)-g)=(((i:Int)-g).toNat:Nat):=by lia
      rw[e] at rz;have:=rz.len
      lia
     refine⟨_,rfl,r,rfl,⟨_,SqT.of ah⟩,λp2 be=>?_⟩;refine qG7 (p:=p2) (a:=r) (xs:=l.map V.int) (λj σ He=>∃(v:Option V),σ=[v,some (.int g)]/\Same bz He/\He p2=some (.lst (((l.take j).map (·+g)).map V.int))) ?_ ?_ ?_ ?_
     ·exact⟨none,rfl,qA2 be _,qA1⟩
     ·rintro j σ He hj ⟨v,rfl,sm3,_⟩;exact SqT.of (sm3 _ _ ah)
     ·refineλj x σ He bx b0=>opq λcp al=>?_;obtain⟨v,rfl,sm3,aj⟩:=b0;obtain⟨z,cb,rfl⟩:=qBH bx;refine al ?_;refine⟨_,rfl,_,rfl,_,_,rfl,rfl,_,aj,qAE (by rw[A0,A0,C4];lia),_,rfl,qAC sm3 be,?_⟩
      rw[qA1,C5,cb,C6,B3,B3]
      rfl
     ·refineλσ He ay=>opq λcs b3=>?_;obtain⟨v,rfl,sm3,aj⟩:=ay;refine b3 ?_;rw[A0,C7 (A7 _)] at aj;refine⟨p2,_,rfl,.inl ⟨SqL.of aj,λr2 av=>?_⟩⟩;have s1:=qA2 av (.tup ((l.map (·+g)).map V.int));have s2:=sm3.trans s1;have g1:=s2 _ _ ai;refine⟨_,g1,qAE (by rw[A0,NetAt.len N2];lia),?_⟩
      rw[qBE];refine⟨_,_,rs'++[r2],net'++[l.map (·+g)],rfl,qAC (az.trans s2) ab,qA1,qDT (qCL (NT.same λr' bh e=>s2 _ _ e) qA1) g1,by rw[A9,C2,a0],a9.snoc ?_⟩
      rw[a0];have:=rz.shift b8;rw[show(i:Int)-g+g=(i:Int) by lia] at this
      exact this
   ·refineλσ Hd au=>opq λcr ax=>?_;obtain⟨v1,v2,rs',net',rfl,sm2,aa,N2,a0,a9⟩:=au;refine ax ?_;refine⟨p',_,rfl,.inl ⟨SqL.of aa,λa ha=>?_⟩⟩;have s1:=qA2 ha (.tup (rs'.map V.ref));refine q a net' t' ms _ (S3.same (sm2.trans s1)) (by lia) (by lia) (ae.trans (k3.trans (.of_same (sm2.trans s1)))) ⟨rs',qA1,N2.same λr ys e=>s1 _ _ e⟩ a9 ?_
    rw[a0,A0,C3 N,hl]
    lia
 refine c9 _ _ ?_;refine⟨_,rfl,m,rfl,by lia,by lia,λp hp=>?_⟩
 refine qBV (p:=p) (lo:=0) (n:=m.toNat) (λi σ u=>∃(v:Option V) (t':Int) (ms:List Int) (rs:List Addr) (Ae:List (List Int)),σ=[v,some (.ref d)]/\StAt u d c t' ms/\t+2<=t'/\t'<=t+2+9*i/\Keep d c H2 u/\u p=some (.lst (rs.map V.ref))/\NetL u rs Ae/\Ae.length=i/\WFn Ae) ?_ ?_ ?_
 ·exact⟨none,t+1+1,ad,[],[],rfl,S2.new hp _,by lia,by lia,qD5 hp _,qA1,.nil,rfl,WFn.nil⟩
 ·refineλi σ u hi am=>opq λcq an=>?_;obtain⟨v,t',ms,rs,Ae,rfl,S3,b1,b2,k3,o,N,hl,wf⟩:=am;refine an ?_;have af:p≠d:=(qA5 S2.dict hp).symm;have ag:p≠c:=(qA5 S2.list hp).symm;refine⟨_,rfl,_,rfl,d,c,t',ms,0+(i:Int),rfl,S3,(by show t'<=1000000000-20;lia),by lia,by lia,λr l ap aw H3 e1 e2 e3 e4 e5 e6=>?_⟩
  have g1:=e4 _ _ o af ag;refine⟨_,g1,qAE (by rw[A0,NetAt.len N];lia),?_⟩
  rw[qBE];refine⟨_,ap,aw,rs++[r],Ae++[l],rfl,⟨by rw[qAA (J3 af)];exact e1.dict,by rw[qAA (J3 ag)];exact e1.list,e1.ne,e1.len,e1.pos⟩,by lia,by lia,qH1 (k3.trans e4) hp,qA1,qDT (qCL (N.keep (λr ys e=>S3.tup e) e4) e5) g1,by rw[A9,C2,hl],wf.snoc ?_⟩
  rw[hl];exact e6.mono (by lia)
 ·refineλσ u as=>opq λco ak=>?_;obtain⟨v,t',ms,rs,Ae,rfl,S3,b1,b2,k3,o,N,hl,wf⟩:=as;refine ak ?_;refine⟨p,_,rfl,.inl ⟨SqL.of o,λa ha=>?_⟩⟩;have s1:=qA2 ha (.tup (rs.map V.ref));exact q a Ae t' ms _ (S3.same s1) (by lia) (by lia) (ae.trans (k3.trans (.of_same s1))) ⟨rs,qA1,N.same λr ys e=>s1 _ _ e⟩ wf (by rw[hl];lia)
theorem qWA {k:Int}(b:0<=k)(a:k<4):∃v,atI [V.int 0,V.int 0,V.int 1,V.int 3] k=some (.int v)/\0<=v/\v<=3:=by
 rcases(by lia:k=0\/k=1\/k=2\/k=3) with rfl|rfl|rfl|rfl
 all_goals exact⟨_,rfl,by decide,by decide⟩
theorem sc_Lasked:FnScope ["_law_state","_law_net_here","_law_found","_law_turn"] ["_law_state","_law_net_here"] (qAB qIP):=qBN
theorem ok_Lasked (F:Fun K "_law_asked" "_law_asked" qIP f fd)
  (a2:Clb P w K mg base 1 qE3 qDV "_law_take" ["_law_state","_law_many"] qGN)
  (qB5:mg "len" = none) (qMR:mg "min" = none) (qAP:mg "range" = none) (af:mg "set" = none) (ah:mg "sorted" = none) (qAI:mg "tuple" = none):FnOk P w K mg base CX0 2 f fd ["_law_state","_law_net_here"] qT2:=by
 refine F.okA sc_Lasked λao A ac s H vs Q E hr h=>?_;obtain⟨d,c,t,ns,a,Ae,rfl,S,ht,hN,wf,n1,am,q⟩:=h;have aq:t<=1000000000-100:=ht;have ar:Room 1 _:=hr;refine⟨_,(qA4 (qAF (i:=2) sc_Lasked.nd rfl (E6 rfl) (qBP (qA0 (qAN qDH (qAN qDH (qA9 qA8 rfl qB5 qB1 (qA0 (pv 1) qA3)) qA7) (qAS a2 hr rfl (qA0 (pv 0) (qA0 (qA9 (qK3 rfl) rfl qMR qRE (qA0 (qA9 qA8 rfl qB5 qB1 (qA0 (pv 1) qA3)) (qA0 qA7 qA3))) qA3)))) qA3))) (qA4 (qBX D9 rfl (qAY rfl qAP (qA0 (qBQ qCU (qBP (qA0 qA7 (qA0 qA7 (qA0 qA7 (qA0 qA7 qA3))))) (qAS a2 hr rfl (qA0 (pv 0) (qA0 qA7 qA3))) (λ_ _=>rfl)) qA3)) (qAZ (i:=3) sc_Lasked.nd rfl (E6 rfl)) (qA6 (qEK (qN9 G5 J8 J9 qCC (pv 2) (qA0 (qAS a2 hr rfl (qA0 (pv 0) (qA0 (qA9 qA8 rfl qB5 qB1 (qA0 (pv 1) qA3)) qA3))) qA3))))) (qA6 (qAH (qAD qAJ rfl qAI qAM (qA0 (qA9 (qEY rfl) rfl ah qED (qA0 (qAD (qMN rfl) rfl af qVM (qA0 (pv 2) qA3)) qA3)) qA3)))))),?_⟩
 try dsimp only[Cx.nox,Cx.wish,cxOf]
 obtain⟨rs,hA,NL⟩:=id hN;have l:(((rs.map V.ref).length:Nat):Int)=(Ae.length:Int):=by rw[A0,C3 NL]
 refine⟨_,rfl,a,_,rfl,.inr (SqT.of hA),_,_,rfl,rfl,?_⟩;refine⟨_,rfl,_,rfl,a,_,rfl,.inr (SqT.of hA),_,_,rfl,?_⟩;refine⟨d,c,t,ns,_,rfl,S,(by show t<=1000000000;lia),by split<;>lia,by split<;>lia,λk aj H1 k0 k1 S1 K1=>?_⟩
 have kb:0<=(Ae.length:Int)-1-k/\(Ae.length:Int)-1-k<(Ae.length:Int):=by
  rw[l] at k1
  split at k1<;>lia
 refine⟨_,_,rfl,rfl,(by show 1<=B18;decide),λg v=>?_⟩
 dsimp only;rw[l];generalize (Ae.length:Int)-1-k=x0 at kb;have a0:g≠d:=(qA5 S1.dict v).symm;have a1:g≠c:=(qA5 S1.list v).symm;have S2:=S1.new v (.lst [.int x0]);have k2:=K1.trans (qD5 (d:=d) (c:=c) v (.lst [.int x0]));have ae:∀o,H g=some o->False:=λo z=>by
  by_cases e1:g=d
  ·exact a0 e1
  ·by_cases e2:g=c
   ·exact a1 e2
   ·have:=K1 g o z e1 e2;rw[v] at this;cases this
 have ab:(Ag H1 g (.lst [.int x0])) g=some (.lst ([x0].map V.int)):=qA1;generalize Ag H1 g (.lst [.int x0])=H2 at S2 k2 ab;refine⟨(by show 4<=B18;decide),λp hp=>?_⟩
 have a5:p≠d:=(qA5 S2.dict hp).symm;have a8:p≠c:=(qA5 S2.list hp).symm;have sp:=qA2 hp (.lst [.int 0,.int 0,.int 1,.int 3]);refine⟨_,rfl,d,c,t+1,aj,4,rfl,S2.same sp,(by show t+1<=1000000000;lia),by decide,by decide,λj ad H3 j0 j1 S3 K3=>?_⟩
 have gp:=K3 _ _ qA1 a5 a8;have a9:=K3 _ _ (sp _ _ ab) a0 a1;have k3:=(k2.trans (.of_same sp)).trans K3;obtain⟨m,hm,m0,m3⟩:=qWA j0 j1;refine⟨p,_,_,_,rfl,rfl,SqL.of gp,hm,m,rfl,by lia,by lia,qFI (lo:=0) (n:=m.toNat) (λi σ Hc=>∃(t':Int) (ms fs:List Int) (v3:Option V),σ=[some (.ref d),some (.ref a),some (.ref g),v3]/\StAt Hc d c t' ms/\t+2<=t'/\t'<=t+2+i/\Keep d c H Hc/\Hc g=some (.lst (fs.map V.int))/\fs.length=i+1/\∀x∈fs,0<=x/\x<(Ae.length:Int))
  ⟨t+1+1,ad,[x0],none,rfl,S3,by lia,by lia,k3,a9,rfl,λx hx=>by rw[A6.mp hx];exact kb⟩ ?_ ?_⟩
 ·refineλi σ Hc hi a6=>opq λan aa=>?_;obtain⟨t',ms,fs,v3,rfl,S4,b1,b2,k4,gf,lf,fb⟩:=a6;refine aa ?_;have ag:=hN.keep S k4;obtain⟨rs,hA,NL⟩:=id ag;have l:(((rs.map V.ref).length:Nat):Int)=(Ae.length:Int):=by rw[A0,C3 NL]
  refine⟨_,rfl,.inl ⟨rfl,_,SqL.of gf⟩,_,rfl,_,rfl,a,_,rfl,.inr (SqT.of hA),d,c,t',ms,_,rfl,S4,(by show t'<=1000000000;lia),by rw[l];lia,by rw[l];lia,λx al H5 x0 x1 S5 K5=>?_⟩
  rw[l] at x1;have ak:=K5 _ _ gf a0 a1;refine⟨g,_,_,rfl,rfl,ak,qAE (by rw[A0];lia),?_⟩
  refine⟨t'+1,al,fs++[x],_,rfl,⟨by rw[qAA (J3 a0)];exact S5.dict,by rw[qAA (J3 a1)];exact S5.list,S5.ne,S5.len,S5.pos⟩,by lia,by lia,λb u e n1 n2=>?_,by rw[qA1,B3];rfl,by rw[A9,C2,lf],λy hy=>?_⟩
  ·by_cases e3:b=g
   ·subst e3;exact(ae _ e).elim
   ·rw[qAA e3];exact(k4.trans K5) b u e n1 n2
  ·rcases A8.mp hy with hy|hy
   ·exact fb y hy
   ·rw[A6.mp hy];exact⟨x0,x1⟩
 ·refineλσ Hc a4=>opq λap a3=>?_;obtain⟨t',ms,fs,v3,rfl,S4,b1,b2,k4,gf,lf,fb⟩:=a4;refine a3 ?_;refine⟨_,rfl,g,fs,rfl,SqL.of gf,by lia,λe he=>?_⟩
  have ld:=qMF fs;refine⟨e,dedI fs,rfl,.inr (.inr qA1),by lia,λb ys hb a7 hs=>?_⟩
  refine⟨b,_,rfl,.inl ⟨SqL.of qA1,λr ai=>?_⟩⟩;have s1:=((qA2 he (SetO w e (dedI fs))).trans (qA2 hb (.lst (ys.map V.int)))).trans (qA2 ai (.tup (ys.map V.int)));have ne:fs≠[]:=λz=>by rw[z] at lf;simp at lf
  obtain⟨y,hy⟩:=List.exists_mem_of_ne_nil fs ne;refine q r ys t' ms _ (S4.same s1) (by lia) (by lia) (k4.trans (.of_same s1)) qA1 (qLQ a7 hs fb) (V4 (a7.mem_iff.mpr (mem_dedI.mpr hy)))
theorem sc_all_needed:FnScope ["net","asked","wanted","work","need"] ["net","asked"] (qAB qDP):=qBN
theorem ok_all_needed (F:Fun K "all_needed" "all_needed" qDP f fd) (qAP:mg "range" = none) (qB5:mg "len" = none) (aj:mg "sorted" = none):FnOk P w K mg base CX0 1 f fd ["net","asked"] qT3:=by
 refine F.okA sc_all_needed λam A ah s H vs Q E hr h=>?_;obtain⟨a,t,c,Ad,rfl,hN,wf,ai,hT,a6,q⟩:=h;have hu:=qIG hr;refine⟨_,(qA4 (qAF (i:=2) sc_all_needed.nd rfl (E6 rfl) qLW) (qA4 (qBX D9 rfl (qE5 (pv 1)) (qAZ (i:=3) sc_all_needed.nd rfl (E6 rfl)) (qA6 (qEL hu (pv 2) (pv 3) qF3 rfl))) (qA4 (qBX D9 rfl (qTH rfl qAP (qA0 (qAN qDH (qA9 qA8 rfl qB5 qB1 (qA0 (pv 0) qA3)) qA7) (qA0 (qWC qPZ qA7) (qA0 (qWC qPZ qA7) qA3)))) (qAZ (i:=3) sc_all_needed.nd rfl (E6 rfl)) (qA6 (qC0 (qE4 (qQO hu (pv 3) (pv 2))) (qA6 (qBX D9 rfl (qE5 (qBQ qCD (pv 0) (pv 3) (λ_ _=>rfl))) (qAZ (i:=4) sc_all_needed.nd rfl (E6 rfl)) (qA6 (qEL hu (pv 2) (pv 4) qF3 rfl)))) qAR))) (qA6 (qAH (qA9 (qO2 rfl) rfl aj qED (qA0 (pv 2) qA3))))))),?_⟩
 try dsimp only[Cx.nox,Cx.wish,cxOf]
 obtain⟨rs,hA,NL⟩:=id hN;have a0:(((rs.map V.ref).length:Nat):Int)=(c.length:Int):=by rw[A0,C3 NL]
 refineλu a2=>?_;have sn:=qA2 a2 (.dK []);refine⟨_,rfl,t,rfl,⟨_,SqT.of (sn _ _ hT)⟩,qHS (a:=t) (xs:=Ad.map V.int) (λj σ Hf=>∃(Af:List (Key×V)) (ks:List Int) (v3 v4:Option V),σ=[some (.ref a),some (.ref t),some (.ref u),v3,v4]/\Same H Hf/\Hf u=some (.dK Af)/\KeysI Af ks/\∀x,x∈ks↔x∈Ad.take j)
  ⟨[],[],none,none,rfl,sn,qA1,KeysI.nil,λx=>by simp⟩ (λj σ Hf _ hP=>by obtain⟨_,_,_,_,_,d,_⟩:=hP;exact SqT.of (d _ _ hT)) ?_ ?_⟩
 ·refineλj x σ Hf hx a8=>opq λak ae=>?_;obtain⟨Af,ks,v3,v4,rfl,d,hd,g,mk⟩:=a8;obtain⟨y,ey,rfl⟩:=qBH hx;refine ae ?_;have lk:ks.length<=c.length:=qTX g.nd λx hx=>a6 x (P1 ((mk x).mp hx));refine⟨_,rfl,_,rfl,u,_,rfl,DPut.k (k:=E3 y) hd (qBK (by rw[g.len];lia)),?_⟩
  refine⟨_,_,_,_,rfl,qAC d a2,qA1,g.put y _,λx=>?_⟩;rw[mem_addI,mk,C5,ey,C6,A8,A6]
 refineλσ Hf a5=>opq λao a4=>?_;obtain⟨Af,ks,v3,v4,rfl,d,hd,g,mk⟩:=a5;refine a4 ?_;rw[A0,qBD rfl] at mk;refine⟨_,rfl,a,_,rfl,.inr (SqT.of (d _ _ hA)),_,_,rfl,rfl,_,rfl,_,rfl,_,_,rfl,⟨by rw[a0];lia,by rw[a0];lia,by decide,by decide⟩,qR5 (lo:=(((rs.map V.ref).length:Nat):Int)-1) (n:=((((rs.map V.ref).length:Nat):Int)-1 - -1).toNat) (λi σ Hc=>∃(Af:List (Key×V)) (ks:List Int) (v3 v4:Option V),σ=[some (.ref a),some (.ref t),some (.ref u),v3,v4]/\Same H Hc/\Hc u=some (.dK Af)/\KeysI Af ks/\Fnd c Ad ks ((c.length:Int)-i))
  ⟨Af,ks,v3,v4,rfl,d,hd,g,⟨λx hx=>⟨a6 x ((mk x).mp hx),.ask ((mk x).mp hx)⟩,λx hx=>(mk x).mpr hx,λw zs h1 h2 h3=>?_⟩⟩ ?_ ?_⟩
 ·have:=(A4.mp h3).1
  lia
 ·refineλi σ Hc hi af=>opq λar ab=>?_;obtain⟨Af,ks,v3,v4,rfl,d,hd,g,v⟩:=af;refine ab ?_;rw[a0] at hi ⊢;have aq:i<c.length:=by lia
  obtain⟨m,ew⟩:∃m:Nat,(c.length:Int)-1-i=(m:Int):=⟨c.length-1-i,by lia⟩
  have hw:m<c.length:=by lia
  rw[ew];obtain⟨r,h3,h4⟩:=NL.get (A3 hw);have hz:=A3 hw;have rz:=wf m _ hz;generalize c[m]=zs at h4 hz rz;refine⟨_,rfl,_,rfl,u,_,rfl,DGet.k (k:=E3 (m:Int)) hd,_,rfl,?_⟩;rw[g.has];by_cases mw:(m:Int)∈ks
  ·rw[decide_eq_true mw];refine⟨_,rfl,_,rfl,a,_,_,_,rfl,rfl,SqT.of (d _ _ hA),qFF (by lia) (by rw[B8,B6,h3];rfl),r,rfl,⟨_,SqT.of (d _ _ h4)⟩,qHS (a:=r) (xs:=zs.map V.int) (λk σ Hd=>∃(Af:List (Key×V)) (ks:List Int) (v4:Option V),σ=[some (.ref a),some (.ref t),some (.ref u),some (.int (m:Int)),v4]/\Same H Hd/\Hd u=some (.dK Af)/\KeysI Af ks/\Fnd c Ad ks ((m:Int)+1)/\(m:Int)∈ks/\∀y∈zs.take k,y∈ks)
    ⟨Af,ks,v4,rfl,d,hd,g,by rw[show(m:Int)+1=(c.length:Int)-i by lia];exact v,mw,λy hy=>by simp at hy⟩ (λk σ Hd _ hP=>by obtain⟨_,_,_,_,o,_⟩:=hP;exact SqT.of (o _ _ h4)) ?_ ?_⟩
   ·refineλk x σ Hd hx ad=>opq λal ac=>?_;obtain⟨Af,ks,v4,rfl,o,a1,p,b,a3,ty⟩:=ad;obtain⟨y,ey,rfl⟩:=qBH hx;refine ac ?_;have my:=B0 ey;have yb:=rz.in_ y my;have lk:ks.length<=c.length:=qTX p.nd λx hx=>(b.in_ x hx).1;refine⟨_,rfl,_,rfl,u,_,rfl,DPut.k (k:=E3 y) a1 (qBK (by rw[p.len];lia)),?_⟩
    refine⟨_,_,_,rfl,qAC o a2,qA1,p.put y _,⟨λx hx=>?_,λx hx=>mem_addI.mpr (.inl (b.ask x hx)),λw1 ys h1 h2 h3 z hz'=>?_⟩,mem_addI.mpr (.inl a3),λz hz'=>?_⟩
    ·rcases mem_addI.mp hx with hx|hx
     ·exact b.in_ x hx
     ·rw[hx];exact⟨⟨yb.1,by lia⟩,.need (b.in_ _ a3).2 (by rw[B8];exact hz) my⟩
    ·rcases mem_addI.mp h2 with h2|h2
     ·exact mem_addI.mpr (.inl (b.clo w1 ys h1 h2 h3 z hz'))
     ·lia
    ·rw[C5,ey,C6,A8,A6] at hz';rcases hz' with hz'|hz'
     ·exact mem_addI.mpr (.inl (ty z hz'))
     ·exact mem_addI.mpr (.inr hz')
   ·refineλσ Hd a7=>opq λap ag=>?_;obtain⟨Af,ks,v4,rfl,o,a1,p,b,a3,ty⟩:=a7;refine ag ?_;rw[A0,qBD rfl] at ty;refine⟨Af,ks,_,_,rfl,o,a1,p,b.in_,b.ask,λw1 ys h1 h2 h9=>?_⟩;by_cases e:w1=m
    ·subst e;rw[hz] at h9;cases h9;exact ty
    ·exact b.clo w1 ys (by lia) h2 h9
  ·rw[decide_eq_false mw];refine⟨Af,ks,_,_,rfl,d,hd,g,v.in_,v.ask,λw1 ys h1 h2 h3=>?_⟩;by_cases e:w1=m
   ·subst e;exact absurd h2 mw
   ·exact v.clo w1 ys (by lia) h2 h3
 ·refineλσ Hc aa=>opq λan a9=>?_;obtain⟨Af,ks,v3,v4,rfl,d,hd,g,v⟩:=aa;refine a9 ?_;rw[a0,show((c.length:Int)-(((c.length:Int)-1 - -1).toNat:Nat))=0 by lia] at v
  have as:ks.length<=c.length:=qTX g.nd λx hx=>(v.in_ x hx).1;refine⟨_,rfl,u,ks,Af,rfl,hd,g.keys,by lia,λl zs hl hp hs=>?_⟩
  have s1:=qA2 hl (.lst (zs.map V.int));refine q l zs _ (d.trans s1) (d.free hl) qA1 ⟨⟨qDU hs (hp.nodup_iff.mpr g.nd),λx hx=>(v.in_ x (hp.mem_iff.mp hx)).1⟩,λx=>?_⟩;rw[hp.mem_iff];exact v.all wf x
theorem qLL:FnScope ["needs","numbers"] ["needs","numbers"] (qAB qDN):=qBN
theorem ok_renumbered (F:Fun K "renumbered" "renumbered" qDN f fd) (qAI:mg "tuple" = none):FnOk P w K mg base CX0 1 f fd ["needs","numbers"] qb1:=by
 refine F.okA qLL λa3 A v s H vs Q E hr h=>?_;obtain⟨r,d,u,Af,c,rfl,hR,z,hd,hv,q⟩:=h;have hu:=qIG hr;refine⟨_,(qA6 (qAH (qAD qAJ rfl qAI qAM (qA0 (qCR rfl (lcs (own:=["need"]) (fv:=[1]) (by kernel_rfl)) (qE5 (pv 0)) (λz1=>qBO 0) (λz1=>(qDF (qE4 (qQO hu (pv 0) (pv 1))))) (λz1=>(qDG hu (pv 1) (pv 0) (λ_ _=>rfl)))) qA3)))),?_⟩
 try dsimp only[Cx.nox,Cx.wish,cxOf]
 refine⟨_,rfl,r,rfl,⟨_,SqT.of hR⟩,λp hp=>?_⟩;refine qG7 (p:=p) (a:=r) (xs:=u.map V.int) (λi σ t=>∃(v0:Option V),σ=[v0,some (.ref d)]/\Same H t/\t p=some (.lst (((u.take i).filterMap c).map V.int))) ?_ ?_ ?_ ?_
 ·exact⟨none,rfl,qA2 hp _,qA1⟩
 ·rintro i σ t hi ⟨v0,rfl,sm,_⟩;exact SqT.of (sm _ _ hR)
 ·refineλi x σ t hx j=>opq λa1 g=>?_;obtain⟨v0,rfl,sm,b⟩:=j;obtain⟨y,ey,rfl⟩:=qBH hx;refine g ?_;have lt:=(A4.mp ey).1;have o:=DGet.k (k:=E3 y) (sm _ _ hd);have lk:((u.take i).filterMap c).length<=i:=F3 (O6 _ _) (by rw[C4];lia)
  refine⟨_,rfl,_,rfl,d,_,rfl,o,_,rfl,?_⟩;rw[C5,ey,C6,T0,O4,List.filterMap_nil];rw[hv] at o ⊢;cases e:c y with
  |none=>
   rw[e] at o;refine⟨_,rfl,sm,?_⟩;simpa using b
  |some n=>
   rw[e] at o;refine⟨_,rfl,_,rfl,d,_,rfl,o,_,b,qAE (by rw[A0];lia),_,rfl,qAC sm hp,?_⟩
   rw[qA1,B3]
   rfl
 ·refineλσ t m=>opq λa2 l=>?_;obtain⟨v0,rfl,sm,b⟩:=m;refine l ?_;rw[A0,qBD rfl] at b;refine⟨p,_,rfl,.inl ⟨SqL.of b,λr' a0=>?_⟩⟩;exact q r' _ (sm.trans (qA2 a0 _)) qA1
theorem sc_part_net:FnScope ["net","works","numbers","number","work"] ["net","works"] (qAB qFT):=qBN
theorem ok_part_net (F:Fun K "part_net" "part_net" qFT f fd) (ad:Clb P w K mg base 1 qFM qM5 "renumbered" ["needs","numbers"] qb1)
  (a9:mg "enumerate" = none) (qAI:mg "tuple" = none):FnOk P w K mg base CX0 2 f fd ["net","works"] qLH:=by
 refine F.okA sc_part_net λam A aa s H vs Q E hr h=>?_;obtain⟨a,t,Ae,j,rfl,hN,wf,ae,hT,g,q⟩:=h;have hu:=qIG hr;have ah:Room 1 _:=hr;have lw:=g.len;refine⟨_,(qA4 (qAF (i:=2) sc_part_net.nd rfl (d7 rfl) qLW) (qA4 (qBX D9 rfl (qQK rfl a9 qDY (qA0 (pv 1) qA3)) (qTI rfl (qC1 (qAZ (i:=3) sc_part_net.nd rfl (E6 rfl)) (qC1 (qAZ (i:=4) sc_part_net.nd rfl (E6 rfl)) qHK))) (qA6 (qEL hu (pv 2) (pv 4) (pv 3) rfl))) (qA6 (qAH (qAD qAJ rfl qAI qAM (qA0 (qCR rfl (lcs (own:=["work"]) (fv:=[0,2]) (by kernel_rfl)) (qE5 (pv 1)) (λz2=>qBO 0) (λz2=>qB6) (λz2=>(qAS ad hr rfl (qA0 (qBQ (qJN (K:=K) rfl) (pv 1) (pv 0) (λ_ _=>rfl)) (qA0 (pv 2) qA3))))) qA3)))))),?_⟩
 try dsimp only[Cx.nox,Cx.wish,cxOf]
 obtain⟨rs,hA,NL⟩:=id hN;refineλdn u=>?_;have sn:=qA2 u (.dK []);refine⟨_,rfl,t,rfl,⟨_,.inl (Rd.same hT sn)⟩,qUU (a:=t) (xs:=j.map V.int) (λi σ n=>∃(Af:List (Key×V)) (v3 v4:Option V),σ=[some (.ref a),some (.ref t),some (.ref dn),v3,v4]/\Same H n/\n dn=some (.dK Af)/\Af.length<=i/\∀x,valV Af (E3 x)=(qC8 (j.take i) x).map V.int)
  ⟨[],none,none,rfl,sn,qA1,A7 _,λx=>by simp[qC8,valV]⟩ (λi σ n _ ⟨_,_,_,_,sm,_⟩=>.inl (Rd.same hT sm)) ?_ ?_⟩
 ·refineλi x σ n T hx a2 ac=>opq λaj a0=>?_;obtain⟨Af,v3,v4,rfl,sm,hd,lk,hv⟩:=a2;obtain⟨y,m,rfl⟩:=qBH hx;refine a0 ?_;have lt:=(A4.mp m).1;have sT:=qA2 ac (.tup [.int (i:Int),.int y]);refine⟨T,_,rfl,SqT.of qA1,rfl,_,_,rfl,_,_,rfl,rfl,?_⟩;refine⟨_,rfl,_,rfl,_,rfl,dn,_,rfl,DPut.k (k:=E3 y) (sT _ _ hd) (qBK (by lia)),?_⟩
  refine⟨_,_,_,rfl,qAC (sm.trans sT) u,qA1,F3 (qCH _ _ _) (by lia),λx=>?_⟩
  rw[qIJ,qKM g.nodup m x];by_cases e:x=y
  ·rw[e,if_pos rfl,if_pos rfl]
   rfl
  ·rw[if_neg e,if_neg λz=>e (Z9 z)];exact hv x
 refineλσ n a4=>opq λak a7=>?_;obtain⟨Af,v3,v4,rfl,sm,hd,lk,hv⟩:=a4;refine a7 ?_;rw[A0,qBD rfl] at hv;refine⟨_,rfl,t,rfl,⟨_,.inl (Rd.same hT sm)⟩,λp hp=>?_⟩;refine qG7 (p:=p) (a:=t) (xs:=j.map V.int) (λi σ o=>∃(v0:Option V) (ss:List Addr),σ=[v0,some (.ref a),some (.ref dn)]/\Same n o/\o p=some (.lst (ss.map V.ref))/\NetL o ss ((qBB Ae j).take i)) ?_ ?_ ?_ ?_
 ·exact⟨none,[],rfl,qA2 hp _,qA1,by rw[List.take_zero];exact .nil⟩
 ·refineλi σ o hi a8=>opq λal a5=>?_;obtain⟨v0,ss,rfl,c,_⟩:=a8;refine a5 ?_;exact .inl (Rd.same (Rd.same hT sm) c)
 ·refineλi x σ o hx a3=>opq λag a6=>?_;obtain⟨v0,ss,rfl,c,l,N2⟩:=a3;obtain⟨y,m,rfl⟩:=qBH hx;refine a6 ?_;have lt:=(A4.mp m).1;have yb:=g.in_ y (B0 m);have s3:=sm.trans c;have hy:y.toNat<Ae.length:=by lia
  obtain⟨r,h3,h4⟩:=NL.get (A3 hy);have lz:=(wf y.toNat _ (A3 hy)).len;refine⟨_,rfl,_,rfl,a,_,_,_,rfl,rfl,SqT.of (s3 _ _ hA),qFF yb.1 (by rw[B6,h3];rfl),_,rfl,r,dn,_,Af,qC8 j,rfl,s3 _ _ h4,by lia,c _ _ hd,hv,λr' H' d af=>?_⟩
  have g1:=d _ _ l;have ab:ss.length=((qBB Ae j).take i).length:=C3 N2;refine⟨_,g1,qAE (by rw[A0,ab,C4,qB7];lia),?_⟩
  rw[qBE];refine⟨_,ss++[r'],rfl,qAC (c.trans d) hp,qA1,?_⟩;rw[C5,qFB m,A3 hy];exact qDT (qCL (N2.same λr' ys e=>d _ _ e) af) g1
 ·refineλσ o v=>opq λai a1=>?_;obtain⟨v0,ss,rfl,c,l,N2⟩:=v;refine a1 ?_;rw[A0,qBD (qB7 Ae j)] at N2;refine⟨p,_,rfl,.inl ⟨SqL.of l,λb hb=>?_⟩⟩;have s1:=qA2 hb (.tup (ss.map V.ref));exact q b _ ((sm.trans c).trans s1) ⟨ss,qA1,N2.same λr ys e=>s1 _ _ e⟩
theorem sc_fault_of_do:FnScope ["net","rooms","stand","work","there","result","need"] ["net","rooms","stand","work"] (qAB qD2):=qBN
theorem ok_fault_of_do (F:Fun K "fault_of_do" "fault_of_do" qD2 f fd) (qB5:mg "len" = none):FnOk P w K mg base CX0 1 f fd ["net","rooms","stand","work"] qN3:=by
 refine F.okA sc_fault_of_do λai A a8 s H vs Q E hr h=>?_;obtain⟨a,so,Ae,c,ns,m,j,rfl,hN,t,ae,aa,ab,q⟩:=h;have hu:=qIG hr;refine⟨_,(qA4 (qAF (i:=4) sc_fault_of_do.nd rfl (E6 rfl) qLW) (qA4 (qBX D9 rfl (qE5 (pv 2)) (qAZ (i:=5) sc_fault_of_do.nd rfl (E6 rfl)) (qA6 (qEL hu (pv 4) (pv 5) qF3 rfl))) (qA4 (qC0 (qE4 (qQO hu (pv 3) (pv 4))) (qA6 (qAH qCY)) qAR) (qA4 (qBX D9 rfl (qE5 (qBQ qCD (pv 0) (pv 3) (λ_ _=>rfl))) (qAZ (i:=6) sc_fault_of_do.nd rfl (E6 rfl)) (qA6 (qC0 (qE4 (qF9 hu (pv 6) (pv 4))) (qA6 (qAH qCY)) qAR))) (qA4 (qC0 (qAQ qWH (qA9 qA8 rfl qB5 qB1 (qA0 (pv 2) qA3)) (pv 1) (qAW _)) (qA6 (qAH qCY)) qAR) (qA6 (qAH qJC))))))),?_⟩
 try dsimp only[Cx.nox,Cx.wish,cxOf]
 refineλp hp=>?_;have s0:=qA2 hp (.dK []);refine⟨_,rfl,so,rfl,⟨_,SqT.of (s0 _ _ t)⟩,qHS (a:=so) (xs:=c.map V.int) (λi σ Hc=>∃(Af:List (Key×V)) (v:Option V),σ=[some (.ref a),some (.int m),some (.ref so),some (.int j),some (.ref p),v,none]/\Same H Hc/\Hc p=some (.dK Af)/\Af.length<=i/\∀x:Int,(valV Af (E3 x)).isSome=true↔x∈c.take i)
  ⟨[],none,rfl,s0,qA1,A7 _,λx=>by simp[valV]⟩ (λi σ Hc _ hP=>by obtain⟨_,_,_,d,_⟩:=hP;exact SqT.of (d _ _ t)) ?_ ?_⟩
 ·refineλi x σ Hc l a7=>opq λac a4=>?_;obtain⟨Af,v,rfl,d,hd,lk,u⟩:=a7;refine a4 ?_;rw[B6] at l;cases ez:c[i]? with
  |none=>rw[ez] at l;cases l
  |some z=>
   rw[ez] at l;cases l;have af:i<c.length:=(A4.mp ez).1;refine⟨_,rfl,_,rfl,p,_,rfl,DPut.k (k:=E3 z) hd (qAE (by lia)),?_⟩
   refine⟨putK Af (E3 z) (.bl true),_,rfl,λb o e=>?_,qA1,F3 (qCH _ _ _) (by lia),λy=>?_⟩
   ·rw[qAA (qA5 e hp)];exact d b o e
   ·rw[qIJ,C5,ez,C6,A8,A6];by_cases n:y=z
    ·subst n;simp
    ·have:¬(E3 y:Key)=E3 z:=λq=>n (Z9 q);rw[if_neg this,u y];simp[n]
 ·refineλσ Hc a1=>opq λad a0=>?_;obtain⟨Af,v,rfl,d,hd,lk,u⟩:=a1;refine a0 ?_;rw[A0,C7 (A7 _)] at u;obtain⟨rs,r,h1,l1,h2,h3⟩:=hN.get ab;refine⟨_,rfl,_,rfl,p,_,rfl,DGet.k (k:=E3 j) hd,_,rfl,?_⟩;refine ite2 (λck=>?_) (λck=>?_)
  ·have hw:=(u j).mp ck;have e:qF4 ns c m j=.str "there":=by unfold qF4;rw[if_pos hw]
   have:=q Hc d;rw[e] at this;exact this
  ·have hw:¬j∈c:=λz=>ck ((u j).mpr z);refine⟨_,rfl,_,rfl,a,_,_,_,rfl,rfl,SqT.of (d _ _ h1),qFF aa h2,r,rfl,⟨_,SqT.of (d _ _ h3)⟩,qHS (a:=r) (xs:=ns.map V.int) (λi σ Hd=>∃(v6:Option V),σ=[some (.ref a),some (.int m),some (.ref so),some (.int j),some (.ref p),v,v6]/\Hd=Hc/\∀x∈ns.take i,x∈c)
    ⟨none,rfl,rfl,λx l=>by simp at l⟩ (λi σ Hd _ ⟨_,_,e,_⟩=>by rw[e];exact SqT.of (d _ _ h3)) ?_ ?_⟩
   ·refineλi x σ Hd l a6=>opq λag a5=>?_;obtain⟨v6,rfl,rfl,mm⟩:=a6;obtain⟨z,ez,rfl⟩:=qBH l;refine a5 ?_;refine⟨_,rfl,_,rfl,p,_,rfl,DGet.k (k:=E3 z) hd,_,rfl,?_⟩;refine ite2 (λcz=>?_) (λcz=>?_)
    ·have hz:¬z∈c:=λzz=>by rw[(u z).mpr zz] at cz;cases cz
     have e:qF4 ns c m j=.str "needs":=by
      unfold qF4;rw[if_neg hw,if_neg λa9=>hz (a9 z (B0 ez))]
     have:=q Hd d;rw[e] at this;exact this
    ·have hz:z∈c:=by
      apply(u z).mp;cases hv:(valV Af (E3 z:Key)).isSome with
      |true=>rfl
      |false=>rw[hv] at cz;exact absurd rfl cz
     refine⟨_,rfl,rfl,λy hy=>?_⟩;rw[C5,ez,C6,A8,A6] at hy;rcases hy with hy|rfl
     ·exact mm y hy
     ·exact hz
   ·refineλσ Hd a3=>opq λah a2=>?_;obtain⟨v6,rfl,rfl,mm⟩:=a3;refine a2 ?_;rw[A0,C7 (A7 _)] at mm;refine⟨_,rfl,so,_,rfl,.inr (SqT.of (d _ _ t)),_,rfl,_,_,rfl,rfl,_,rfl,?_⟩;have q':=q Hd d;have e0:qF4 ns c m j=if m<=(c.length:Int) then .str "full" else .non:=by
     unfold qF4;rw[if_neg hw,if_pos mm]
    rw[e0] at q';refine ite2 (λcf=>?_) (λcf=>?_)
    ·have g:m<=(((c.map V.int).length:Nat):Int):=of_decide_eq_true cf;rw[A0] at g;rw[if_pos g] at q';exact q'
    ·have g:¬m<=(((c.map V.int).length:Nat):Int):=of_decide_eq_false (G4.mpr cf);rw[A0] at g;rw[if_neg g] at q';exact q'
theorem qOQ:FnScope ["net","rooms","stand","move"] ["net","rooms","stand","move"] (qAB qFX):=qBN
theorem ok_fault_of (F:Fun K "fault_of" "fault_of" qFX f fd) (g:Clb P w K mg base 1 qET qKA "fault_of_do" ["net","rooms","stand","work"] qN3):
  FnOk P w K mg base CX0 2 f fd ["net","rooms","stand","move"] qSY:=by
 refine F.okA qOQ λa1 A l s H vs Q E v h=>?_;obtain⟨a,x,i,Ae,u,ns,Aa,wk,t,rfl,hN,d,k,c,m,n,r,y,q⟩:=h;have a0:Room 1 _:=v;refine⟨_,(qA4 (qC0 (qAQ qFC (qBQ qCD (pv 3) qA7 (λ_ _=>rfl)) qCY (qAW _)) (qA6 (qAH (qAS g v rfl (qA0 (pv 0) (qA0 (pv 1) (qA0 (pv 2) (qA0 (qBQ qCD (pv 3) qA7 (λ_ _=>rfl)) qA3))))))) qAR) (qA4 (qC0 (qAQ qJG (qBQ qCD (pv 3) qA7 (λ_ _=>rfl)) (pv 2) (by with_unfolding_all rfl)) (qA6 (qAH qJC)) qAR) (qA6 (qAH qCY)))),?_⟩
 try dsimp only[Cx.nox,Cx.wish,cxOf]
 refine⟨_,rfl,i,_,_,_,rfl,rfl,SqT.of c,rfl,rfl,_,rfl,?_⟩;refine ite2 (λp=>?_) (λp=>?_)
 ·have j:t = "do":=V.str.inj (of_decide_eq_true p)
  refine⟨_,rfl,_,rfl,_,rfl,_,rfl,i,_,_,_,rfl,rfl,SqT.of c,rfl,a,x,Ae,u,ns,Aa,wk,rfl,hN,d,k,n,r,λH' z=>?_⟩;have b:=q H' z;unfold qGL at b;rw[if_pos j] at b;exact b
 ·have j:¬t = "do":=λe=>(of_decide_eq_false (G4.mpr p)) (congrArg V.str e)
  have b:=q H (Same.refl H);unfold qGL qF5 at b;rw[if_neg j] at b;refine⟨_,rfl,i,_,_,_,rfl,rfl,SqT.of c,rfl,_,rfl,x,_,rfl,.inr (SqT.of d),rfl,qFJ u,_,rfl,?_⟩;rw[qJQ];refine ite2 (λo=>?_) (λo=>?_)
  ·rw[if_pos (of_decide_eq_true o)] at b;exact b
  ·rw[if_neg (of_decide_eq_false (G4.mpr o))] at b;exact b
theorem qJ6:FnScope ["stand","move"] ["stand","move"] (qAB qCJ):=qBN
theorem ok_stand_behind (F:Fun K "stand_behind" "stand_behind" qCJ f fd) (a5:mg "sorted" = none) (qAI:mg "tuple" = none):FnOk P w K mg base CX0 1 f fd ["stand","move"] qJ4:=by
 refine F.okA qJ6 λa8 A a4 s H vs Q E m h=>?_;obtain⟨so,mv,d,Ac,c,rfl,t,lst,n,o,q⟩:=h;refine⟨_,(qA4 (qC0 (qAQ qFC (qBQ qCD (pv 1) qA7 (λ_ _=>rfl)) qCY (qAW _)) (qA6 (qAH (qAD qAJ rfl qAI qAM (qA0 (qA9 (qEY rfl) rfl a5 qED (qA0 (qAN qZG (pv 0) (qCX (qA0 (qBQ qCD (pv 1) qA7 (λ_ _=>rfl)) qA3))) qA3)) qA3)))) qAR) (qA6 (qAH (qAD qAJ rfl qAI qAM (qA0 (qCR rfl (lcs (own:=["result"]) (fv:=[1]) (by kernel_rfl)) (qE5 (pv 0)) (λz1=>qBO 0) (λz1=>(qDF (qAQ qbM (pv 0) (qBQ (qJN (K:=K) rfl) (pv 1) qA7 (λ_ _=>rfl)) (qAW _)))) (λz1=>(pv 0))) qA3))))),?_⟩
 try dsimp only[Cx.nox,Cx.wish,cxOf]
 refine⟨_,rfl,mv,_,_,_,rfl,rfl,SqT.of n,rfl,rfl,_,rfl,?_⟩;refine ite2 (λck=>?_) (λck=>?_)
 ·have hd:Ac = "do":=V.str.inj (of_decide_eq_true ck)
  refine⟨_,rfl,_,rfl,mv,_,_,_,rfl,rfl,SqT.of n,rfl,(by show 1<=B18;decide),λT hT=>?_⟩
  have sT:=qA2 hT (.tup [.int c]);have a0:∀(p:Addr) (H1:Hp),Same H H1->H1 p=some (.tup ((d++[c]).map V.int))->∀(b:Addr) (zs:List Int),H1 b=none->zs.Perm (d++[c])->zs.Pairwise (·<=·)->∀r,(Ag H1 b (.lst (zs.map V.int))) r=none->Q (.ref r) (Ag (Ag H1 b (.lst (zs.map V.int))) r (.tup (zs.map V.int))):=by
   intro p H1 s1 hp b zs hb j hs r m;refine q r zs _ (s1.trans ((qA2 hb _).trans (qA2 m _))) qA1 ⟨λ_=>⟨j,hs⟩,λz=>?_⟩;rw[hd] at z;exact absurd z.symm qAK
  refine⟨so,T,d.map V.int,[.int c],rfl,rfl,SqT.of (sT _ _ t),SqT.of qA1,by simp,U2 (qBK (by rw[A0,C2];lia)),λz=>?_,λz p hp=>?_⟩
  ·have e:d=[]:=List.map_eq_nil_iff.mp z;have g:(Ag H T (.tup [.int c])) T=some (.tup ((d++[c]).map V.int)):=by rw[qA1,e];rfl
   exact⟨T,d++[c],rfl,.inr (.inl (SqT.of g)),(by rw[A9,C2];lia),λb zs hb j hs=>⟨b,_,rfl,.inl ⟨SqL.of qA1,λr m=>a0 T _ sT g b zs hb j hs r m⟩⟩⟩
  ·have g:(Ag (Ag H T (.tup [.int c])) p (.tup (d.map V.int++[.int c]))) p=some (.tup ((d++[c]).map V.int)):=by rw[qA1,B3];rfl
   exact⟨p,d++[c],rfl,.inr (.inl (SqT.of g)),(by rw[A9,C2];lia),λb zs hb j hs=>⟨b,_,rfl,.inl ⟨SqL.of qA1,λr m=>a0 p _ (sT.trans (qA2 hp _)) g b zs hb j hs r m⟩⟩⟩
 ·have hd:Ac = "clear":=o.resolve_left λe=>(of_decide_eq_false (G4.mpr ck)) (congrArg V.str e);refine⟨_,rfl,so,rfl,⟨_,SqT.of t⟩,λp hp=>?_⟩;refine qG7 (p:=p) (a:=so) (xs:=d.map V.int) (λi σ Hc=>∃(v:Option V),σ=[v,some (.ref mv)]/\Same H Hc/\Hc p=some (.lst (((d.take i).filter λx=>decide (x≠c)).map V.int))) ?_ ?_ ?_ ?_
  ·exact⟨none,rfl,qA2 hp _,qA1⟩
  ·rintro i σ Hc hi ⟨v,rfl,sm,_⟩;exact SqT.of (sm _ _ t)
  ·refineλi x σ Hc hx a1=>opq λa6 u=>?_;obtain⟨v,rfl,sm,k⟩:=a1;obtain⟨y,ey,rfl⟩:=qBH hx;refine u ?_;have hi:=(A4.mp ey).1;have lk:=qBS (p:=λx=>decide (x≠c)) (l:=d) (i:=i);refine⟨_,rfl,_,rfl,mv,_,_,_,rfl,rfl,SqT.of (sm _ _ n),rfl,rfl,_,rfl,?_⟩;rw[qCI ey];by_cases e:y=c
   ·rw[decide_eq_true (show V.int y=V.int c by rw[e]),decide_eq_false (show¬y≠c fromλz=>z e)]
    refine⟨_,rfl,sm,?_⟩;simpa using k
   ·rw[decide_eq_false (show¬V.int y=V.int c fromλz=>e (V.int.inj z)),decide_eq_true (show y≠c from e)];refine⟨_,rfl,_,k,qAE (by rw[A0];lia),_,rfl,qAC sm hp,?_⟩
    rw[qA1,if_pos rfl,B3]
    rfl
  ·refineλσ Hc a3=>opq λa7 a2=>?_;obtain⟨v,rfl,sm,k⟩:=a3;refine a2 ?_;rw[A0,qBD rfl] at k;refine⟨p,_,rfl,.inl ⟨SqL.of k,λr m=>?_⟩⟩;refine q r _ _ (sm.trans (qA2 m _)) qA1 ⟨λz=>?_,λ_=>rfl⟩;rw[hd] at z;exact absurd z qAK
theorem sc_moves_of:FnScope ["net","rooms","stand","dos","clears"] ["net","rooms","stand"] (qAB qFU):=qBN
theorem ok_moves_of (F:Fun K "moves_of" "moves_of" qFU f fd) (ai:Clb P w K mg base 2 qHV qPI "fault_of" ["net","rooms","stand","move"] qSY)
  (qAP:mg "range" = none) (qB5:mg "len" = none):FnOk P w K mg base CX0 3 f fd ["net","rooms","stand"] qJ3:=by
 refine F.okA sc_moves_of λao A ae s H vs Q E hr h=>?_;obtain⟨a,so,b,st,Aa,rfl,hN,wf,ah,ag,lst,q⟩:=h;have as:Room 2 _:=hr;refine⟨_,(qA4 (qOT (i:=3) sc_moves_of.nd rfl rfl rfl (lcs (own:=["work"]) (fv:=[]) (by kernel_rfl)) (qAY rfl qAP (qA0 (qA9 qA8 rfl qB5 qB1 (qA0 (pv 0) qA3)) qA3)) (λz1=>qBO 0) (λz1=>qB6) (λz1=>(qCX (qA0 qCY (qA0 (pv 0) qA3)))) (by kernel_rfl)) (qA4 (qOT (i:=4) sc_moves_of.nd rfl rfl rfl (lcs (own:=["work"]) (fv:=[]) (by kernel_rfl)) (qAY rfl qAP (qA0 (qA9 qA8 rfl qB5 qB1 (qA0 (pv 0) qA3)) qA3)) (λz2=>qBO 0) (λz2=>qB6) (λz2=>(qCX (qA0 qCY (qA0 (pv 0) qA3)))) (by kernel_rfl)) (qA6 (qAH (qCR rfl (lcs (own:=["move"]) (fv:=[0,1,2]) (by kernel_rfl)) (qCS (qAN qQT (pv 3) (pv 4))) (λz3=>qBO 0) (λz3=>(qDF (qE4 (qXY (qAS ai hr rfl (qA0 (pv 1) (qA0 (pv 2) (qA0 (pv 3) (qA0 (pv 0) qA3))))))))) (λz3=>(pv 0))))))),?_⟩
 try dsimp only[Cx.nox,Cx.wish,cxOf]
 obtain⟨rs,hA,NL⟩:=id hN;have d:(((rs.map V.ref).length:Nat):Int)=(b.length:Int):=by rw[A0,C3 NL]
 refine⟨_,rfl,a,_,rfl,.inr (SqT.of hA),_,rfl,by rw[d];lia,by rw[d];lia,λp hp=>?_⟩
 refine qBV (p:=p) (lo:=0) (n:=((((rs.map V.ref).length:Nat):Int)).toNat) (λi σ Hc=>∃(v:Option V) (rd:List Addr),σ=[v]/\Same H Hc/\Hc p=some (.lst (rd.map V.ref))/\MovL Hc rd (qJJ "do" i)) ?_ ?_ ?_
 ·exact⟨none,[],rfl,qA2 hp _,qA1,.nil⟩
 ·refineλi σ Hc hi a3=>opq λal ab=>?_;obtain⟨v,rd,rfl,sm,t,ML⟩:=a3;refine ab ?_;rw[d] at hi;refine⟨_,rfl,(by show 2<=B18;decide),λmv e=>?_⟩
  have r:=qA2 e (.tup [.str "do",.int (0+(i:Int))])
  have ll:=C3 ML;rw[qFD] at ll;refine⟨_,r _ _ t,qAE (by rw[A0];lia),_,rd++[mv],rfl,qAC (sm.trans r) hp,?_,?_⟩
  ·rw[qA1,qBE]
  ·rw[qKS];exact((ML.same r).snoc qA1).put (r _ _ t)
 ·refineλσ Hc a2=>opq λaq a1=>?_;obtain⟨v,rd,rfl,sm,t,ML⟩:=a2;refine a1 ?_;rw[show((((rs.map V.ref).length:Nat):Int)).toNat=b.length by rw[d];lia] at ML
  refine⟨_,rfl,a,_,rfl,.inr (SqT.of (sm _ _ hA)),_,rfl,by rw[d];lia,by rw[d];lia,λp2 a6=>?_⟩
  refine qBV (p:=p2) (lo:=0) (n:=((((rs.map V.ref).length:Nat):Int)).toNat) (λi σ u=>∃(v:Option V) (re:List Addr),σ=[v]/\Same Hc u/\u p2=some (.lst (re.map V.ref))/\MovL u re (qJJ "clear" i)) ?_ ?_ ?_
  ·exact⟨none,[],rfl,qA2 a6 _,qA1,.nil⟩
  ·refineλi σ u hi ac=>opq λar a7=>?_;obtain⟨v,re,rfl,g,o,ME⟩:=ac;refine a7 ?_;rw[d] at hi;refine⟨_,rfl,(by show 2<=B18;decide),λmv e=>?_⟩
   have r:=qA2 e (.tup [.str "clear",.int (0+(i:Int))]);have ll:=C3 ME;rw[qFD] at ll;refine⟨_,r _ _ o,qAE (by rw[A0];lia),_,re++[mv],rfl,qAC (g.trans r) a6,?_,?_⟩
   ·rw[qA1,qBE]
   ·rw[qKS];exact((ME.same r).snoc qA1).put (r _ _ o)
  ·refineλσ u a9=>opq λan a8=>?_;obtain⟨v,re,rfl,g,o,ME⟩:=a9;refine a8 ?_;rw[show((((rs.map V.ref).length:Nat):Int)).toNat=b.length by rw[d];lia] at ME
   have l1:=C3 ML;have l2:=C3 ME;rw[qFD] at l1 l2;refine⟨_,rfl,_,rfl,p,p2,_,_,rfl,rfl,g _ _ t,o,?_,λl hl=>?_⟩
   ·rw[A0,A0,B28];lia
   have sl:=qA2 hl (.lst (rd.map V.ref++re.map V.ref));have MA:MovL (Ag u l (.lst (rd.map V.ref++re.map V.ref))) (rd++re) (qMC b.length):=((ML.same g).app ME).same sl;have gl:(Ag u l (.lst (rd.map V.ref++re.map V.ref))) l=some (.lst ((rd++re).map V.ref)):=by rw[qA1,B3]
   have j:=(sm.trans g).trans sl;generalize Ag u l (.lst (rd.map V.ref++re.map V.ref))=He at MA gl j ⊢;have lE:(rd++re).length=b.length+b.length:=by rw[A9,l1,l2]
   refine⟨l,rfl,⟨_,SqL.of gl⟩,λp3 a0=>?_⟩;refine qGC (p:=p3) (a:=l) (xs:=(rd++re).map V.ref) (λi σ z=>∃(v:Option V) (rk:List Addr),σ=[v,some (.ref a),some (.int Aa),some (.ref so)]/\Same He z/\z p3=some (.lst (rk.map V.ref))/\MovL z rk (((qMC b.length).take i).filter λm=>decide (wd b st Aa m=.non))) ?_ ?_ ?_ ?_
   ·exact⟨none,[],rfl,qA2 a0 _,qA1,.nil⟩
   ·rintro i σ z hi ⟨v,rk,rfl,sm3,_⟩;exact SqL.of (sm3 _ _ gl)
   ·refineλi x σ z hx a5=>opq λap a4=>?_;obtain⟨v,rk,rfl,sm3,k,MK⟩:=a5;obtain⟨mv,e,rfl⟩:=qCV hx;refine a4 ?_;have hi:i<b.length+b.length:=by rw[<- lE];exact(A4.mp e).1
    obtain⟨m,hm,em⟩:=qB2 MA e;obtain⟨hw,m0,m1⟩:=qR6 (B0 hm);have aj:m.2.toNat<b.length:=by lia
    have y:=A3 aj;have rz:=wf _ _ y;have lk:=C3 MK;have af:=J2 (λm=>decide (wd b st Aa m=.non)) ((qMC b.length).take i);rw[C4,qNT] at af;have ak:wd b st Aa m=qGL b[m.2.toNat] st Aa m.1 m.2:=by unfold wd;rw[y];rfl
    refine⟨_,rfl,_,rfl,_,rfl,_,rfl,a,so,mv,b,st,b[m.2.toNat],Aa,m.2,m.1,rfl,hN.same (j.trans sm3),(j.trans sm3) _ _ ag,lst,sm3 _ _ em,hw,m0,y,?_,λHg c=>⟨_,rfl,?_⟩⟩
    ·have:=rz.len;lia
    rw[<- ak,qCI hm];by_cases hd:wd b st Aa m=.non
    ·rw[hd];refine⟨_,rfl,_,c _ _ k,(by rw[A0,B28];lia),_,rk++[mv],rfl,qAC (sm3.trans c) a0,?_,?_⟩
     ·rw[qA1,qBE]
     ·exact((MK.same c).snoc (c _ _ (sm3 _ _ em))).put (c _ _ k)
    ·rw[decide_eq_false hd];refine⟨_,rk,rfl,sm3.trans c,c _ _ k,?_⟩;simpa using MK.same c
   ·refineλσ z aa=>opq λam ad=>?_;obtain⟨v,rk,rfl,sm3,k,MK⟩:=aa;refine ad ?_;rw[C7 (by rw[A0,lE,qNT];exact A7 _)] at MK
    exact q p3 rk z (j.trans sm3) (j.free a0) k MK
theorem qRQ:FnScope ["results","works"] ["results","works"] (qAB qGQ):=qBN
theorem ok_has_all (F:Fun K "has_all" "has_all" qGQ f fd) (a2:mg "all" = none):FnOk P w K mg base CX0 1 f fd ["results","works"] qSX:=by
 refine F.okA qRQ λa6 A a0 s H vs Q E hr h=>?_;obtain⟨b,a,t,m,y,rfl,a1,hT,l1,q⟩:=h;refine⟨_,(qA6 (qAH (qA9 (qRC rfl) rfl a2 qYF (qA0 (qCR rfl (lcs (own:=["work"]) (fv:=[0]) (by kernel_rfl)) (qXW (pv 1)) (λz1=>qBO 0) (λz1=>qB6) (λz1=>(qCT (qTS (K:=K) rfl) (pv 0) (pv 1) (by with_unfolding_all rfl)))) qA3)))),?_⟩
 try dsimp only[Cx.nox,Cx.wish,cxOf]
 refine⟨_,rfl,b,t,rfl,⟨_,sqo hT⟩,λp hp=>?_⟩;refine qY2 (b:=b) (p:=p) (a:=t) (xs:=y.map V.int) (λi σ g=>∃(v:Option V),σ=[v,some (.ref a)]/\Same H g/\g p=some (.lst (((y.take i).map λx=>decide (x∈m)).map V.bl))) ?_ ?_ ?_ ?_
 ·exact⟨none,rfl,qA2 hp _,qA1⟩
 ·refineλi σ g hi u=>opq λa3 n=>?_;obtain⟨v,rfl,d,_⟩:=u;refine n ?_;exact sqo (hT.same d)
 ·refineλi x σ g hx k=>opq λa4 j=>?_;obtain⟨v,rfl,d,c⟩:=k;obtain⟨z,ez,rfl⟩:=qBH hx;refine j ?_;have hi:=(A4.mp ez).1;refine⟨_,rfl,_,rfl,a,_,rfl,.inr (SqT.of (d _ _ a1)),rfl,qFJ m,_,c,qAE (by rw[A0,A0,C4];lia),_,rfl,qAC d hp,?_⟩
  rw[qA1];refine congrArg (λl=>some (HO.lst l)) ?_;rw[C5,ez,C6,B3,B3];show _++[V.bl (inV (.int z) (m.map V.int))]=_;rw[qJQ]
  rfl
 ·refineλσ g r=>opq λa5 o=>?_;obtain⟨v,rfl,d,c⟩:=r;refine o ?_;rw[A0,C7 (A7 _)] at c;refine⟨p,_,rfl,SqL.of c,?_⟩;have e:((y.map λx=>decide (x∈m)).all id)=decide (∀x∈y,x∈m):=by
   rw[J4,decide_eq_true_eq];exact qcA
  rw[e];exact q g d
structure Fnd2 (Ae:List (List Int))(Ad ks:List Int)(j:Int):Prop where
 in_:∀x∈ks,(0<=x/\x<(Ae.length:Int))/\Nd Ae Ad x
 ask:∀x∈Ad,j<=x->x∈ks
 clo:∀(w:Nat) zs,j<=(w:Int)->(w:Int)∈ks->Ae[w]?=some zs->∀y∈zs,y∈ks
theorem repF:∀n:Nat,(E9 n [V.bl false]).flatten=(E9 n false).map V.bl
 |0=>rfl
 |n+1=>by rw[P4,P4,W3,repF n];rfl
structure Bls (n:Nat)(ks:List Int)(bs:List Bool):Prop where
 len:bs.length=n
 at_:∀x:Nat,x<n->bs[x]?=some (decide ((x:Int)∈ks))
theorem Bls.set {n:Nat}{ks:List Int}{a:List Bool}(h:Bls n ks a){x:Int}(d:0<=x)(f:x<n):Bls n (addI ks x) (a.set x.toNat true):=by
 refine⟨by rw[A09];exact h.len,λy b=>?_⟩
 by_cases e:(y:Int)=x
 ·have c:x.toNat=y:=by lia
  rw[c,V3 (by rw[h.len];exact b),decide_eq_true (mem_addI.mpr (.inr e))]
 ·rw[j6 (by lia),h.at_ y b]
  congr 1;exact decide_eq_decide.mpr ⟨λz=>mem_addI.mpr (.inl z),λz=>(mem_addI.mp z).resolve_right e⟩
theorem qY8 {a:List Bool}{i:Nat}{b:Bool}(h:a[i]?=some b):(a.map V.bl)[i]?=some (.bl b):=by rw[B6,h];rfl
theorem sc_Lneeded:FnScope ["_law_net_here","_law_asked_here","_law_found","_law_work","_law_need"] ["_law_net_here","_law_asked_here"] (qAB qGR):=qBN
theorem ok_Lneeded (F:Fun K "_law_needed" "_law_needed" qGR f fd) (qB5:mg "len" = none) (qAP:mg "range" = none):FnOk P w K mg base CX0 1 f fd ["_law_net_here","_law_asked_here"] qQ3:=by
 refine F.okA sc_Lneeded λaq A ak s H vs Q E hr h=>?_;obtain⟨a,t,b,Ad,rfl,hN,wf,al,⟨hT,rA⟩,q⟩:=h;refine⟨_,(qA4 (qAF (i:=2) sc_Lneeded.nd rfl (d7 rfl) (qAN qTQ (qBP (qA0 qF3 qA3)) (qA9 qA8 rfl qB5 qB1 (qA0 (pv 0) qA3)))) (qA4 (qBX D9 rfl (qTH rfl qAP (qA0 (qAN qDH (qA9 qA8 rfl qB5 qB1 (qA0 (pv 0) qA3)) qA7) (qA0 (qWC qPZ qA7) (qA0 (qWC qPZ qA7) qA3)))) (qAZ (i:=3) sc_Lneeded.nd rfl (E6 rfl)) (qA4 (qZ7 (qC0 (qAQ qJG (pv 3) (pv 1) (by with_unfolding_all rfl)) (qA6 (qTA qF3 (qTJ (pv 2) (pv 3) qLK))) qAR)) (qA6 (qC0 (qF1 (qBQ qCU (pv 2) (pv 3) (λ_ _=>rfl))) (qA6 (qBX D9 rfl (qE5 (qBQ qCD (pv 0) (pv 3) (λ_ _=>rfl))) (qAZ (i:=4) sc_Lneeded.nd rfl (E6 rfl)) (qA6 (qTA qF3 (qTJ (pv 2) (pv 4) qLK))))) qAR)))) (qA6 (qAH (qCR rfl (lcs (own:=["_law_work"]) (fv:=[2]) (by kernel_rfl)) (qAY rfl qAP (qA0 (qA9 qA8 rfl qB5 qB1 (qA0 (pv 0) qA3)) qA3)) (λz1=>qBO 0) (λz1=>(qDF (qF1 (qBQ (qWW (K:=K) rfl) (pv 1) (pv 0) (λ_ _=>rfl))))) (λz1=>(pv 0))))))),?_⟩
 try dsimp only[Cx.nox,Cx.wish,cxOf]
 obtain⟨rs,hA,NL⟩:=id hN;have g:(((rs.map V.ref).length:Nat):Int)=(b.length:Int):=by rw[A0,C3 NL]
 refine⟨(by show 1<=B18;decide),λp0 am=>?_⟩
 have s0:=qA2 am (.lst [.bl false]);refine⟨_,rfl,a,_,rfl,.inr (SqT.of (s0 _ _ hA)),p0,_,_,rfl,rfl,qA1,by rw[g];lia,by rw[g];lia,?_,λm ah=>?_⟩
 ·rw[g,B28];simp;lia
 have a9:H m=none:=s0.free ah;have s1:=s0.trans (qA2 ah (.lst (E9 ((((rs.map V.ref).length:Nat):Int)).toNat [V.bl false]).flatten));have ai:(Ag (Ag H p0 (.lst [.bl false])) m (.lst (E9 ((((rs.map V.ref).length:Nat):Int)).toNat [V.bl false]).flatten)) m=some (.lst ((E9 b.length false).map V.bl)):=by
  rw[qA1,repF,g,B8]
 generalize Ag (Ag H p0 (.lst [.bl false])) m (.lst (E9 ((((rs.map V.ref).length:Nat):Int)).toNat [V.bl false]).flatten)=H1 at s1 ai;refine⟨_,rfl,a,_,rfl,.inr (SqT.of (s1 _ _ hA)),_,_,rfl,rfl,_,rfl,_,rfl,_,_,rfl,⟨by rw[g];lia,by rw[g];lia,by decide,by decide⟩,qR5 (lo:=(((rs.map V.ref).length:Nat):Int)-1) (n:=((((rs.map V.ref).length:Nat):Int)-1 - -1).toNat) (λi σ Hc=>∃(bs:List Bool) (ks:List Int) (v3 v4:Option V),σ=[some (.ref a),some (.ref t),some (.ref m),v3,v4]/\Same H Hc/\Hc m=some (.lst (bs.map V.bl))/\Bls b.length ks bs/\Fnd2 b Ad ks ((b.length:Int)-i))
  ⟨_,[],none,none,rfl,s1,ai,⟨by simp,λx hx=>by simp[hx]⟩,⟨λx hx=>(nomatch hx),λx hx hl=>?_,λw zs h1 h2=>(nomatch h2)⟩⟩ ?_ ?_⟩
 ·have:=(rA.in_ x hx).2
  lia
 ·refineλi σ Hc hi a5=>opq λan ae=>?_;obtain⟨bs,ks,v3,v4,rfl,o,hf,B,u⟩:=a5;refine ae ?_;rw[g] at hi ⊢;obtain⟨d,ew⟩:∃d:Nat,(b.length:Int)-1-i=(d:Int):=⟨b.length-1-i,by lia⟩
  have hw:d<b.length:=by lia
  rw[ew];obtain⟨r,h3,h4⟩:=NL.get (A3 hw);have hz:=A3 hw;have rz:=wf d _ hz;generalize b[d]=zs at h4 hz rz;have ix:∀{bs:List Bool} {ks:List Int} {x:Int},Bls b.length ks bs->0<=x->x<(b.length:Int)->ixN (bs.map V.bl).length x=some x.toNat:=λ{bs ks x} B h0 h1=>by
   have:=qUH (xs:=bs.map V.bl) (j:=x.toNat) (by rw[A0,B.len];lia)
   rw[show((x.toNat:Nat):Int)=x by lia] at this
   exact this
  -- Ad
  refine⟨λσ Hc=>∃(bs:List Bool) (ks:List Int),σ=[some (.ref a),some (.ref t),some (.ref m),some (.int (d:Int)),v4]/\Same H Hc/\Hc m=some (.lst (bs.map V.bl))/\Bls b.length ks bs/\(∀x∈ks,(0<=x/\x<(b.length:Int))/\Nd b Ad x)/\(∀x∈Ad,(d:Int)<=x->x∈ks)/\(∀(w:Nat) zs,(d:Int)+1<=(w:Int)->(w:Int)∈ks->b[w]?=some zs->∀y∈zs,y∈ks),?_,?_⟩
  ·refine⟨_,rfl,_,rfl,t,_,rfl,.inr (SqT.of (o _ _ hT)),rfl,qFJ Ad,_,rfl,?_⟩;rw[qJQ];by_cases c:(d:Int)∈Ad
   ·rw[decide_eq_true c];refine⟨_,rfl,_,rfl,m,_,_,d,rfl,rfl,hf,?_,?_⟩
    ·have:=ix B (x:=(d:Int)) (by lia) (by lia)
     rw[B8] at this;exact this
    ·have st:=B.set (x:=(d:Int)) (by lia) (by lia)
     rw[B8] at st;refine⟨_,addI ks (d:Int),rfl,qAC o a9,by rw[qA1,A66],st,λx hx=>?_,λx hx hl=>?_,λw1 ys h1 h2 h9 y hy=>?_⟩
     ·rcases mem_addI.mp hx with hx|hx
      ·exact u.in_ x hx
      ·rw[hx];exact⟨⟨by lia,by lia⟩,.ask c⟩
     ·by_cases e:x=(d:Int)
      ·exact mem_addI.mpr (.inr e)
      ·exact mem_addI.mpr (.inl (u.ask x hx (by lia)))
     ·rcases mem_addI.mp h2 with h2|h2
      ·exact mem_addI.mpr (.inl (u.clo w1 ys (by lia) h2 h9 y hy))
      ·lia
   ·rw[decide_eq_false c];refine⟨bs,ks,rfl,o,hf,B,u.in_,λx hx hl=>?_,λw1 ys h1 h2 h9=>u.clo w1 ys (by lia) h2 h9⟩
    by_cases e:x=(d:Int)
    ·rw[e] at hx;exact absurd hx c
    ·exact u.ask x hx (by lia)
  refineλσ Hc a3=>opq λas a2=>?_;obtain⟨bs,ks,rfl,o,hf,B,f1,f2,f3⟩:=a3;refine a2 ?_;refine⟨_,rfl,_,rfl,m,_,_,_,rfl,rfl,SqL.of hf,qFF (by lia) (by rw[B8];exact qY8 (B.at_ d hw)),_,rfl,?_⟩
  by_cases c:(d:Int)∈ks
  ·rw[decide_eq_true c];refine⟨_,rfl,_,rfl,a,_,_,_,rfl,rfl,SqT.of (o _ _ hA),qFF (by lia) (by rw[B8,B6,h3];rfl),r,rfl,⟨_,SqT.of (o _ _ h4)⟩,qHS (a:=r) (xs:=zs.map V.int) (λk σ Hd=>∃(bs:List Bool) (ks:List Int) (v4:Option V),σ=[some (.ref a),some (.ref t),some (.ref m),some (.int (d:Int)),v4]/\Same H Hd/\Hd m=some (.lst (bs.map V.bl))/\Bls b.length ks bs/\(∀x∈ks,(0<=x/\x<(b.length:Int))/\Nd b Ad x)/\(∀x∈Ad,(d:Int)<=x->x∈ks)/\(∀(w:Nat) zs,(d:Int)+1<=(w:Int)->(w:Int)∈ks->b[w]?=some zs->∀y∈zs,y∈ks)/\(d:Int)∈ks/\∀y∈zs.take k,y∈ks)
    ⟨bs,ks,v4,rfl,o,hf,B,f1,f2,f3,c,λy hy=>by simp at hy⟩ (λk σ Hd _ hP=>by obtain⟨_,_,_,_,sd,_⟩:=hP;exact SqT.of (sd _ _ h4)) ?_ ?_⟩
   ·refineλk x σ Hd hx af=>opq λav aa=>?_;obtain⟨bs,ks,v4,rfl,sd,a1,B,f1,f2,f3,c,ty⟩:=af;obtain⟨y,ey,rfl⟩:=qBH hx;refine aa ?_;have my:=B0 ey;have yb:=rz.in_ y my;refine⟨_,rfl,_,rfl,m,_,_,y.toNat,rfl,rfl,a1,ix B yb.1 (by lia),?_⟩
    refine⟨_,addI ks y,_,rfl,qAC sd a9,by rw[qA1,A66],B.set yb.1 (by lia),λx hx=>?_,λx hx hl=>mem_addI.mpr (.inl (f2 x hx hl)),λw1 ys h1 h2 h9 z hz'=>?_,mem_addI.mpr (.inl c),λz hz'=>?_⟩
    ·rcases mem_addI.mp hx with hx|hx
     ·exact f1 x hx
     ·rw[hx];exact⟨⟨yb.1,by lia⟩,.need (f1 _ c).2 (by rw[B8];exact hz) my⟩
    ·rcases mem_addI.mp h2 with h2|h2
     ·exact mem_addI.mpr (.inl (f3 w1 ys h1 h2 h9 z hz'))
     ·lia
    ·rw[C5,ey,C6,A8,A6] at hz';rcases hz' with hz'|hz'
     ·exact mem_addI.mpr (.inl (ty z hz'))
     ·exact mem_addI.mpr (.inr hz')
   ·refineλσ Hd ac=>opq λap ab=>?_;obtain⟨bs,ks,v4,rfl,sd,a1,B,f1,f2,f3,c,ty⟩:=ac;refine ab ?_;rw[A0,qBD rfl] at ty;refine⟨bs,ks,_,_,rfl,sd,a1,B,f1,λx hx hl=>f2 x hx (by lia),λw1 ys h1 h2 h9=>?_⟩
    by_cases e:w1=d
    ·subst e;rw[hz] at h9;cases h9;exact ty
    ·exact f3 w1 ys (by lia) h2 h9
  ·rw[decide_eq_false c];refine⟨bs,ks,_,_,rfl,o,hf,B,f1,λx hx hl=>f2 x hx (by lia),λw1 ys h1 h2 h9=>?_⟩
   by_cases e:w1=d
   ·subst e;exact absurd h2 c
   ·exact f3 w1 ys (by lia) h2 h9
 ·refineλσ Hc a4=>opq λau aj=>?_;obtain⟨bs,ks,v3,v4,rfl,o,hf,B,u⟩:=a4;refine aj ?_;rw[g,show((b.length:Int)-(((b.length:Int)-1 - -1).toNat:Nat))=0 by lia] at u
  have all:=Fnd.all wf (⟨u.in_,λx hx=>u.ask x hx (rA.in_ x hx).1,u.clo⟩:Fnd b Ad ks 0);have a7:((((rs.map V.ref).length:Nat):Int)).toNat=b.length:=by rw[g];lia
  refine⟨_,rfl,a,_,rfl,.inr (SqT.of (o _ _ hA)),_,rfl,by rw[g];lia,by rw[g];lia,λp hp=>?_⟩
  refine qBV (p:=p) (lo:=0) (n:=((((rs.map V.ref).length:Nat):Int)).toNat) (λi σ Hd=>∃(v:Option V),σ=[v,some (.ref m)]/\Same Hc Hd/\Hd p=some (.lst ((((qAV 0 b.length).take i).filter λx=>decide (x∈ks)).map V.int))) ?_ ?_ ?_
  ·exact⟨none,rfl,qA2 hp _,qA1⟩
  ·refineλi σ Hd hi a8=>opq λar a6=>?_;obtain⟨v,rfl,sd,a0⟩:=a8;refine a6 ?_;rw[a7] at hi;have lk:=qBS (p:=λx=>decide (x∈ks)) (l:=qAV 0 b.length) (i:=i);refine⟨_,rfl,_,rfl,m,_,_,_,rfl,rfl,SqL.of (sd _ _ hf),qFF (by lia) (by rw[show(0+(i:Int)).toNat=i by lia];exact qY8 (B.at_ i hi)),_,rfl,?_⟩
   rw[qCI (qBL (by lia)),Y5]
   by_cases c:(i:Int)∈ks
   ·rw[decide_eq_true c];refine⟨_,rfl,_,a0,qAE (by rw[A0];lia),_,rfl,qAC sd hp,?_⟩
    rw[qA1,if_pos rfl,B3]
    rfl
   ·rw[decide_eq_false c];refine⟨_,rfl,sd,?_⟩;simpa using a0
  ·refineλσ Hd ad=>opq λao ag=>?_;obtain⟨v,rfl,sd,a0⟩:=ad;refine ag ?_;rw[qBD (by rw[qC6,a7];lia)] at a0
   refine q p _ Hd (o.trans sd) (o.free hp) a0 ⟨⟨(qDE _ _).filter _,λx hx=>mem_rangeI.mp (C9.mp hx).1⟩,λx=>?_⟩;rw[C9,mem_rangeI,decide_eq_true_eq,<- all x];exact⟨λz=>z.2,λz=>⟨(u.in_ x z).1,z⟩⟩
theorem qZ8 {j:Int}(a:0<=j)(b:j<=1000):CPow 1 j:=⟨a,by lia,by decide⟩
theorem qT5 {n:Nat}(h:n<=12):2^n<=4096:=by
 have:=J7 (show 0<2 by decide) h
 simpa using this
theorem sc_Lcome:FnScope ["_law_net_here","_law_rooms","_law_needs","_law_found","_law_layer","_law_many","_law_cleared","_law_at","_law_work","_law_less","_law_bits_here","_law_more"] ["_law_net_here","_law_rooms"] (qAB qLO):=qBN
theorem ok_Lcome (F:Fun K "_law_come" "_law_come" qLO f fd) (qOH:mg "sum" = none) (c1:mg "list" = none) (qB5:mg "len" = none) (qAP:mg "range" = none):FnOk P w K mg base CX0 1 f fd ["_law_net_here","_law_rooms"] qXQ:=by
 refine F.okA sc_Lcome λcs A bt s H vs Q E hr h=>?_;obtain⟨a,Ae,Aa,rfl,hN,wf,bz,q⟩:=h;have hu:=qIG hr;have c5:=hr.units0;refine⟨_,(qA4 (qOT (i:=2) sc_Lcome.nd rfl rfl rfl (lcs (own:=["_law_one"]) (fv:=[]) (by kernel_rfl)) (qE5 (pv 0)) (λz1=>qBO 0) (λz1=>qB6) (λz1=>(qA9 (qO0 (K:=K) rfl rfl) rfl qOH qRD (qA0 (qCR (X:=lcCx _ _ _ _ z1) rfl (lcs (own:=["_law_need"]) (fv:=[]) (by kernel_rfl)) (qOY (K:=K) rfl (pv 0)) (λz2=>qBO 0) (λz2=>qB6) (λz2=>(qAN qNB qA7 (pv 0)))) qA3))) (by kernel_rfl)) (qA4 (qAF (i:=3) sc_Lcome.nd rfl (E6 rfl) (qTN (qLR qA7 qA7 qTC) rfl rfl (by simp) (by decide))) (qA4 (qAF (i:=4) sc_Lcome.nd rfl (E6 rfl) (qBP (qA0 qA7 qA3))) (qA4 (qAF (i:=5) sc_Lcome.nd rfl (E6 rfl) qA7) (qA4 (qGT D9 (qAQ (qTR c5) (pv 4) (qBP qA3) (qAW _)) (qA4 (qAF (i:=6) sc_Lcome.nd rfl (E6 rfl) (qAD qI6 rfl c1 qPS (qA0 (pv 4) qA3))) (qA4 (qAF (i:=7) sc_Lcome.nd rfl (E6 rfl) qA7) (qA4 (qGT D9 (qAQ qNC (pv 7) (qA9 qA8 rfl qB5 qB1 (qA0 (pv 6) qA3)) (qAW _)) (qA4 (qBX D9 rfl (qAY rfl qAP (qA0 (qA9 qA8 rfl qB5 qB1 (qA0 (pv 0) qA3)) qA3)) (qAZ (i:=8) sc_Lcome.nd rfl (E6 rfl)) (qA4 (qAF (i:=9) sc_Lcome.nd rfl (E6 rfl) (qAN qDH (qBQ qCU (pv 6) (pv 7) (λ_ _=>rfl)) (qAN qJE (qAN qNB qA7 (pv 8)) (qAN qKP (qAN qQS (qBQ qCU (pv 6) (pv 7) (λ_ _=>rfl)) (pv 8)) qA7)))) (qA6 (qC0 (qE4 (qF9 hu (pv 9) (pv 3))) (qA4 (qEL hu (pv 3) (pv 9) (pv 5) rfl) (qA6 (qEK (qN9 G5 J8 J9 qCC (pv 6) (qA0 (pv 9) qA3))))) qAR)))) (qA6 (qAF (i:=7) sc_Lcome.nd rfl (E6 rfl) (qAN qDS (pv 7) qA7))))) (qA4 (qAF (i:=5) sc_Lcome.nd rfl (E6 rfl) (qAN qDS (pv 5) qA7)) (qA4 (qAF (i:=4) sc_Lcome.nd rfl (E6 rfl) (qBP qA3)) (qA6 (qBX D9 rfl (qCS (pv 6)) (qAZ (i:=10) sc_Lcome.nd rfl (d7 rfl)) (qA6 (qC0 (qAQ qNC (qA9 (qMM rfl) rfl qOH qRD (qA0 (qCR rfl (lcs (own:=["_law_work"]) (fv:=[10]) (by kernel_rfl)) (qAY rfl qAP (qA0 (qA9 qA8 rfl qB5 qB1 (qA0 (pv 0) qA3)) qA3)) (λz3=>qBO 0) (λz3=>qB6) (λz3=>(qAN qKP (qAN qQS (pv 1) (pv 0)) qA7))) qA3)) (pv 1) (qAW _)) (qA6 (qBX D9 rfl (qAY rfl qAP (qA0 (qA9 qA8 rfl qB5 qB1 (qA0 (pv 0) qA3)) qA3)) (qAZ (i:=8) sc_Lcome.nd rfl (E6 rfl)) (qA4 (qAF (i:=11) sc_Lcome.nd rfl (E6 rfl) (qAN qd6 (pv 10) (qAN qNB qA7 (pv 8)))) (qA6 (qC0 (PW.pt (qbB (qAQ qFC (qAN qKP (pv 10) (qBQ qCU (pv 2) (pv 8) (λ_ _=>rfl))) (qBQ qCU (pv 2) (pv 8) (λ_ _=>rfl)) (qAW _)) (qZ5 (qE4 (qF9 hu (pv 11) (pv 3)))))) (qA4 (qEL hu (pv 3) (pv 11) (pv 5) rfl) (qA6 (qEK (qN9 G5 J8 J9 qCC (pv 4) (qA0 (pv 11) qA3))))) qAR))))) qAR)))))))))) (qA6 (qAH (qbI (pv 3))))))))),?_⟩
 try dsimp only[Cx.nox,Cx.wish,cxOf]
 obtain⟨rs,hA,NL⟩:=id hN;have l2:=qT5 bz;have b8:rs.length=Ae.length:=C3 NL;have a2:(((rs.map V.ref).length:Nat):Int)=(Ae.length:Int):=by rw[A0,b8]
 have a6:((((rs.map V.ref).length:Nat):Int)).toNat=Ae.length:=by rw[a2];lia
 refine cut λN1 bl=>?_;refine⟨_,rfl,a,rfl,⟨_,SqT.of hA⟩,λp hp=>?_⟩;refine qG7 (p:=p) (a:=a) (xs:=rs.map V.ref) (λj σ Hd=>∃(v:Option V),σ=[v]/\Same H Hd/\Hd p=some (.lst ((natI ((Ae.take j).map mskN)).map V.int))) ?_ ?_ ?_ ?_
 ·exact⟨none,rfl,qA2 hp _,qA1⟩
 ·rintro j σ Hd hj ⟨v,rfl,sm,_⟩;exact SqT.of (sm _ _ hA)
 ·refineλj x σ Hd hx b0=>opq λcu az=>?_;obtain⟨v,rfl,sm,a1⟩:=b0;obtain⟨r,er,rfl⟩:=qCV hx;refine az ?_;have hj:j<Ae.length:=by have:=(A4.mp er).1;lia
  have hz:=A3 hj;obtain⟨r',h3,h4⟩:=NL.get hz;rw[er] at h3;cases h3;have rz:=wf j _ hz;generalize Ae[j]=zs at h4 hz rz;have lz:=rz.len;refine⟨_,rfl,r,rfl,⟨_,SqT.of (sm _ _ h4)⟩,λp2 a7=>?_⟩;refine qG7 (p:=p2) (a:=r) (xs:=zs.map V.int) (λi σ He=>∃(v:Option V),σ=[v]/\Same Hd He/\He p2=some (.lst (((zs.take i).map λz=>(1:Int)*2^z.toNat).map V.int))) ?_ ?_ ?_ ?_
  ·exact⟨none,rfl,qA2 a7 _,qA1⟩
  ·rintro i σ He hi ⟨v,rfl,se,_⟩;exact SqT.of (se _ _ (sm _ _ h4))
  ·refineλi x σ He hx bf=>opq λcq bc=>?_;obtain⟨v,rfl,se,a9⟩:=bf;obtain⟨z,ez,rfl⟩:=qBH hx;refine bc ?_;have hi:=(A4.mp ez).1;have zb:=rz.in_ z (B0 ez);refine⟨_,rfl,_,_,rfl,rfl,qZ8 zb.1 (by lia),_,a9,qAE (by rw[A0,A0,C4];lia),_,rfl,qAC se a7,?_⟩
   rw[qA1,C5,ez,C6,B3,B3]
   rfl
  ·refineλσ He b2=>opq λcw br=>?_;obtain⟨v,rfl,se,a9⟩:=b2;refine br ?_;rw[A0,qBD rfl] at a9;refine⟨p2,_,rfl,SqL.of a9,_,se _ _ a1,qAE (by rw[A0,qEM,A0,C4];lia),_,rfl,qAC (sm.trans se) hp,?_⟩
   rw[qA1,C5,hz,C6,B3,o6,qJI,B3,qP4]
   rfl
 refineλσ Hd b6=>opq λct b3=>?_;obtain⟨v,rfl,ak,gp⟩:=b6;refine b3 ?_;rw[A0,b8,qBD rfl] at gp;have fp:H p=none:=hp;clear hp v;refine bl _ _ (cut λN2 b4=>?_);intro d hd;refine⟨qA1,[(E3 0,.int 0)],rfl,(by show 1<=15;decide),?_⟩
 rw[qIY];have aa:H d=none:=ak.free hd;have sd:=qA2 hd (.dK (qG6 [] [((E3 0:Key),V.int 0)]));have gd:(Ag Hd d (.dK (qG6 [] [((E3 0:Key),V.int 0)]))) d=some (.dK (kvN [0] λ_=>0)):=qA1;have bi:p≠d:=qA5 gp hd;have y:=sd _ _ gp;have t:=ak.trans sd;generalize Ag Hd d (.dK (qG6 [] [((E3 0:Key),V.int 0)]))=H1 at sd gd y t ⊢;refine b4 _ _ (cut λN3 b7=>?_);refine⟨(by show 1<=B18;decide),λl0 bs=>?_⟩
 have sl:=qA2 bs (.lst [.int 0]);have bd:(Ag H1 l0 (.lst [.int 0])) l0=some (.lst ((natI [0]).map V.int)):=qA1;have u:=sl _ _ gd;have a5:=sl _ _ y;have a3:=t.trans sl;generalize Ag H1 l0 (.lst [.int 0])=H2 at sl bd u a5 a3 ⊢;refine b7 _ _ (cut λN4 bg=>?_);refine bg _ _ (cut λN5 bx=>?_);clear bl b4 b7 bg gd gp y sd sl ak t bs hd;refine⟨λm σ l=>∃(ks ly:List Nat) (f:Nat->Nat) (many:Nat) (ll:Addr) (v6 v7 v8 v9 v10 v11:Option V),σ=[some (.ref a),some (.int Aa),some (.ref p),some (.ref d),some (.ref ll),some (.int (many:Int)),v6,v7,v8,v9,v10,v11]/\m=2^Ae.length+1-many/\Same H l/\l p=some (.lst ((natI (Ae.map mskN)).map V.int))/\l d=some (.dK (kvN ks f))/\l ll=some (.lst ((natI ly).map V.int))/\A1 Ae Aa many ks f ly 0 0/\(ly≠[]->many<ks.length),
  ⟨_,[0],[0],λ_=>0,0,l0,none,none,none,none,none,none,rfl,rfl,a3,a5,u,bd,A1.start,λ_=>by decide⟩,?_⟩
 refineλm σ l bh=>opq λco bm=>?_;obtain⟨ks,ly,f,many,ll,v6,v7,v8,v9,v10,v11,rfl,rfl,sm,gp,gd,gl,I1,lm⟩:=bh;refine bm ?_;refine⟨_,rfl,(by show 0<=B18;decide),λe he=>?_⟩
 have se:=qA2 he (.lst []);refine⟨ll,e,_,rfl,rfl,SqL.of (se _ _ gl),SqL.of qA1,_,rfl,?_⟩;have y:=se _ _ gp;have u:=se _ _ gd;have ay:=se _ _ gl;have t:=sm.trans se;generalize Ag l e (.lst [])=H3 at y u ay t ⊢;clear se he gp gd gl sm;refine ite2 (λcn=>?_) (λcn=>?_)
 ·have c9:ly≠[]:=λz=>by rw[z] at cn;cases cn
  have lk:=lm c9;have kl:=I1.fd.len;refine qTZ λW0 c4=>?_;refine cut λM1 bb=>?_;refine⟨_,rfl,ll,_,rfl,.inl (SqL.of ay),λc hc=>?_⟩;have fc:H c=none:=t.free hc;have sc:=qA2 hc (.lst ((natI ly).map V.int));have cc:p≠c:=qA5 y hc;have ae:d≠c:=qA5 u hc;have gc:(Ag H3 c (.lst ((natI ly).map V.int))) c=some (.lst ((natI ly).map V.int)):=qA1;have a5:=sc _ _ y;have ag:=sc _ _ u;have a3:=t.trans sc;generalize Ag H3 c (.lst ((natI ly).map V.int))=H4 at gc a5 ag a3 ⊢;clear sc hc y u ay t;refine bb _ _ (cut λM2 bn=>?_);refine bn _ _ (cut λM3 bu=>?_);clear bb bn;refine⟨λm σ l=>∃(ks cl:List Nat) (f:Nat->Nat) (at_:Nat) (v8 v9:Option V),σ=[some (.ref a),some (.int Aa),some (.ref p),some (.ref d),some (.ref ll),some (.int (many:Int)),some (.ref c),some (.int (at_:Int)),v8,v9,v10,v11]/\m=2^Ae.length-at_/\Same H l/\l p=some (.lst ((natI (Ae.map mskN)).map V.int))/\l d=some (.dK (kvN ks f))/\l c=some (.lst ((natI cl).map V.int))/\A1 Ae Aa many ks f cl at_ 0/\many<ks.length,
   ⟨_,ks,ly,f,0,v8,v9,rfl,rfl,a3,a5,ag,gc,I1,lk⟩,?_⟩
  clear a5 ag gc a3 I1 lk kl lm;refineλm σ l b1=>opq λcp b9=>?_;obtain⟨ks,cl,f,at_,v8,v9,rfl,rfl,sm,gp,gd,gc,I1,lk⟩:=b1;refine b9 ?_;have au:=I1.len;have kl:=I1.fd.len;refine⟨_,rfl,_,rfl,c,_,rfl,.inl (SqL.of gc),_,_,rfl,rfl,_,rfl,?_⟩;have bq:(((((natI cl).map V.int).length:Nat):Int))=(cl.length:Int):=by rw[A0,qEM]
  dsimp only;rw[bq];refine ite2 (λca=>?_) (λca=>?_)
  ·have ba:(at_:Int)<(cl.length:Int):=of_decide_eq_true ca;refine qTZ λW1 bv=>?_;refine cut λL1 ac=>?_;refine⟨_,rfl,a,_,rfl,.inr (SqT.of (sm _ _ hA)),_,rfl,by rw[a2];lia,by rw[a2];lia,qL1 (lo:=0) (n:=((((rs.map V.ref).length:Nat):Int)).toNat) (λk σ l=>∃(ks cl:List Nat) (f:Nat->Nat) (v8 v9:Option V),σ=[some (.ref a),some (.int Aa),some (.ref p),some (.ref d),some (.ref ll),some (.int (many:Int)),some (.ref c),some (.int (at_:Int)),v8,v9,v10,v11]/\Same H l/\l p=some (.lst ((natI (Ae.map mskN)).map V.int))/\l d=some (.dK (kvN ks f))/\l c=some (.lst ((natI cl).map V.int))/\A1 Ae Aa many ks f cl at_ k/\many<ks.length/\at_<cl.length)
    ⟨ks,cl,f,v8,v9,rfl,sm,gp,gd,gc,I1,lk,by lia⟩ ?_ ?_⟩
   ·clear sm gp gd gc I1 lk au kl ca ba bq;refineλk σ l hk be Na bk=>opq λcv bo=>?_;obtain⟨ks,cl,f,v8,v9,rfl,sm,gp,gd,gc,I1,lk,la⟩:=be;refine bo ?_;rw[a6] at hk;have au:=I1.len;have kl:=I1.fd.len;have ec:cl[at_]?=some cl[at_]:=A3 la;generalize cl[at_]=x at ec;have ga:atI ((natI cl).map V.int) (at_:Int)=some (.int (x:Int)):=qFF (by lia) (by rw[B8,B6,qQW ec];rfl)
    have e0:(0+(k:Int)).toNat=k:=by lia
    refine cut λL2 cb=>?_;refine⟨_,rfl,_,rfl,c,_,_,_,rfl,rfl,SqL.of gc,ga,_,rfl,_,_,rfl,rfl,qZ8 (by lia) (by lia),_,rfl,_,rfl,c,_,_,_,rfl,rfl,SqL.of gc,ga,_,rfl,_,_,rfl,rfl,(by show(0:Int)<=0+(k:Int);lia),_,_,rfl,rfl,_,_,rfl,rfl,?_,_,_,rfl,rfl,?_⟩
    ·rw[e0,qFQ];refine .inr ⟨by lia,?_⟩
     have:=A16 (x/2^k) (show 0<2 by decide)
     lia
    dsimp only;rw[e0,qaF];refine cb _ _ ?_;refine⟨_,rfl,_,rfl,d,_,rfl,DGet.k (k:=E3 ((clrb x k:Nat):Int)) gd,_,rfl,?_⟩;rw[qPC];by_cases ck:clrb x k∈ks
    ·rw[if_pos ck];exact bk _ _ ⟨ks,cl,f,_,_,rfl,sm,gp,gd,gc,I1.hit ec ck,lk,la⟩
    ·rw[if_neg ck];refine iteT (cut λL3 ax=>?_);refine⟨_,rfl,_,rfl,_,rfl,d,_,rfl,DPut.k (k:=E3 ((clrb x k:Nat):Int)) gd (qBK (by rw[qM3];lia)),?_⟩
     rw[qUC ck];refine ax _ _ ?_;have a0:(Ag l d (.dK (kvN (ks++[clrb x k]) (fset f (clrb x k) many)))) c=some (.lst ((natI cl).map V.int)):=by rw[qAA ae.symm];exact gc
     refine⟨_,rfl,.inl ⟨rfl,_,SqL.of a0⟩,_,rfl,c,_,_,rfl,rfl,a0,qBK (by rw[A0,qEM];lia),?_⟩
     refine bk _ _ ⟨ks++[clrb x k],cl++[clrb x k],fset f (clrb x k) many,_,_,rfl,qAC (qAC sm aa) fc,by rw[qAA cc,qAA bi];exact gp,by rw[qAA ae,qA1],?_,I1.add ec hk ck,by rw[A9];lia,by rw[A9];lia⟩
     rw[qA1,qJI,B3]
     rfl
   ·refineλσ l an=>opq λcf aw=>?_;obtain⟨ks,cl,f,v8,v9,rfl,sm,gp,gd,gc,I1,lk,la⟩:=an;refine aw ?_;rw[a6] at I1;have au:=I1.len;refine ac _ _ ?_;refine⟨_,rfl,_,_,rfl,rfl,?_⟩;exact bv _ _ ⟨2^Ae.length-(at_+1),by lia,ks,cl,f,at_+1,_,_,rfl,rfl,sm,gp,gd,gc,I1.next,lk⟩
  ·have ba:¬(at_:Int)<(cl.length:Int):=of_decide_eq_false (G4.mpr ca);refine bu _ _ (cut λM4 bw=>?_);refine⟨_,rfl,_,_,rfl,rfl,?_⟩;refine bw _ _ (cut λM5 c6=>?_);refine⟨(by show 0<=B18;decide),λlz a8=>?_⟩
   have c0:H lz=none:=sm.free a8;have sz:=qA2 a8 (.lst []);have c7:p≠lz:=qA5 gp a8;have bp:d≠lz:=qA5 gd a8;have c3:c≠lz:=qA5 gc a8;have gz:(Ag l lz (.lst [])) lz=some (.lst ((natI []).map V.int)):=qA1;have y:=sz _ _ gp;have u:=sz _ _ gd;have a0:=sz _ _ gc;have t:=sm.trans sz;generalize Ag l lz (.lst [])=H5 at gz y u a0 t ⊢;clear sz a8 gp gd gc sm;refine c6 _ _ ?_;have J0:=I1.two (by lia)
   refine⟨_,rfl,c,rfl,⟨_,SqL.of a0⟩,qJV (a:=c) (xs:=(natI cl).map V.int) (λi σ l=>∃(ks ly:List Nat) (f:Nat->Nat) (v8 v10 v11:Option V),σ=[some (.ref a),some (.int Aa),some (.ref p),some (.ref d),some (.ref lz),some (.int ((many+1:Nat):Int)),some (.ref c),some (.int (at_:Int)),v8,v9,v10,v11]/\Same H l/\l p=some (.lst ((natI (Ae.map mskN)).map V.int))/\l d=some (.dK (kvN ks f))/\l lz=some (.lst ((natI ly).map V.int))/\l c=some (.lst ((natI cl).map V.int))/\A2 Ae Aa many ks f cl ly i 0/\many+1+ly.length<=ks.length)
    ⟨ks,[],f,v8,v10,v11,rfl,t,y,u,gz,a0,J0,by simp;lia⟩ (λi σ l _ hP=>by obtain⟨_,_,_,_,_,_,_,_,_,_,_,g,_⟩:=hP;exact SqL.of g) ?_ ?_⟩
   ·clear y u a0 gz t J0 I1 lk kl;refineλi x0 σ l hx al Nb bj=>opq λcd aj=>?_;obtain⟨ks,ly,f,v8,v10,v11,rfl,sm,gp,gd,gz,gc,J,lk⟩:=al;obtain⟨z,ez,rfl⟩:=qBH hx;obtain⟨x,ec,rfl⟩:=qTY ez;refine aj ?_;refine⟨_,rfl,a,_,rfl,.inr (SqT.of (sm _ _ hA)),_,rfl,by rw[a2];lia,by rw[a2];lia,λp2 a7=>?_⟩
    refine qBV (p:=p2) (lo:=0) (n:=((((rs.map V.ref).length:Nat):Int)).toNat) (λk σ Hd=>∃(v:Option V),σ=[v,some (.int (x:Int))]/\Same l Hd/\Hd p2=some (.lst ((((F6 k).map λk=>((x/2^k%2:Nat):Int))).map V.int))) ?_ ?_ ?_
    ·exact⟨none,rfl,qA2 a7 _,qA1⟩
    ·refineλk σ Hd hk ap=>opq λce ad=>?_;obtain⟨v,rfl,sd,a1⟩:=ap;refine ad ?_;rw[a6] at hk;have e0:(0+(k:Int)).toNat=k:=by lia
     refine⟨_,rfl,_,rfl,_,_,rfl,rfl,(by show(0:Int)<=0+(k:Int);lia),_,_,rfl,rfl,_,a1,qAE (by rw[A0,A0,W5];lia),_,rfl,qAC sd a7,?_⟩
     dsimp only;rw[qA1,e0,qFQ,Z0,B3,B3]
     rfl
    ·refineλσ Hd as=>opq λcg ab=>?_;obtain⟨v,rfl,sd,a1⟩:=as;refine ab ?_;rw[a6] at a1;refine⟨p2,_,rfl,SqL.of a1,_,rfl,_,_,rfl,rfl,_,rfl,?_⟩;dsimp only;rw[qML];have y:=sd _ _ gp;have u:=sd _ _ gd;have a4:=sd _ _ gz;have a0:=sd _ _ gc;have t:=sm.trans sd;clear gp gd gz gc sm a1 sd a7;refine ite2 (λcr=>?_) (λcr=>?_)
     ·have ai:(cntN Ae.length x:Int)<Aa:=of_decide_eq_true cr;refine⟨_,rfl,a,_,rfl,.inr (SqT.of (t _ _ hA)),_,rfl,by rw[a2];lia,by rw[a2];lia,qL1 (lo:=0) (n:=((((rs.map V.ref).length:Nat):Int)).toNat) (λk σ l=>∃(ks ly:List Nat) (f:Nat->Nat) (v8 v11:Option V),σ=[some (.ref a),some (.int Aa),some (.ref p),some (.ref d),some (.ref lz),some (.int ((many+1:Nat):Int)),some (.ref c),some (.int (at_:Int)),v8,v9,some (.int (x:Int)),v11]/\Same H l/\l p=some (.lst ((natI (Ae.map mskN)).map V.int))/\l d=some (.dK (kvN ks f))/\l lz=some (.lst ((natI ly).map V.int))/\l c=some (.lst ((natI cl).map V.int))/\A2 Ae Aa many ks f cl ly i k/\many+1+ly.length<=ks.length)
       ⟨ks,ly,f,v8,v11,rfl,t,y,u,a4,a0,J,lk⟩ ?_ ?_⟩
      ·clear y u a4 a0 t J lk;refineλk σ l hk ar Nc am=>opq λcj av=>?_;obtain⟨ks,ly,f,v8,v11,rfl,sm,gp,gd,gz,gc,J,lk⟩:=ar;refine av ?_;rw[a6] at hk;have kl:=J.fd.len;have e0:(0+(k:Int)).toNat=k:=by lia
       have b5:=A3 hk;have gm:atI ((natI (Ae.map mskN)).map V.int) (0+(k:Int))=some (.int ((nxt Ae k:Nat):Int)):=qFF (by lia) (by
        rw[e0,B6,qQW (b:=nxt Ae k) (by rw[B6,b5];unfold nxt;rw[b5];rfl)]
        rfl)
       refine cut λL1 ac=>?_;refine⟨_,rfl,_,rfl,_,_,rfl,rfl,qZ8 (by lia) (by lia),_,_,rfl,rfl,?_⟩
       dsimp only;rw[e0,qLS,qVO];refine ac _ _ ?_;refine⟨_,rfl,_,rfl,_,rfl,p,_,_,_,rfl,rfl,SqL.of gp,gm,_,_,rfl,rfl,_,rfl,_,rfl,p,_,_,_,rfl,rfl,SqL.of gp,gm,rfl,_,rfl,?_⟩;dsimp only;have c8:decide (V.int (M9 (x:Int) ((nxt Ae k:Nat):Int))=V.int ((nxt Ae k:Nat):Int))=decide (x &&& nxt Ae k=nxt Ae k):=decide_eq_decide.mpr ⟨λz=>by have:=V.int.inj z;rw[qEE] at this;lia,λz=>by rw[qEE,z]⟩
       rw[c8];by_cases cm:x &&& nxt Ae k=nxt Ae k
       ·rw[decide_eq_true cm];have cn:can Ae Aa x k:=⟨ai,hk,cm⟩;refine⟨_,rfl,_,rfl,d,_,rfl,DGet.k (k:=E3 ((x ||| 2^k:Nat):Int)) gd,_,rfl,?_⟩;rw[qPC];by_cases ck:x ||| 2^k∈ks
        ·rw[if_pos ck];exact am _ _ ⟨ks,ly,f,_,_,rfl,sm,gp,gd,gz,gc,J.hit ec λ_=>ck,lk⟩
        ·rw[if_neg ck];refine iteT (cut λL3 ax=>?_);refine⟨_,rfl,_,rfl,_,rfl,d,_,rfl,DPut.k (k:=E3 ((x ||| 2^k:Nat):Int)) gd (qBK (by rw[qM3];lia)),?_⟩
         rw[qUC ck];refine ax _ _ ?_;have a4:(Ag l d (.dK (kvN (ks++[x ||| 2^k]) (fset f (x ||| 2^k) (many+1))))) lz=some (.lst ((natI ly).map V.int)):=by rw[qAA bp.symm];exact gz
         refine⟨_,rfl,.inl ⟨rfl,_,SqL.of a4⟩,_,rfl,lz,_,_,rfl,rfl,a4,qBK (by rw[A0,qEM];lia),?_⟩
         refine am _ _ ⟨ks++[x ||| 2^k],ly++[x ||| 2^k],fset f (x ||| 2^k) (many+1),_,_,rfl,qAC (qAC sm aa) c0,by rw[qAA c7,qAA bi];exact gp,by rw[qAA bp,qA1],?_,by rw[qAA c3,qAA ae.symm];exact gc,J.add ec cn ck,by rw[A9,A9,C2];lia⟩
         rw[qA1,qJI,B3]
         rfl
       ·rw[decide_eq_false cm];exact am _ _ ⟨ks,ly,f,_,_,rfl,sm,gp,gd,gz,gc,J.hit ec λc=>absurd c.2.2 cm,lk⟩
      ·refineλσ l ao=>opq λci aq=>?_;obtain⟨ks,ly,f,v8,v11,rfl,sm,gp,gd,gz,gc,J,lk⟩:=ao;refine aq ?_;rw[a6] at J;exact bj _ _ ⟨ks,ly,f,_,_,_,rfl,sm,gp,gd,gz,gc,J.next,lk⟩
     ·have ai:¬(cntN Ae.length x:Int)<Aa:=of_decide_eq_false (G4.mpr cr);exact bj _ _ ⟨ks,ly,f,_,_,_,rfl,t,y,u,a4,a0,J.skip ec ai,lk⟩
   ·refineλσ l af=>opq λch ah=>?_;obtain⟨ks,ly,f,v8,v10,v11,rfl,sm,gp,gd,gz,gc,J,lk⟩:=af;refine ah ?_;have kl:=J.fd.len;rw[A0,qEM] at J;refine c4 _ _ ⟨2^Ae.length+1-(many+1),by lia,ks,ly,f,many+1,lz,_,_,_,_,_,_,rfl,rfl,sm,gp,gd,gz,J.one (A7 _),λc2=>?_⟩
    have:=m5.mpr c2
    lia
 ·have le:ly=[]:=by
   cases ly with
   |nil=>rfl
   |cons x xs=>exact absurd rfl cn
  subst le;refine bx _ _ ?_;refine⟨_,rfl,d,_,rfl,u,λo=>?_⟩;exact q d o ks f _ (qAC t aa) aa qA1 I1.come
theorem sc_stands_reached:FnScope ["net","rooms","reached","due","later","stand","move","further","steps"] ["net","rooms"] (qAB qAG):=qBN
theorem ok_stands_reached (F:Fun K "stands_reached" "stands_reached" qAG f fd) (c1:Clb P w K mg base 3 qG2 qJX "moves_of" ["net","rooms","stand"] qJ3) (c2:Clb P w K mg base 1 qCM qFK "stand_behind" ["stand","move"] qJ4):FnOk P w K mg base CX0 4 f fd ["net","rooms"] qLG:=by
 refine F.okA sc_stands_reached λc6 A bq s H vs Q E hr h=>?_;obtain⟨a,Ae,Aa,rfl,hN,wf,bx,q⟩:=h;have hu:=qIG hr;have cc:Room 3 _:=hr;have bz:qBC qAG=[.Assign [.Name "reached" ⟨89,4,89,11⟩] (.Dict [some (kOf ((qBC qAG).getD 0 (.Pass ⟨0,0,0,0⟩)))] [vOf ((qBC qAG).getD 0 (.Pass ⟨0,0,0,0⟩))] ⟨89,14,89,35⟩) ⟨89,4,89,35⟩,(qBC qAG).getD 1 (.Pass ⟨0,0,0,0⟩),(qBC qAG).getD 2 (.Pass ⟨0,0,0,0⟩),(qBC qAG).getD 3 (.Pass ⟨0,0,0,0⟩)]:=by kernel_rfl
 have hk:∀X:Cx,PE X (kOf ((qBC qAG).getD 0 (.Pass ⟨0,0,0,0⟩))) (tTup tNil):=λX=>qZB ⟨_,_,rfl⟩;have hv:∀X:Cx,PE X (vOf ((qBC qAG).getD 0 (.Pass ⟨0,0,0,0⟩))) (tTup (qMZ (tC (.int 0)) (qMZ (tC .non) (qMZ (tC .non) tNil)))):=λX=>qTK ⟨_,_,_,_,_,_,_,_,rfl⟩;rw[bz];generalize kOf ((qBC qAG).getD 0 (.Pass ⟨0,0,0,0⟩))=k0 at hk ⊢;generalize vOf ((qBC qAG).getD 0 (.Pass ⟨0,0,0,0⟩))=v9 at hv ⊢;refine⟨_,(qA4 (qAF (i:=2) sc_stands_reached.nd rfl (E6 rfl) (qTM hu (hk _) (hv _))) (qA4 (qAF (i:=3) sc_stands_reached.nd rfl (E6 rfl) (qBP (qA0 (qCX qA3) qA3))) (qA4 (qGT D9 (qW7 (pv 3) (λ_=>rfl)) (qA4 (qAF (i:=4) sc_stands_reached.nd rfl (E6 rfl) (qBP qA3)) (qA4 (qBX D9 rfl (qCS (pv 3)) (qAZ (i:=5) sc_stands_reached.nd rfl (E6 rfl)) (qA6 (qBX D9 rfl (qCS (qAS c1 hr rfl (qA0 (pv 0) (qA0 (pv 1) (qA0 (pv 5) qA3))))) (qAZ (i:=6) sc_stands_reached.nd rfl (E6 rfl)) (qA4 (qAF (i:=7) sc_stands_reached.nd rfl (E6 rfl) (qAS c2 hr rfl (qA0 (pv 5) (qA0 (pv 6) qA3)))) (qA6 (qC0 (qE4 (qF9 hu (pv 7) (pv 2))) (qA4 (qAF (i:=8) sc_stands_reached.nd rfl (E6 rfl) (qAN qDS (qBQ qCD (qDG hu (pv 2) (pv 5) (λ_ _=>rfl)) qA7 (λ_ _=>rfl)) (qLV (qAQ qFC (qBQ qCD (pv 6) qA7 (λ_ _=>rfl)) qCY (qAW _)) qA7 qA7))) (qA4 (qEL hu (pv 2) (pv 7) (qCX (qA0 (pv 8) (qA0 (pv 5) (qA0 (pv 6) qA3)))) rfl) (qA6 (qEK (qN9 G5 J8 J9 qCC (pv 4) (qA0 (pv 7) qA3)))))) qAR)))))) (qA6 (qAF (i:=3) sc_stands_reached.nd rfl (E6 rfl) (pv 4)))))) (qA6 (qAH (qTL (pv 2))))))),?_⟩
 try dsimp only[Cx.nox,Cx.wish,cxOf]
 have pw:2^Ae.length<=2^12:=J7 (by decide) bx
 intro j af;refine⟨(by show 0<=B18;decide),λe0 bj=>?_⟩
 refine⟨(by show 3<=B18;decide),λv0 b8=>?_⟩
 have s1:=qA2 af (.dT []);have s2:=qA2 bj (.tup []);have s3:=qA2 b8 (.tup [.int 0,.non,.non]);have g1:(Ag (Ag (Ag H j (.dT [])) e0 (.tup [])) v0 (.tup [.int 0,.non,.non])) j=some (.dT []):=s3 _ _ (s2 _ _ qA1);have g2:(Ag (Ag (Ag H j (.dT [])) e0 (.tup [])) v0 (.tup [.int 0,.non,.non])) e0=some (.tup (([]:List Key).map kV)):=s3 _ _ qA1;have g3:(Ag (Ag (Ag H j (.dT [])) e0 (.tup [])) v0 (.tup [.int 0,.non,.non])) v0=some (.tup [.int ((0:Nat):Int),.non,.non]):=qA1;have sA:=s1.trans (s2.trans s3);generalize Ag (Ag (Ag H j (.dT [])) e0 (.tup [])) v0 (.tup [.int 0,.non,.non])=H1 at g1 g2 g3 sA;refine⟨g1,e0,[],rfl,g2,?_⟩;have b:EntZ H1 [([],.ref v0)] [[]] (λ_=>0) (PrvH Ae Aa [[]] λ_=>0):=⟨λ_=>none,.cons ⟨rfl,v0,rfl,g3⟩ .nil,PrvH.start⟩;have b:=b.put (u:=.dT [([],.ref v0)]) g1 (λxs z=>by cases z)
 have sB:Same H (Ag H1 j (.dT [([],.ref v0)])):=qAC sA af;have g4:(Ag H1 j (.dT [([],.ref v0)])) j=some (.dT [([],.ref v0)]):=qA1;have ab:H j=none:=af;refine⟨(by show 0<=B18;decide),λe1 bw=>⟨(by show 1<=B18;decide),λdu br=>?_⟩⟩
 have s5:=qA2 bw (.tup []);have s6:=qA2 br (.lst [.ref e1]);have sC:=sB.trans (s5.trans s6);have aa:=(b.same s5).same s6;have g5:=s6 _ _ (s5 _ _ g4);have g6:(Ag (Ag (Ag H1 j (.dT [([],.ref v0)])) e1 (.tup [])) du (.lst [.ref e1])) du=some (.lst ([e1].map V.ref)):=qA1;have g7:StL (Ag (Ag (Ag H1 j (.dT [([],.ref v0)])) e1 (.tup [])) du (.lst [.ref e1])) [e1] [[]]:=.cons (s6 _ _ qA1) .nil;generalize Ag (Ag (Ag H1 j (.dT [([],.ref v0)])) e1 (.tup [])) du (.lst [.ref e1])=H2 at sC aa g5 g6 g7;clear s1 s2 s3 g1 g2 g3 sA b sB g4 s5 s6 bj b8 af;refine⟨λm σ Hc=>∃(du:Addr) (dr:List Addr) (due ks:List (List Int)) (f:List Int->Nat) (Af:List (List Key×V)) (t:Nat) (v4 v5 v6 v7 v8:Option V),σ=[some (.ref a),some (.int Aa),some (.ref j),some (.ref du),v4,v5,v6,v7,v8]/\m=(2^Ae.length-ks.length)*2+(if due=[] then 0 else 1)/\Same H Hc/\Hc j=some (.dT Af)/\EntZ Hc Af ks f (PrvH Ae Aa ks f)/\Hc du=some (.lst (dr.map V.ref))/\StL Hc dr due/\BF Ae Aa t ks due [] f 0 0,
  ⟨_,du,[e1],[[]],[[]],λ_=>0,_,0,none,none,none,none,none,rfl,rfl,sC,g5,aa,g6,g7,BF.start⟩,?_⟩
 clear sC g5 aa g6 g7;refineλm σ Hc b7=>opq λc4 bh=>?_;obtain⟨du,dr,due,ks,f,Af,t,v4,v5,v6,v7,v8,rfl,rfl,sm,d,b,n,SD,B⟩:=b7;refine bh ?_;refine⟨_,rfl,_,.inl ⟨_,SqL.of n,rfl⟩,?_⟩;have ap:dr.length=due.length:=C3 SD;by_cases hz:due=[]
 ·subst hz;have:dr=[]:=M6.mp ap;subst this;refine iteF ?_;obtain⟨g,eX,b1⟩:=b.ex;exact⟨_,rfl,j,Af,rfl,d,λo=>q j o Af ks f g _ (qAC sm ab) ab qA1 (eX.put d λxs z=>by cases z) B.rch b1⟩
 ·have ne:(!(dr.map V.ref).isEmpty)=true:=by
   cases dr with
   |nil=>exact absurd (M6.mp ap.symm) hz
   |cons _ _=>rfl
  dsimp only;rw[if_pos ne];have c3:=B.len;have ln:=b.len;refine qTZ λN0 b4=>?_;refine⟨(by show 0<=B18;decide),λll aj=>?_⟩
  have s7:=qA2 aj (.lst []);have bs:H ll=none:=sm.free aj;have b0:ll≠j/\ll≠du:=⟨(qA5 d aj).symm,(qA5 n aj).symm⟩;have bn:j≠du:=qCB d n (by intro z;cases z)
  obtain⟨k0,au⟩:∃k0,k0=ks.length:=⟨_,rfl⟩;rw[<- au] at b4;refine⟨_,rfl,du,rfl,⟨_,SqL.of (s7 _ _ n)⟩,qJV (a:=du) (xs:=dr.map V.ref) (λi σ Hd=>∃(lr:List Addr) (ly ks:List (List Int)) (f:List Int->Nat) (Af:List (List Key×V)) (v5 v6 v7 v8:Option V),σ=[some (.ref a),some (.int Aa),some (.ref j),some (.ref du),some (.ref ll),v5,v6,v7,v8]/\Same H Hd/\Hd j=some (.dT Af)/\EntZ Hd Af ks f (PrvH Ae Aa ks f)/\Hd du=some (.lst (dr.map V.ref))/\StL Hd dr due/\Hd ll=some (.lst (lr.map V.ref))/\StL Hd lr ly/\BF Ae Aa t ks due ly f i 0/\ks.length=k0+ly.length)
   ⟨[],[],ks,f,Af,v5,v6,v7,v8,rfl,sm.trans s7,s7 _ _ d,b.same s7,s7 _ _ n,SD.same s7,qA1,.nil,B,au.symm⟩ (by rintro i σ Hd _ ⟨_,_,_,_,_,_,_,_,_,_,_,_,_,z,_⟩;exact SqL.of z) ?_ ?_⟩
  ·clear s7 d b n SD B sm ln c3 au;refineλi x σ Hd hx b3 N1 c0=>opq λc8 b2=>?_;obtain⟨lr,ly,ks,f,Af,v5,v6,v7,v8,rfl,sm,d,b,n,SD,a0,SL,B,a2⟩:=b3;obtain⟨sr,bf,rfl⟩:=qCV hx;obtain⟨p,a8,a7⟩:=qB2 SD bf;refine b2 ?_;have ri:Rise (Ae.length:Int) p:=((B.duem p).mp (B0 a8)).1.rise;have cf:p.length<=12:=by have:=ri.len;lia
   have a5:p∈ks:=B.full t p (A7 _) ((B.duem p).mp (B0 a8)).1;refine⟨_,rfl,_,rfl,_,rfl,a,sr,Ae,p,Aa,rfl,hN.same sm,wf,by lia,a7,by lia,λl rs H3 s3 fl gl ML=>?_⟩
   have bv:rs.length=(qCW Ae p Aa).length:=C3 ML;refine⟨l,rfl,⟨_,SqL.of gl⟩,qJV (a:=l) (xs:=rs.map V.ref) (λk σ Hd=>∃(lr:List Addr) (ly ks:List (List Int)) (f:List Int->Nat) (Af:List (List Key×V)) (v6 v7 v8:Option V),σ=[some (.ref a),some (.int Aa),some (.ref j),some (.ref du),some (.ref ll),some (.ref sr),v6,v7,v8]/\Same H Hd/\Hd j=some (.dT Af)/\EntZ Hd Af ks f (PrvH Ae Aa ks f)/\Hd du=some (.lst (dr.map V.ref))/\StL Hd dr due/\Hd ll=some (.lst (lr.map V.ref))/\StL Hd lr ly/\BF Ae Aa t ks due ly f i k/\ks.length=k0+ly.length/\Hd l=some (.lst (rs.map V.ref))/\MovL Hd rs (qCW Ae p Aa)/\p∈ks)
    ⟨lr,ly,ks,f,Af,v6,v7,v8,rfl,sm.trans s3,s3 _ _ d,b.same s3,s3 _ _ n,SD.same s3,s3 _ _ a0,SL.same s3,B,a2,gl,ML,a5⟩ (by rintro k σ Hd _ ⟨_,_,_,_,_,_,_,_,_,_,_,_,_,_,_,_,_,_,z,_⟩;exact SqL.of z) ?_ ?_⟩
   ·have nl:j≠l/\ll≠l:=⟨qA5 d fl,qA5 a0 fl⟩;clear d b n SD a0 SL B a2 sm gl ML s3 a5 a7;refineλk x σ Hd hx bk N2 as=>opq λcd bb=>?_;obtain⟨lr,ly,ks,f,Af,v6,v7,v8,rfl,sm,d,b,n,SD,a0,SL,B,a2,gl,ML,a5⟩:=bk;obtain⟨mv,bt,rfl⟩:=qCV hx;obtain⟨⟨Ac,wk⟩,ag,ae⟩:=qB2 ML bt;refine bb ?_;dsimp only at ae;obtain⟨ce,ak,a7⟩:=qB2 SD bf;rw[a8] at ak;cases ak;have hw:=(due_iff.mp (B0 ag)).1.1;refine⟨_,rfl,_,rfl,sr,mv,p,Ac,wk,rfl,a7,by lia,ae,hw,λr ca H4 s4 gr bu=>?_⟩
    have e2:=qYG (m:=(Ac,wk)) ri hw bu;rw[e2] at gr;have b6:=sm.trans s4;have a6:=s4 _ _ d;have a1:=b.same s4;have am:=s4 _ _ n;have bm:=SD.same s4;have an:=s4 _ _ a0;have ay:=SL.same s4;have bd:=s4 _ _ gl;have b9:=ML.same s4;have al:=s4 _ _ a7;have ao:=s4 _ _ ae;have lb:=B.len;clear d b n SD a0 SL gl ML a7 ae;refine⟨_,rfl,_,rfl,j,_,rfl,.inr ⟨Af,keyS (behL p (Ac,wk)),r,.inl a6,rfl,by rw[qDI];exact gr,rfl⟩,_,rfl,?_⟩
    by_cases a9:behL p (Ac,wk)∈ks
    ·obtain⟨v,ev,_⟩:=a1.val a9;rw[ev];refine iteF ?_;exact as _ _ ⟨lr,ly,ks,f,Af,_,_,_,rfl,b6,a6,a1,am,bm,an,ay,B.hit a8 ag a9,a2,bd,b9,a5⟩
    ·rw[a1.none a9];refine iteT ?_;obtain⟨v,ev,vr,xx,yy,e6,gv⟩:=a1.val a5;subst e6;have dg:DGet H4 j (.ref sr) (some (.ref vr)):=by
      rw[<- ev];exact .inr ⟨Af,keyS p,sr,.inl a6,rfl,by rw[qDI];exact al,rfl⟩
     have B2:=B.add a8 ag a9;have bp:=B2.len;rw[A9,C2] at bp;have c7:lr.length=ly.length:=C3 ay;have c9:=a1.len;refine⟨_,rfl,_,rfl,j,.ref vr,rfl,dg,vr,_,_,_,rfl,rfl,SqT.of gv,rfl,_,rfl,mv,_,_,_,rfl,rfl,SqT.of ao,rfl,rfl,_,rfl,?_⟩;obtain⟨z,ah,bc⟩:∃z:Nat,(if decide (V.str Ac=V.str "do")=true then z=1 else z=0)/\z=if((Ac,wk):Mv).1=D3 "do" then 1 else 0:=by
      by_cases c:Ac=D3 "do"
      ·exact⟨1,by rw[if_pos (decide_eq_true (congrArg V.str c))],by rw[if_pos c]⟩
      ·exact⟨0,by rw[if_neg (λq=>c (V.str.inj (of_decide_eq_true q)))],by rw[if_neg c]⟩
     rw[<- bc] at B2;have bl:∀(y:Int) (H5:Hp) (tp:Addr),y=((f p+z:Nat):Int)->H4 tp=none->H5=Ag H4 tp (.tup [.int y,.ref sr,.ref mv])->∃H6 H7,DPut H5 j (.ref r) (.ref tp) H6/\H6 ll=some (.lst (lr.map V.ref))/\H7=Ag H6 ll (.lst (lr.map V.ref++[.ref r]))/\
       ∃(lr:List Addr) (ly ks:List (List Int)) (f:List Int->Nat) (Af:List (List Key×V)),Same H H7/\H7 j=some (.dT Af)/\EntZ H7 Af ks f (PrvH Ae Aa ks f)/\H7 du=some (.lst (dr.map V.ref))/\StL H7 dr due/\H7 ll=some (.lst (lr.map V.ref))/\StL H7 lr ly/\BF Ae Aa t ks due ly f i (k+1)/\ks.length=k0+ly.length/\H7 l=some (.lst (rs.map V.ref))/\MovL H7 rs (qCW Ae p Aa)/\p∈ks:=by
      intro y H5 tp ey ad e5;subst ey e5;have s5:=qA2 ad (.tup [.int ((f p+z:Nat):Int),.ref sr,.ref mv]);have g5:(Ag H4 tp (.tup [.int ((f p+z:Nat):Int),.ref sr,.ref mv])) tp=some (.tup [.int ((f p+z:Nat):Int),.ref sr,.ref mv]):=qA1;generalize Ag H4 tp (.tup [.int ((f p+z:Nat):Int),.ref sr,.ref mv])=H5 at s5 g5;have a4:=s5 _ _ a6;have bi:=s5 _ _ gr;have ba:=s5 _ _ an;have nt:∀kk xs,HO.dT kk≠.tup xs:=λkk xs q=>by cases q
      have ai:∀kk xs,HO.lst kk≠.tup xs:=λkk xs q=>by cases q
      have a3:(Ag H5 j (.dT (putK Af (keyS (behL p (Ac,wk))) (.ref tp)))) ll=some (.lst (lr.map V.ref)):=(qAA b0.1).trans ba;refine⟨_,_,.inr ⟨Af,keyS (behL p (Ac,wk)),r,a4,rfl,by rw[qDI];exact bi,qBK (by lia),rfl⟩,a3,rfl,lr++[r],ly++[behL p (Ac,wk)],ks++[behL p (Ac,wk)],_,_,qAC (qAC (b6.trans s5) ab) bs,?_,(((a1.same s5).snoc (m:=(Ac,wk)) a9 g5 (s5 _ _ al) (s5 _ _ ao) (λg e=>PrvH.snoc a5 (B0 ag) a9 bc e)).put a4 (nt _)).put a3 (ai _),?_,((bm.same s5).put a4 (nt _)).put a3 (ai _),?_,(((ay.same s5).snoc bi).put a4 (nt _)).put a3 (ai _),B2,?_,?_,((b9.same s5).putG a4 (nt _)).putG a3 (ai _),A8.mpr (.inl a5)⟩
      ·rw[qAA b0.1.symm,qA1]
      ·rw[qAA b0.2.symm,qAA bn.symm];exact s5 _ _ am
      ·rw[qA1,qBE]
      ·simp only[A9,C2];lia
      ·rw[qAA nl.2.symm,qAA nl.1.symm];exact s5 _ _ bd
     refine ite2 (λck=>?_) (λck=>?_)
     ·rw[if_pos ck] at ah;refine⟨_,_,rfl,rfl,_,rfl,_,rfl,_,rfl,(by show 3<=B18;decide),λtp ad=>?_⟩
      obtain⟨H6,H7,dp,g6,e7,az,aw,ax,f2,ac,x1,x2,x3,x4,x5,x6,x7,x8,x9,aq,ar,av⟩:=bl _ _ tp (by rw[ah]) ad rfl
      subst e7;refine⟨_,rfl,_,rfl,j,H6,rfl,dp,_,rfl,.inl ⟨rfl,_,SqL.of g6⟩,_,rfl,ll,_,_,rfl,rfl,g6,qBK (by rw[A0];lia),?_⟩
      exact as _ _ ⟨az,aw,ax,f2,ac,_,_,_,rfl,x1,x2,x3,x4,x5,x6,x7,x8,x9,aq,ar,av⟩
     ·rw[if_neg ck] at ah;refine⟨_,_,rfl,rfl,_,rfl,_,rfl,_,rfl,(by show 3<=B18;decide),λtp ad=>?_⟩
      obtain⟨H6,H7,dp,g6,e7,az,aw,ax,f2,ac,x1,x2,x3,x4,x5,x6,x7,x8,x9,aq,ar,av⟩:=bl _ _ tp (by rw[ah]) ad rfl
      subst e7;refine⟨_,rfl,_,rfl,j,H6,rfl,dp,_,rfl,.inl ⟨rfl,_,SqL.of g6⟩,_,rfl,ll,_,_,rfl,rfl,g6,qBK (by rw[A0];lia),?_⟩
      exact as _ _ ⟨az,aw,ax,f2,ac,_,_,_,rfl,x1,x2,x3,x4,x5,x6,x7,x8,x9,aq,ar,av⟩
   ·refineλσ Hd bg=>opq λc5 be=>?_;obtain⟨lr,ly,ks,f,Af,v6,v7,v8,rfl,sm,d,b,n,SD,a0,SL,B,a2,gl,ML,a5⟩:=bg;refine be ?_;rw[A0,bv] at B;exact c0 _ _ ⟨lr,ly,ks,f,Af,_,_,_,_,rfl,sm,d,b,n,SD,a0,SL,B.next a8 (A7 _),a2⟩
  ·refineλσ Hd b5=>opq λcb bo=>?_;obtain⟨lr,ly,ks,f,Af,v5,v6,v7,v8,rfl,sm,d,b,n,SD,a0,SL,B,a2⟩:=b5;refine bo ?_;rw[A0,ap] at B;have B2:=B.level (A7 _);have lb:=B2.len;refine⟨_,rfl,b4 _ _ ⟨_,?_,ll,lr,ly,ks,f,Af,t+1,_,_,_,_,_,rfl,rfl,sm,d,b,a0,SL,B2⟩⟩;rw[if_neg hz];by_cases c:ly=[]
   ·rw[if_pos c,a2,c,N9]
    lia
   ·have:0<ly.length:=m5.mpr c;rw[if_neg c,a2]
    lia
theorem sc_best_end:FnScope ["reached","asked","ends"] ["reached","asked"] (qAB qCG):=qBN
theorem ok_best_end (F:Fun K "best_end" "best_end" qCG f fd) (hcd:fd.code=.ref cc) (hBM:BM mg base) (qEP:hdIn K cc Pt=true) (qEF:Clb P w K mg base 1 qHA qL3 "has_all" ["results","works"] qSX) (qMR:mg "min" = none):FnOk P w K mg base CX0 2 f fd ["reached","asked"] (qSZ Pt):=by
 refine F.okL hcd sc_best_end (λvs H Q E h=>?_) (λA ai s H vs Q E hr h=>?_)
 ·obtain⟨d,t,o,Af,g,l,e,rfl,_⟩:=h
  rfl
 obtain⟨d,t,o,Af,g,l,e,rfl,ag,hd,a7,lk,hT,la,q⟩:=h;have hu:=qIG hr;have ah:=hu2_of hr;have rm:Room 1 _:=hr;have as:Room 1 _:=hr;refine⟨_,(qA4 (qOT (i:=2) sc_best_end.nd rfl rfl rfl (lcs (own:=["stand"]) (fv:=[1]) (by kernel_rfl)) (qQL (pv 0)) (λz1=>qBO 0) (λz1=>(qDF (qF1 (qAS qEF hr rfl (qA0 (pv 0) (qA0 (pv 1) qA3)))))) (λz1=>(pv 0)) (by kernel_rfl)) (qA6 (qAH (qWD (p:="stand") (fv:=[0]) (q:="best_end.<locals>.<lambda>") rm rfl rfl qMR qRE hBM rfl qEP (by kernel_rfl) (lms (by kernel_rfl)) rfl (λ_ _ _ _ _=>rfl) (qdD ah) (qA0 (pv 2) qA3) (λz2=>(qCX (qA0 (qBQ (qJN (K:=K) rfl) (qDG (lm_hu _) (pv 1) (pv 0) (λ_ _=>rfl)) qA7 (λ_ _=>rfl)) (qA0 (pv 0) qA3)))) qJC)))),?_⟩
 try dsimp only[Cx.nox,Cx.wish,cxOf]
 have ln:=a7.len;refine⟨_,rfl,d,o,Af,rfl,hd,λle ac=>?_⟩;refine qWT (p:=le) (a:=d) (o:=o) (Af:=Af) (λk σ Hd=>∃(v0:Option V) (er:List Addr),σ=[v0,some (.ref t)]/\Same H Hd/\Hd le=some (.lst (er.map V.ref))/\StL Hd er ((g.take k).filter λs=>decide (∀x∈e,x∈s))) ?_ ?_ ?_ ?_
 ·exact⟨none,[],rfl,qA2 ac _,qA1,.nil⟩
 ·refineλk σ Hd hk ab=>opq λao ae=>?_;obtain⟨v0,er,rfl,sd,_⟩:=ab;refine ae ?_;exact sd _ _ hd
 ·refineλk a8 v r σ Hd y a6 aa=>opq λap a9=>?_;obtain⟨v0,er,rfl,sd,ge,SE⟩:=aa;obtain⟨m,u,e1,v3⟩:=qB2 a7 y;refine a9 ?_;dsimp only at e1;subst e1;rw[qDI] at a6;have ar:=(A4.mp u).1;have lE:er.length=((g.take k).filter λs=>decide (∀x∈e,x∈s)).length:=C3 SE;have ak:=J2 (λs:List Int=>decide (∀x∈e,x∈s)) (g.take k);rw[C4] at ak;refine⟨_,rfl,_,rfl,true,r,t,m,e,rfl,a6,.inl (sd _ _ hT),la,λH2 n=>⟨_,rfl,?_⟩⟩;rw[C5,u,C6,o5];by_cases c:∀x∈e,x∈m
  ·rw[decide_eq_true c];refine⟨_,rfl,_,n _ _ ge,qBK (by rw[A0];lia),?_⟩
   rw[qBE];refine⟨_,er++[r],rfl,qAC (sd.trans n) ac,qA1,?_⟩;rw[L8,if_pos (decide_eq_true c)];exact((SE.same n).snoc (n _ _ a6)).put (n _ _ ge) λxs z=>by cases z
  ·rw[decide_eq_false c];refine⟨_,er,rfl,sd.trans n,n _ _ ge,?_⟩;rw[L8,if_neg (by rw[decide_eq_false c];exact B1),List.filter_nil,Q9]
   exact SE.same n
 refineλσ H1 af=>opq λaq ad=>?_;obtain⟨v0,er,rfl,s1,ge,SE⟩:=af;refine ad ?_;rw[ln,O3] at SE;have lE:er.length=(g.filter λs=>decide (∀x∈e,x∈s)).length:=C3 SE;refine⟨_,rfl,s1 _ _ ag,le,er.map V.ref,(g.filter λs=>decide (∀x∈e,x∈s)).map λs=>(l s:Int)::s,?_⟩;have a8:∀(i:Nat) (x:V) (k:List Int),(er.map V.ref)[i]?=some x->((g.filter λs=>decide (∀x∈e,x∈s)).map λs=>(l s:Int)::s)[i]?=some k->∃r s,x=.ref r/\k=(l s:Int)::s/\s∈g/\(∀x∈e,x∈s)/\H1 r=some (.tup (s.map V.int)):=by
  intro i x k y hk;obtain⟨r,a0,rfl⟩:=qCV y;obtain⟨m,u,gs⟩:=qB2 SE a0;rw[B6,u] at hk;cases hk;have hm:=C9.mp (B0 u);exact⟨r,m,rfl,rfl,hm.1,of_decide_eq_true hm.2,gs⟩
 have am:∀(i:Nat) (x:V) (k:List Int),(er.map V.ref)[i]?=some x->((g.filter λs=>decide (∀x∈e,x∈s)).map λs=>(l s:Int)::s)[i]?=some k->∀Hc,Sm0 H1 Hc->∃r s vr xx yy,x=.ref r/\k=(l s:Int)::s/\Hc r=some (.tup (s.map V.int))/\DGet Hc d (.ref r) (some (.ref vr))/\Hc vr=some (.tup [.int (l s:Int),xx,yy]):=by
  intro i x k y hk Hc sc;obtain⟨r,m,e1,e2,e3,e4,e5⟩:=a8 i x k y hk;obtain⟨v,ev,vr,xx,yy,e6,e7⟩:=a7.val e3;subst e6;have gr:=sc _ _ e5;refine⟨r,m,vr,xx,yy,e1,e2,gr,?_,sc _ _ (s1 _ _ e7)⟩;rw[<- ev];exact .inr ⟨Af,keyS m,r,.inr ⟨o,sc _ _ (s1 _ _ hd)⟩,rfl,by rw[qDI];exact gr,rfl⟩
 cases er with
 |nil=>
  have he:(g.filter λs=>decide (∀x∈e,x∈s))=[]:=M6.mp lE.symm;refine⟨.non,rfl,ge,by rw[A0,A0,he];rfl,λi x k y=>by simp at y,by rw[he];rfl,λH2 n=>(q H2 (s1.trans n)).1 λs hs c=>?_⟩
  have:s∈g.filter λs=>decide (∀x∈e,x∈s):=C9.mpr ⟨hs,decide_eq_true c⟩;rw[he] at this;cases this
 |cons r0 er=>
  cases eZ:((r0::er).map V.ref).zip ((g.filter λs=>decide (∀x∈e,x∈s)).map λs=>(l s:Int)::s) with
  |nil=>
   exfalso
   have:=congrArg U4 eZ;rw[A11,A0,A0,<- lE,D6,N9] at this
   lia
  |cons b rest=>
   obtain⟨k,h1,h2⟩:=qJB rest b;rw[<- eZ] at h1 h2;have an:∀p:V×List Int,p∈((r0::er).map V.ref).zip ((g.filter λs=>decide (∀x∈e,x∈s)).map λs=>(l s:Int)::s)->∃i:Nat,((r0::er).map V.ref)[i]?=some p.1/\((g.filter λs=>decide (∀x∈e,x∈s)).map λs=>(l s:Int)::s)[i]?=some p.2:=by
    intro p hp;obtain⟨i,hi⟩:=F9 hp;rw[q9] at hi;exact⟨i,hi.1,hi.2⟩
   obtain⟨i,g1,g2⟩:=an _ h1;obtain⟨r,m,e1,e2,e3,e4,e5⟩:=a8 i _ _ g1 g2;refine⟨qF2 b rest,rfl,ge,by rw[A0,A0,lE],λi x k y hk Hc sc=>?_,rfl,λH2 n=>?_⟩
   ·obtain⟨r,m,vr,xx,yy,a1,a2,a3,a4,a5⟩:=am i x k y hk Hc sc;subst a1 a2;exact⟨_,rfl,_,rfl,d,.ref vr,rfl,a4,vr,_,_,_,rfl,rfl,SqT.of a5,rfl,_,rfl,(by show 2<=B18;decide),λp hp=>⟨qA2 hp _,p,r,_,m,rfl,rfl,qA1,by rw[qAA (qA5 a3 hp)];exact a3⟩⟩
   ·have e1:qF2 b rest=.ref r:=e1;rw[e1];refine(q H2 (s1.trans n)).2 r m (n _ _ e5) e3 e4 λs' al c'=>?_;have hf:s'∈g.filter λs=>decide (∀x∈e,x∈s):=C9.mpr ⟨al,decide_eq_true c'⟩;obtain⟨j,hj⟩:=F9 hf;have aj:=(A4.mp hj).1;have a0:j<((r0::er).map V.ref).length:=by rw[A0,lE];exact aj
    have hq:(((r0::er).map V.ref)[j],(l s':Int)::s')∈((r0::er).map V.ref).zip ((g.filter λs=>decide (∀x∈e,x∈s)).map λs=>(l s:Int)::s):=
     B0 (i:=j) (q9.mpr ⟨A3 a0,by rw[B6,hj];rfl⟩)
    have hl:=h2 _ hq;have e2:k=(l m:Int)::m:=e2;rw[e2] at hl;dsimp only at hl;rw[HT.lexLt_cons] at hl;by_cases c:(l s':Int)=(l m:Int)
    ·lia
    ·rw[if_neg c] at hl;have:=of_decide_eq_false hl
     lia
theorem MovL.rev {H:Hp}{c:List Addr}{b:List Mv}(h:MovL H c b):MovL H c.reverse b.reverse:=by
 induction h with
 |nil=>exact .nil
 |@cons r m l1 l2 a _ ih=>
  rw[b7,b7];exact U6 ih a
theorem sc_plan_to:FnScope ["reached","stand","plan"] ["reached","stand"] (qAB qGO):=qBN
theorem ok_plan_to (F:Fun K "plan_to" "plan_to" qGO f fd):FnOk P w K mg base CX0 1 f fd ["reached","stand"] qSU:=by
 refine F.okA sc_plan_to λaj A ab s H vs Q E hr h=>?_;obtain⟨d,t,o,Af,Ae,Aa,ks,fu,g,n,rfl,gd,a9,wf,RC,FR,lk,gt,l,q⟩:=h;have hu:=qIG hr;refine⟨_,(qA4 (qAF (i:=2) sc_plan_to.nd rfl (E6 rfl) (qBP qA3)) (qA4 (qGT D9 (qE4 (qOZ (qBQ qCD (qDG hu (pv 0) (pv 1) (λ_ _=>rfl)) qA7 (λ_ _=>rfl)))) (qA4 (qEK (qN9 G5 J8 J9 qCC (pv 2) (qA0 (qBQ qCD (qDG hu (pv 0) (pv 1) (λ_ _=>rfl)) qA7 (λ_ _=>rfl)) qA3))) (qA6 (qAF (i:=1) sc_plan_to.nd rfl (E6 rfl) (qBQ qCD (qDG hu (pv 0) (pv 1) (λ_ _=>rfl)) qA7 (λ_ _=>rfl)))))) (qA4 (qEK (qbK G5 PySem.F.slot_list_reverse PySem.F.type_list_reverse qRX (pv 2))) (qA6 (qAH (pv 2)))))),?_⟩
 try dsimp only[Cx.nox,Cx.wish,cxOf]
 have pv:=FR.1;obtain⟨u0,_,ag⟩:=RC.snd n l;have ep:pth fu g n=qFA g u0 n:=by unfold pth;rw[show 2*fu n-n.length=u0 by lia]
 have a0:=(qOS wf RC pv l).2.2.2;rw[ep] at a0;refine⟨(by show 0<=B18;decide),λj e=>?_⟩
 have s1:=qA2 e (.lst []);refine⟨λm σ c=>∃(tr:Addr) (cur:List Int) (rs:List Addr) (done:List Mv),σ=[some (.ref d),some (.ref tr),some (.ref j)]/\Same H c/\c tr=some (.tup (cur.map V.int))/\cur∈ks/\2*fu cur=m+cur.length/\c j=some (.lst (rs.map V.ref))/\MovL c rs done/\qFA g u0 n=qFA g m cur++done.reverse,
  ⟨u0,t,n,[],[],rfl,s1,s1 _ _ gt,l,ag,qA1,.nil,by simp⟩,?_⟩
 refineλm σ c a8=>opq λai a7=>?_;obtain⟨tr,cur,rs,done,rfl,sm,u,k,em,a,ML,ed⟩:=a8;refine a7 ?_;have ld:rs.length=done.length:=C3 ML;have ah:done.length+1<=ks.length:=by
  have:=congrArg U4 ed;rw[A9,A32] at this
  lia
 obtain⟨v,ev,vx⟩:=(a9.same sm).val k;rcases pv cur k with⟨a1,y,a3⟩|⟨p,mv,a1,y,a3,a4,a5⟩
 ·rw[y] at vx;obtain⟨b,rfl,gv⟩:=vx;have dg:DGet c d (.ref tr) (some (.ref b)):=.inr ⟨Af,keyS cur,tr,.inr ⟨o,sm _ _ gd⟩,rfl,by rw[qDI];exact u,ev.symm⟩
  refine⟨_,rfl,_,rfl,d,.ref b,rfl,dg,b,_,_,_,rfl,rfl,SqT.of gv,rfl,_,rfl,?_⟩;refine iteF ?_;refine⟨_,rfl,.inl ⟨rfl,_,SqL.of a⟩,j,_,rfl,rfl,a,?_⟩;refine⟨_,rfl,q j _ (qAC sm e) e ?_⟩;have en:qFA g m cur=[]:=by
   cases m with
   |zero=>rfl
   |succ m=>show(match g cur with|none=>[]|some (p,m')=>qFA g m p++[m'])=[];rw[y]
  rw[en,l6] at ed;rw[ep,ed];refine⟨rs.reverse,by rw[qA1,List.map_reverse],?_⟩
  exact(MovL.rev ML).putG a λx z=>by cases z
 ·rw[a1] at vx;obtain⟨b,rp,rm,rfl,gv,af,aa⟩:=vx;have dg:DGet c d (.ref tr) (some (.ref b)):=.inr ⟨Af,keyS cur,tr,.inr ⟨o,sm _ _ gd⟩,rfl,by rw[qDI];exact u,ev.symm⟩
  have a6:=em;rw[a5] at a6;obtain⟨v',e1,e2⟩:=qLE RC y a3 (by rw[<- a4];exact a6)
  subst e1;refine⟨_,rfl,_,rfl,d,.ref b,rfl,dg,b,_,_,_,rfl,rfl,SqT.of gv,rfl,_,rfl,?_⟩;refine iteT ?_;refine qTZ λN0 ac=>?_;refine⟨_,rfl,.inl ⟨rfl,_,SqL.of a⟩,_,rfl,_,rfl,d,.ref b,rfl,dg,b,_,_,_,rfl,rfl,SqT.of gv,rfl,j,_,_,rfl,rfl,a,qBK (by rw[A0];lia),?_⟩
  have s2:Same H (Ag c j (.lst (rs.map V.ref++[V.ref rm]))):=qAC sm e;have nt:∀kk x,HO.lst kk≠.tup x:=λkk x q=>by cases q
  have kp:∀(r:Addr) (x:List V),c r=some (.tup x)->(Ag c j (.lst (rs.map V.ref++[V.ref rm]))) r=some (.tup x):=λr x gg=>by
   rw[qAA (qCB gg a λz=>nt _ _ z.symm)];exact gg
  have ae:DGet (Ag c j (.lst (rs.map V.ref++[V.ref rm]))) d (.ref tr) (some (.ref b)):=.inr ⟨Af,keyS cur,tr,.inr ⟨o,s2 _ _ gd⟩,rfl,by rw[qDI];exact kp _ _ u,ev.symm⟩
  refine⟨_,rfl,_,rfl,d,.ref b,rfl,ae,b,_,_,_,rfl,rfl,SqT.of (kp _ _ gv),rfl,?_⟩;refine ac _ _ ⟨v',by lia,rp,p,rs++[rm],done++[mv],rfl,s2,kp _ _ af,y,e2,by rw[qA1,qBE],?_,?_⟩
  ·exact MovL.putG (U6 ML aa) a (nt _)
  ·rw[ed];have ad:qFA g (v'+1) cur=qFA g v' p++[mv]:=by show(match g cur with|none=>[]|some (p,m')=>qFA g v' p++[m'])=_;rw[a1]
   rw[ad,U8,P5]
   rfl
theorem qJ7:FnScope ["works","asked"] ["works","asked"] (qAB qCK):=qBN
theorem ok_part_numbers (F:Fun K "part_numbers" "part_numbers" qCK f fd) (qAI:mg "tuple" = none):FnOk P w K mg base CX0 1 f fd ["works","asked"] qLI:=by
 refine F.okA qJ7 λa4 A v s H vs Q E hr h=>?_;obtain⟨t,u,o,r,rfl,hT,hU,nd,la,lw,a0,q⟩:=h;refine⟨_,(qA6 (qAH (qAD qAJ rfl qAI qAM (qA0 (qCR rfl (lcs (own:=["work"]) (fv:=[0]) (by kernel_rfl)) (qE5 (pv 1)) (λz1=>qBO 0) (λz1=>qB6) (λz1=>(qXX (X:=lcCx _ _ _ _ z1) w6 y4 y7 (qJK (K:=K) rfl) (pv 1) (qA0 (pv 0) qA3)))) qA3)))),?_⟩
 try dsimp only[Cx.nox,Cx.wish,cxOf]
 refine⟨_,rfl,u,rfl,⟨_,SqT.of hU⟩,λp hp=>?_⟩;refine qG7 (p:=p) (a:=u) (xs:=r.map V.int) (λi σ n=>∃(v0:Option V),σ=[v0,some (.ref t)]/\Same H n/\n p=some (.lst ((qB9 o (r.take i)).map V.int))) ?_ ?_ ?_ ?_
 ·exact⟨none,rfl,qA2 hp _,qA1⟩
 ·rintro i σ n hi ⟨v0,rfl,sm,_⟩;exact SqT.of (sm _ _ hU)
 ·refineλi x σ n hx d=>opq λa2 c=>?_;obtain⟨v0,rfl,sm,b⟩:=d;obtain⟨y,z,rfl⟩:=qBH hx;refine c ?_;have lt:=(A4.mp z).1;have g:=hT.same sm;have hy:=a0 y (B0 z);obtain⟨j,hj⟩:=F9 hy;have lk:(qB9 o (r.take i)).length<=i:=F3 (O6 _ _) (by rw[C4];lia)
  have first:∀k,k<j->o[k]?≠some y:=λk hk e=>by
   obtain⟨h1,e1⟩:=A4.mp e;obtain⟨h2,e2⟩:=A4.mp hj;exact absurd (e1.trans e2.symm) (G2.mp nd k j h1 h2 hk)
  refine⟨_,rfl,⟨t,_,rfl,g⟩,_,rfl,t,o,y,j,rfl,rfl,g.sq,hj,first,_,b,qAE (by rw[A0];lia),_,rfl,qAC sm hp,?_⟩
  rw[qA1];unfold qB9;rw[C5,z,C6,T0,O4,qD4 nd hj,B3]
  rfl
 ·refineλσ n m=>opq λa3 l=>?_;obtain⟨v0,rfl,sm,b⟩:=m;refine l ?_;rw[A0,O3] at b;refine⟨p,_,rfl,.inl ⟨SqL.of b,λr' a1=>?_⟩⟩;exact q r' _ (sm.trans (qA2 a1 _)) qA1
theorem sc_fewest:FnScope ["net","asked","works","part","wanted","rooms","end","reached"] ["net","asked"] (qAB qIM):=qBN
theorem ok_fewest (F:Fun K "fewest" "fewest" qIM f fd) (b2:Clb P w K mg base 1 qDW qH8 "all_needed" ["net","asked"] qT3) (b6:Clb P w K mg base 2 qE9 qGF "part_net" ["net","works"] qLH) (av:Clb P w K mg base 1 qCN qFL "part_numbers" ["works","asked"] qLI) (b4:Clb P w K mg base 4 qC3 qE8 "stands_reached" ["net","rooms"] qLG) (b1:Clb P w K mg base 2 qDB qJY "best_end" ["reached","asked"] (qSZ Pt)) (aw:Clb P w K mg base 1 qJZ qSD "plan_to" ["reached","stand"] qSU) (qAI:mg "tuple" = none):FnOk P w K mg base CX0 5 f fd ["net","asked"] (qXO Pt):=by
 refine F.okA sc_fewest λbb A an s H vs Q E hr h=>?_;obtain⟨a,t,l,u,rfl,ak,hN,wf,be,⟨hT,rA⟩,a1,q⟩:=h;have b9:Room 4 _:=hr;refine⟨_,(qA4 (qAF (i:=2) sc_fewest.nd rfl (d7 rfl) (qAD qEX rfl qAI qAM (qA0 (qAS b2 hr rfl (qA0 (pv 0) (qA0 (pv 1) qA3))) qA3))) (qA4 (qAF (i:=3) sc_fewest.nd rfl (E6 rfl) (qAS b6 hr rfl (qA0 (pv 0) (qA0 (pv 2) qA3)))) (qA4 (qAF (i:=4) sc_fewest.nd rfl (E6 rfl) (qAS av hr rfl (qA0 (pv 2) (qA0 (pv 1) qA3)))) (qA4 (qAF (i:=5) sc_fewest.nd rfl (E6 rfl) qA7) (qA4 (qAF (i:=6) sc_fewest.nd rfl (E6 rfl) qJC) (qA4 (qGT D9 (qE4 (qXY (pv 6))) (qA4 (qbC (i:=5) sc_fewest.nd rfl (E6 rfl) qA7 qbZ) (qA4 (qAF (i:=7) sc_fewest.nd rfl (E6 rfl) (qAS b4 hr rfl (qA0 (pv 3) (qA0 (pv 5) qA3)))) (qA6 (qAF (i:=6) sc_fewest.nd rfl (E6 rfl) (qAS b1 hr rfl (qA0 (pv 7) (qA0 (pv 4) qA3)))))))) (qA6 (qAH (qCX (qA0 (pv 5) (qA0 (qCR rfl (lcs (own:=["word","number"]) (fv:=[2]) (by kernel_rfl)) (qCS (qAS aw hr rfl (qA0 (pv 7) (qA0 (pv 6) qA3)))) (λz2=>qLT (K:=K) (n:=2) rfl rfl (qC1 (qBO 0) (qC1 (qBO 1) qHK)) rfl rfl) (λz2=>qB6) (λz2=>(qCX (qA0 (pv 0) (qA0 (qBQ (qJN (K:=K) rfl) (pv 2) (pv 1) (λ_ _=>rfl)) qA3))))) qA3))))))))))),?_⟩
 try dsimp only[Cx.nox,Cx.wish,cxOf]
 refine⟨_,rfl,_,rfl,a,t,l,u,rfl,hN,wf,by lia,hT,rA.in_,λla k H1 s1 bc az N=>?_⟩
 refine⟨la,_,rfl,SqL.of az,λtw ob b5 oc od=>?_⟩;have s2:=s1.trans (qA2 b5 (.frz ob (.tup (k.map V.int))));have v:BareT (Ag H1 tw (.frz ob (.tup (k.map V.int)))) tw (k.map V.int):=⟨ob,qA1,oc,od⟩;generalize Ag H1 tw (.frz ob (.tup (k.map V.int)))=H2 at s2 v;refine⟨_,rfl,_,rfl,a,tw,l,k,rfl,hN.same s2,wf,by lia,(let⟨o,e,_⟩:=v;.inr ⟨o,e⟩),N.1,λb H3 s3 hB=>?_⟩
 have ah:=s2.trans s3;have lw:=N.1.len;have ha:∀x∈u,x∈k:=λx hx=>(N.2 x).mpr (.ask hx);have am:=rA.len;refine⟨_,rfl,_,rfl,tw,t,k,u,rfl,v.same s3,ah _ _ hT,N.1.nodup,by lia,by lia,ha,λwt H4 s4 as=>?_⟩
 have a4:=ah.trans s4;have aj:=(v.same s3).same s4;have b0:=hB.same s4;have wp:WFn (qBB l k):=qBU wf N.1;have lp:=qB7 l k;have rW:=qHG N rA;have w1:1<=k.length:=by
  cases u with
  |nil=>simp at a1
  |cons x u=>exact V4 (ha x (by simp))
 have lW:=rW.len;refine⟨λm σ Hc=>∃(r:Nat) (e:V) (v7:Option V),σ=[some (.ref a),some (.ref t),some (.ref tw),some (.ref b),some (.ref wt),some (.int (r:Int)),some e,v7]/\Same H4 Hc/\
   ((e=.non/\m=k.length+1 - r/\r<=k.length/\∀ r':Int,1<=r'->r'<=(r:Int)->¬ qHD l k u r')\/
    (∃rr d o Af ks fu g st,e=.ref rr/\v7=some (.ref d)/\m=0/\Hc d=some (.frz o (.dT Af))/\EntX Hc Af ks fu g/\Rch (qBB l k) (r:Int) ks fu/\PrvH (qBB l k) (r:Int) ks fu g/\Hc rr=some (.tup (st.map V.int))/\(st∈ks/\∀x∈qB9 k u,x∈st)/\LeastR l k u (r:Int))),
  ⟨_,0,.non,none,rfl,Same.refl _,.inl ⟨rfl,rfl,E8 _,λr' h1 h2=>absurd h1 (by lia)⟩⟩,?_⟩
 refineλm σ Hc ae=>opq λba ac=>?_;obtain⟨r,e,v7,rfl,sm,ao⟩:=ae;refine ac ?_;rcases ao with⟨rfl,rfl,rn,nb⟩|⟨rr,d,o,Af,ks,fu,g,st,rfl,rfl,rfl,gd,ent,y,FR,a3,B,LR⟩
 ·refine⟨_,rfl,_,rfl,?_⟩;refine iteT ?_;refine qTZ λN0 a7=>?_;refine⟨_,rfl,_,_,rfl,rfl,?_⟩;refine⟨_,rfl,_,rfl,b,qBB l k,(r:Int)+1,rfl,b0.same sm,wp,by lia,λd o Af ks fu g H5 s5 bf gd ent y FR=>?_⟩
  have a0:=sm.trans s5;have lk:=y.len;have pw:2^(qBB l k).length<=2^12:=J7 (by decide) (by lia)
  refine⟨_,rfl,_,rfl,d,wt,o,Af,ks,fu,qB9 k u,rfl,a0 _ _ (a4 _ _ ak),gd,ent.ent,F3 lk (by lia),a0 _ _ as,by lia,λH6 s6=>⟨λhn=>?_,λrr st a3 ab a2 a6=>?_⟩⟩
  ·have nd:=qY3 N rA (qOC wp rW y hn);have ag:∀r':Int,1<=r'->r'<=((r+1:Nat):Int)->¬qHD l k u r':=λr' h1 h2=>by
    by_cases c:r'<=(r:Int)
    ·exact nb r' h1 c
    ·rw[show r'=((r+1:Nat):Int) by lia]
     exact nd
   have ax:r+1<=k.length:=by
    apply F0;intro z;exact ag (k.length:Int) (by lia) (by lia) (qUT wf N)
   exact a7 _ _ ⟨k.length+1-(r+1),by lia,r+1,.non,_,rfl,a0.trans s6,.inl ⟨rfl,rfl,ax,ag⟩⟩
  ·have dn:=qPB N rA (qOB wp rW y ab a2 a6);refine a7 _ _ ⟨0,by lia,r+1,.ref rr,_,rfl,a0.trans s6,.inr ⟨rr,d,o,Af,ks,fu,g,st,rfl,rfl,rfl,s6 _ _ gd,ent.same s6,y,FR,a3,⟨ab,a2⟩,by lia,dn,λr' h1 h2=>nb r' h1 (by lia)⟩⟩
 ·refine⟨_,rfl,_,rfl,?_⟩;refine iteF ?_;have lk:=y.len;have pw:2^(qBB l k).length<=2^12:=J7 (by decide) (by lia)
  refine⟨_,rfl,_,rfl,_,rfl,d,rr,o,Af,qBB l k,(r:Int),ks,fu,g,st,rfl,gd,ent,wp,y,FR,F3 lk (by lia),a3,B.1,λl0 H6 s6 bg PL=>?_⟩
  obtain⟨rs,ad,ML⟩:=PL;obtain⟨_,_,mv,b7⟩:=qOS wp y FR.1 B.1;have au:rs.length=(pth fu g st).length:=C3 ML;have a8:=(aj.same sm).same s6;refine⟨l0,rfl,⟨_,SqL.of ad⟩,λp hp=>?_⟩;have fp:H p=none:=((a4.trans sm).trans s6).free hp;refine qGC (p:=p) (a:=l0) (xs:=rs.map V.ref) (λj σ Hd=>∃(v0 v1:Option V) (ts:List Addr),σ=[v0,v1,some (.ref tw)]/\Same H6 Hd/\Hd p=some (.lst (ts.map V.ref))/\MovL Hd ts (renM k ((pth fu g st).take j))) ?_ ?_ ?_ ?_
  ·exact⟨none,none,[],rfl,qA2 hp _,qA1,.nil⟩
  ·rintro j σ Hd hj ⟨v0,v1,ts,rfl,sd,_⟩;exact SqL.of (sd _ _ ad)
  ·refineλj x σ Hd hx aa=>opq λbd a9=>?_;obtain⟨v0,v1,ts,rfl,sd,gp,MT⟩:=aa;obtain⟨aq,ar,rfl⟩:=qCV hx;obtain⟨⟨Ac,wk⟩,a5,hH⟩:=qB2 ML ar;refine a9 ?_;have hj:=(A4.mp a5).1;have al:=sd _ _ hH;dsimp only at al;obtain⟨_,w0,wb⟩:=mv _ (B0 a5);dsimp only at w0 wb;rw[lp] at wb;have hi:wk.toNat<k.length:=by lia
   have ay:atI (k.map V.int) wk=some (.int (renW k wk)):=by
    have e:=qFF (xs:=k.map V.int) (i:=wk) (x:=.int k[wk.toNat]) w0 (by rw[B6,A3 hi];rfl)
    rw[e];unfold renW;rw[A3 hi]
    rfl
   have lt:ts.length=(renM k ((pth fu g st).take j)).length:=C3 MT;unfold renM at lt;rw[A0,C4] at lt;refine⟨aq,_,rfl,SqT.of al,rfl,_,_,rfl,_,_,rfl,rfl,?_⟩;refine⟨_,rfl,_,rfl,_,rfl,tw,_,_,_,rfl,rfl,(a8.same sd).sq,ay,(by show 2<=B18;decide),λtp b3=>?_⟩
   have s7:=qA2 b3 (.tup [.str Ac,.int (renW k wk)]);refine⟨_,s7 _ _ gp,qBK (by rw[A0];lia),_,_,ts++[tp],rfl,qAC (sd.trans s7) hp,by rw[qA1,qBE],?_⟩
   have er:renM k ((pth fu g st).take (j+1))=renM k ((pth fu g st).take j)++[(Ac,renW k wk)]:=by
    unfold renM;rw[C5,a5,C6,B3]
    rfl
   rw[er];exact MovL.putG (U6 (MT.same s7) qA1) (s7 _ _ gp) λxs z=>by cases z
  ·refineλσ H7 af=>opq λb8 ai=>?_;obtain⟨v0,v1,ts,rfl,sd,gp,MT⟩:=af;refine ai ?_;rw[A0,au,O3] at MT;refine⟨(by show 2<=B18;decide),λT ap=>?_⟩
   have s8:=qA2 ap (.tup [.int (r:Int),.ref p]);exact q T p (r:Int) _ _ ((((a4.trans sm).trans s6).trans sd).trans s8) ⟨k,ks,fu,g,st,N,LR,y,FR.1,B,rfl⟩ fp ⟨ts,s8 _ _ gp,MT.same s8⟩ qA1
theorem qZ0:FnScope ["_law_state"] ["_law_state"] (qAB qQA):=qBN
theorem ok_Lfew (F:Fun K "_law_few" "_law_few" qQA f fd) (e:Clb P w K mg base 1 qE3 qDV "_law_take" ["_law_state","_law_many"] qGN) (u:Clb P w K mg base 3 qV0 qa4 "_law_net" ["_law_state","_law_many"] qb2) (qLB:mg "int" = none):FnOk P w K mg base CX0 4 f fd ["_law_state"] qXP:=by
 refine F.okA qZ0 λa3 A l s H vs Q E j h=>?_;obtain⟨d,c,t,ms,rfl,S2,tb,q⟩:=h;have a5:Room 3 _:=j;refine⟨_,(qA6 (qAH (qAS u j rfl (qA0 (pv 0) (qA0 (qBQ qCU (qBP (qA0 (qAN qDS qA7 (qAS e j rfl (qA0 (pv 0) (qA0 qA7 qA3)))) (qA0 (qAN qDS qA7 (qAS e j rfl (qA0 (pv 0) (qA0 qA7 qA3)))) qA3))) (qAD qHC rfl qLB qO6 (qA0 (qCT qFC (qAS e j rfl (qA0 (pv 0) (qA0 qA7 qA3))) qA7 (qAW _)) qA3)) (λ_ _=>rfl)) qA3))))),?_⟩
 try dsimp only[Cx.nox,Cx.wish,cxOf]
 have a4:t<=1000000000-20000:=tb;refine⟨_,rfl,_,rfl,d,c,t,ms,7,rfl,S2,(by show t<=1000000000;lia),by decide,by decide,λg m H0 a0 a1 S0 K0=>?_⟩
 refine⟨_,_,rfl,rfl,_,rfl,d,c,t+1,m,3,rfl,S0,(by show t+1<=1000000000;lia),by decide,by decide,λb v y b0 b1 n K1=>?_⟩
 refine⟨_,_,rfl,rfl,(by show 2<=B18;decide),λp x=>?_⟩
 have s0:=qA2 x (.lst [.int (1+g),.int (8+b)]);have gp:(Ag y p (.lst [.int (1+g),.int (8+b)])) p=some (.lst [.int (1+g),.int (8+b)]):=qA1;have r:p≠d:=(qA5 n.dict x).symm;have a2:p≠c:=(qA5 n.list x).symm;have i:=n.same s0;have k:Keep d c H (Ag y p (.lst [.int (1+g),.int (8+b)])):=(K0.trans K1).trans (.of_same s0);generalize Ag y p (.lst [.int (1+g),.int (8+b)])=H2 at gp i k;refine⟨_,rfl,d,c,t+1+1,v,8,rfl,i,(by show t+1+1<=1000000000;lia),by decide,by decide,λk2 z H3 c0 c1 S3 K3=>?_⟩
 refine⟨rfl,.inr ⟨_,rfl,p,_,_,_,rfl,rfl,SqL.of (K3 _ _ gp r a2),qbF _,?_⟩⟩;have vb:1<=(if decide (V.int k2=V.int 0)=true then 8+b else 1+g)/\(if decide (V.int k2=V.int 0)=true then 8+b else 1+g)<=10:=by
  split<;>lia
 refine⟨d,c,t+1+1+1,z,_,rfl,S3,(by show t+1+1+1<=1000000000-10000;lia),vb.1,by lia,λa Ae t2 o H4 S4 g1 g2 K4 hN wf nk=>?_⟩
 exact q a Ae t2 o H4 S4 (by lia) (by lia) ((k.trans K3).trans K4) hN wf (by lia) (by lia)
theorem qN7:FnScope ["thing"] ["thing"] (qAB qEH):=qBN
theorem ok_is_number (F:Fun K "is_number" "is_number" qEH f fd) (qAT:mg "isinstance" = none) (qLB:mg "int" = none) (qKE:mg "bool" = none):FnOk P w K mg base CX0 1 f fd ["thing"] qQ1:=by
 refine F.okA qN7 λb A a s H c Q E d h=>?_;obtain⟨i,rfl,q⟩:=h;refine⟨_,(qA6 (qAH (qJD (qA9 qBT rfl qAT qBM (qA0 (pv 0) (qA0 (qGB (v:=.ty "int") rfl qLB qO6 rfl) qA3))) (qI2 (qQN (qA9 qBT rfl qAT qBM (qA0 (pv 0) (qA0 (qGB (v:=.ty "bool") rfl qKE qPT rfl) qA3)))))))),?_⟩
 try dsimp only[Cx.nox,Cx.wish,cxOf]
 refine⟨_,rfl,_,"int",_,true,rfl,TyOf.int i,qbT,_,rfl,?_⟩;refine⟨_,rfl,_,"bool",_,false,rfl,TyOf.int i,qbU,_,rfl,?_⟩;exact q
theorem qOP:FnScope ["thing","end"] ["thing","end"] (qAB qFW):=qBN
theorem ok_is_below (F:Fun K "is_below" "is_below" qFW f fd) (a:Clb P w K mg base 1 qGG qNR "is_number" ["thing"] qQ1):FnOk P w K mg base CX0 2 f fd ["thing","end"] qT0:=by
 refine F.okA qOP λd A b s H j Q E c h=>?_;obtain⟨i,k,rfl,g,e,q⟩:=h;refine⟨_,(qA6 (qAH (qJD (qAS a c rfl (qA0 (pv 0) qA3)) (qI2 (qWF qbN qNC qA7 (pv 0) (pv 1)))))),?_⟩
 try dsimp only[Cx.nox,Cx.wish,cxOf]
 refine⟨_,rfl,i,rfl,_,rfl,?_⟩;refine⟨_,rfl,_,_,rfl,rfl,_,rfl,?_⟩;rw[decide_eq_true g];refine⟨_,rfl,_,_,rfl,rfl,?_⟩;dsimp only;rw[decide_eq_true e];exact q
theorem sc_is_rising:FnScope ["thing","end","least","number"] ["thing","end"] (qAB qEG):=qBN
theorem ok_is_rising (F:Fun K "is_rising" "is_rising" qEG f fd) (y:Clb P w K mg base 2 qHU qPH "is_below" ["thing","end"] qT0) (qAT:mg "isinstance" = none) (qAI:mg "tuple" = none):FnOk P w K mg base CX0 3 f fd ["thing","end"] qJ2:=by
 refine F.okA sc_is_rising λa5 A r s H vs Q E hr h=>?_;obtain⟨a,c,k,rfl,t,o,hl,q⟩:=h;refine⟨_,(qA4 (qC0 (qGS (qF1 (qA9 qO4 rfl qAT qBM (qA0 (pv 0) (qA0 (qGB (v:=.ty "tuple") rfl qAI qAM rfl) qA3))))) (qA6 (qAH qF3)) qAR) (qA4 (qAF (i:=2) sc_is_rising.nd rfl (E6 rfl) qA7) (qA4 (qBX D9 rfl (qE5 (pv 0)) (qAZ (i:=3) sc_is_rising.nd rfl (E6 rfl)) (qA4 (qC0 (PW.pt (qOR (qGS (qF1 (qAS y hr rfl (qA0 (pv 3) (qA0 (pv 1) qA3))))) (qJ9 (qAQ qNC (pv 3) (pv 2) (qAW _))))) (qA6 (qAH qF3)) qAR) (qA6 (qAF (i:=2) sc_is_rising.nd rfl (E6 rfl) (qAN qDS (pv 3) qA7))))) (qA6 (qAH qF3))))),?_⟩
 try dsimp only[Cx.nox,Cx.wish,cxOf]
 refine⟨_,rfl,_,"tuple",_,true,rfl,.inr ⟨a,_,rfl,t,rfl⟩,qY5 true,_,rfl,?_⟩;refine⟨_,rfl,a,rfl,⟨_,.inl t⟩,qHS (a:=a) (xs:=c.map V.int) (λi σ p=>∃(least:Int) (v3:Option V),σ=[some (.ref a),some (.int k),some (.int least),v3]/\p=H/\∀(x:Int),x∈c.drop i->least<=x)
  ⟨0,none,rfl,rfl,λx n=>(o.in_ x n).1⟩ ?_ ?_ ?_⟩
 ·refineλi σ p hi m=>opq λa1 e=>?_;obtain⟨least,v3,rfl,rfl,_⟩:=m;refine e ?_;exact .inl t
 ·refineλi x σ p n d=>opq λa2 b=>?_;obtain⟨least,v3,rfl,rfl,u⟩:=d;obtain⟨z,hz,rfl⟩:=qBH n;refine b ?_;have g:=B0 hz;obtain⟨a0,ez⟩:=A4.mp hz;have ed:c.drop i=z::c.drop (i+1):=by rw[J6 a0,ez]
  refine⟨_,rfl,_,rfl,z,k,rfl,(o.in_ z g).1,(o.in_ z g).2,?_⟩;refine⟨_,rfl,_,rfl,_,rfl,_,_,rfl,rfl,_,rfl,?_⟩;have a4:least<=z:=u z (by rw[ed];exact E7 ..)
  rw[decide_eq_false (by lia:¬z<least)]
  refine⟨_,rfl,_,_,rfl,rfl,?_⟩;refine⟨z+1,_,rfl,rfl,λx n=>?_⟩;have up:=o.up.sublist (U0 i c);rw[ed,P0] at up;have:=up.1 x n
  lia
 ·refineλσ p l=>opq λa3 j=>?_;obtain⟨least,v3,rfl,rfl,_⟩:=l;refine j ?_;exact q _ (.refl _)
theorem qRP:FnScope ["thing"] ["thing"] (qAB qGP):=qBN
theorem ok_is_pair (F:Fun K "is_pair" "is_pair" qGP f fd) (qAT:mg "isinstance" = none) (qAI:mg "tuple" = none) (qB5:mg "len" = none):FnOk P w K mg base CX0 1 f fd ["thing"] qN2:=by
 refine F.okA qRP λd A b s H e Q E g h=>?_;obtain⟨a,x,y,rfl,c,q⟩:=h;refine⟨_,(qA6 (qAH (qJD (qA9 qBT rfl qAT qBM (qA0 (pv 0) (qA0 (qGB (v:=.ty "tuple") rfl qAI qAM rfl) qA3))) (qI2 (qCT qFC (qA9 qA8 rfl qB5 qB1 (qA0 (pv 0) qA3)) qA7 (qAW _)))))),?_⟩
 try dsimp only[Cx.nox,Cx.wish,cxOf]
 refine⟨_,rfl,_,"tuple",_,true,rfl,TyOf.tup c,qY5 true,_,rfl,?_⟩;refine⟨_,rfl,a,_,rfl,.inr (SqT.of c),rfl,?_⟩;exact q
theorem qOO:FnScope ["net","rooms","thing"] ["net","rooms","thing"] (qAB qFV):=qBN
theorem ok_is_stand (F:Fun K "is_stand" "is_stand" qFV f fd) (c:Clb P w K mg base 3 qES qI4 "is_rising" ["thing","end"] qJ2) (qB5:mg "len" = none):FnOk P w K mg base CX0 4 f fd ["net","rooms","thing"] qN1:=by
 refine F.okA qOO λu A b s H y Q E r h=>?_;obtain⟨a,t,v,z,j,rfl,p,n,e,g,k,q⟩:=h;obtain⟨x,o,l⟩:=id p;have d:=C3 l;have m:=g.len;refine⟨_,(qA6 (qAH (qJD (qAS c r rfl (qA0 (pv 2) (qA0 (qA9 qA8 rfl qB5 qB1 (qA0 (pv 0) qA3)) qA3))) (qI2 (qCT qbN (qA9 qA8 rfl qB5 qB1 (qA0 (pv 2) qA3)) (pv 1) (qAW _)))))),?_⟩
 try dsimp only[Cx.nox,Cx.wish,cxOf]
 refine⟨_,rfl,_,rfl,a,_,rfl,.inr (SqT.of o),?_⟩;rw[A0,d];refine⟨t,j,_,rfl,.inl e,g,by lia,λH1 i=>⟨_,rfl,?_⟩⟩
 refine iteT ?_;refine⟨_,rfl,t,_,rfl,.inr (SqT.of (i _ _ e)),_,rfl,_,_,rfl,rfl,?_⟩;dsimp only;rw[A0,decide_eq_true k];exact q _ i
theorem keyT {Af:List (List Key×V)}{z s:List Int}:(valV (putK Af (keyS z) (.bl true)) (keyS s)).isSome=(decide (s=z)||(valV Af (keyS s)).isSome):=by
 rw[qIJ];by_cases e:s=z
 ·rw[e,if_pos rfl,decide_eq_true rfl];rfl
 ·rw[if_neg λh=>e (qH0 h),decide_eq_false e,A99]
theorem keyL {Af:List (List Key×V)}{z:List Int}:∀{ks:List (List Int)},Af.map (·.1)=ks.map keyS->(putK Af (keyS z) (.bl true)).map (·.1)=(if z∈ks then ks else ks++[z]).map keyS:=by
 intro ks h;have i:(Af.any λa=>decide (a.1=keyS z))=decide (z∈ks):=by
  rw[J4,decide_eq_true_eq,X7]
  constructor
  ·refineλb=>opq λg c=>?_;obtain⟨a,f,d⟩:=b;refine c ?_;have:a.1∈ks.map keyS:=by rw[<- h];exact X8 f
   obtain⟨y,k,e⟩:=D8.mp this;rw[of_decide_eq_true d] at e;rw[<- qH0 e];exact k
  ·intro j;have:keyS z∈Af.map (·.1):=by rw[h];exact X8 j
   obtain⟨a,f,d⟩:=D8.mp this;exact⟨a,f,decide_eq_true d⟩
 unfold putK;rw[i];by_cases e:z∈ks
 ·rw[decide_eq_true e,if_pos rfl,if_pos e,<- h,Y3];refine R1 λa _=>?_;show(if a.1=keyS z then(a.1,V.bl true) else a).1=a.1
  split<;>rfl
 ·rw[decide_eq_false e,if_neg (by decide),if_neg e,B3,B3,h]
  rfl
theorem sc_are_closed:FnScope ["net","rooms","stands","known","stand","move"] ["net","rooms","stands"] (qAB qDO):=qBN
theorem ok_are_closed (F:Fun K "are_closed" "are_closed" qDO f fd) (ao:Clb P w K mg base 3 qG2 qJX "moves_of" ["net","rooms","stand"] qJ3) (ap:Clb P w K mg base 1 qCM qFK "stand_behind" ["stand","move"] qJ4):FnOk P w K mg base CX0 4 f fd ["net","rooms","stands"] qQ5:=by
 refine F.okA sc_are_closed λau A ah s H vs Q E hr h=>?_;obtain⟨a,l,Ae,Aa,aq,rs,ss,rfl,hN,wf,az,gl,SL,l5,NV,q⟩:=h;have hu:=qIG hr;refine⟨_,(qA4 (qAF (i:=3) sc_are_closed.nd rfl (E6 rfl) qWE) (qA4 (qBX D9 rfl (qCS (pv 2)) (qAZ (i:=4) sc_are_closed.nd rfl (E6 rfl)) (qA6 (qEL hu (pv 3) (pv 4) qF3 rfl))) (qA4 (qBX D9 rfl (qQL (qTL (pv 3))) (qAZ (i:=4) sc_are_closed.nd rfl (E6 rfl)) (qA6 (qBX D9 rfl (qCS (qAS ao hr rfl (qA0 (pv 0) (qA0 (pv 1) (qA0 (pv 4) qA3))))) (qAZ (i:=5) sc_are_closed.nd rfl (E6 rfl)) (qA6 (qC0 (qE4 (qF9 hu (qAS ap hr rfl (qA0 (pv 4) (qA0 (pv 5) qA3))) (pv 3))) (qA6 (qAH qF3)) qAR))))) (qA6 (qAH qF3))))),?_⟩
 try dsimp only[Cx.nox,Cx.wish,cxOf]
 refine cut λN0 ai=>?_;intro b g;have s1:=qA2 g (.dT []);have g1:(Ag H b (.dT [])) b=some (.dT []):=qA1;generalize Ag H b (.dT [])=H1 at s1 g1 ⊢;refine ai _ _ (cut λN1 an=>?_);have am:rs.length=ss.length:=C3 SL;refine⟨_,rfl,l,rfl,⟨_,SqL.of (s1 _ _ gl)⟩,qIS (a:=l) (xs:=rs.map V.ref) (λi σ c=>∃(Af:List (List Key×V)) (ks:List (List Int)) (v4:Option V),σ=[some (.ref a),some (.int Aa),some (.ref l),some (.ref b),v4,none]/\Same H c/\c b=some (.dT Af)/\Af.map (·.1)=ks.map keyS/\(∀z:List Int,(valV Af (keyS z)).isSome=true↔z∈ss.take i)/\ks.length<=i/\∀z∈ks,z∈ss)
  ⟨[],[],none,rfl,s1,g1,rfl,λz=>by simp[valV],A7 _,λz hz=>nomatch hz⟩ (λi σ c _ hP=>by obtain⟨_,_,_,_,n,_⟩:=hP;exact SqL.of (n _ _ gl)) ?_ ?_⟩
 ·refineλi x σ c hx u=>opq λaw p=>?_;obtain⟨Af,ks,v4,rfl,n,gd,ek,vk,lk,ik⟩:=u;obtain⟨r,er,rfl⟩:=qCV hx;obtain⟨z,ez,gz⟩:=qB2 SL er;refine p ?_;have hi:=(A4.mp ez).1;have ax:Af.length=ks.length:=by have:=congrArg U4 ek;rw[A0,A0] at this;exact this
  have ag:c r=some (.tup ((keyS z).map kV)):=by rw[qDI];exact n _ _ gz
  refine⟨_,rfl,_,rfl,b,_,rfl,DPut.t (k:=keyS z) gd ag (qBK (by lia)),?_⟩
  refine⟨_,_,_,rfl,qAC n g,qA1,keyL ek,λy=>?_,?_,λy hy=>?_⟩
  ·rw[keyT,P9,decide_eq_true_eq,vk,C5,ez,C6,A8,A6];exact or_comm
  ·split
   ·lia
   ·rw[A9];show _+1<=_
    lia
  ·by_cases e:z∈ks
   ·rw[if_pos e] at hy;exact ik y hy
   ·rw[if_neg e] at hy;rcases A8.mp hy with h|h
    ·exact ik y h
    ·rw[A6.mp h];exact B0 ez
 ·refineλσ c ab=>opq λb2 a6=>?_;obtain⟨Af,ks,v4,rfl,n,gd,ek,vk,lk,ik⟩:=ab;refine a6 ?_;rw[A0,am,O3] at vk;refine an _ _ (cut λN2 aj=>?_);refine⟨_,rfl,b,_,rfl,gd,λo=>⟨b,o,_,rfl,qA1,?_⟩⟩;have sd:Same H (Ag c b (.frz o (.dT Af))):=qAC n g;have d:(Ag c b (.frz o (.dT Af))) b=some (.frz o (.dT Af)):=qA1;generalize Ag c b (.frz o (.dT Af))=Hd at sd d ⊢;refine qSC (a:=b) (o:=o) (Af:=Af) (λi σ He=>∃(v4 v5:Option V),σ=[some (.ref a),some (.int Aa),some (.ref l),some (.ref b),v4,v5]/\Same Hd He)
   ⟨v4,none,rfl,.refl _⟩ (λi σ He _ ⟨_,_,_,z⟩=>z _ _ d) ?_ ?_
  ·refineλi k v r σ He af gr a9=>opq λas a8=>?_;obtain⟨v4,v5,rfl,se⟩:=a9;refine a8 ?_;have hk:k∈ks.map keyS:=by rw[<- ek];exact X8 (f:=λx:List Key×V=>x.1) (B0 af)
   obtain⟨z,hz,rfl⟩:=D8.mp hk;rw[qDI] at gr;have a5:=ik z hz;have rz:=NV.rise z a5;have lz:=rz.len;refine⟨_,rfl,_,rfl,_,rfl,a,r,Ae,z,Aa,rfl,hN.same (sd.trans se),wf,by lia,gr,by lia,λlm rm H3 s3 fl gm ML=>?_⟩
   have b1:rm.length=(qCW Ae z Aa).length:=C3 ML;refine⟨lm,rfl,⟨_,SqL.of gm⟩,qIS (a:=lm) (xs:=rm.map V.ref) (λk σ Hf=>∃(v5:Option V),σ=[some (.ref a),some (.int Aa),some (.ref l),some (.ref b),some (.ref r),v5]/\Same H3 Hf)
    ⟨v5,rfl,.refl _⟩ (λk σ Hf _ hP=>by obtain⟨_,_,zf⟩:=hP;exact SqL.of (zf _ _ gm)) ?_ ?_⟩
   ·refineλk x σ Hf hx a1=>opq λb0 ad=>?_;obtain⟨v5,rfl,j⟩:=a1;obtain⟨mv,ak,rfl⟩:=qCV hx;obtain⟨⟨Ac,wk⟩,a7,a2⟩:=qB2 ML ak;refine ad ?_;dsimp only at a2;have hw:=(due_iff.mp (B0 a7)).1.1;refine⟨_,rfl,_,rfl,r,mv,z,Ac,wk,rfl,j _ _ (s3 _ _ gr),by lia,j _ _ a2,hw,λr2 ay H4 s4 a0 al=>?_⟩
    have e2:=qYG (m:=(Ac,wk)) rz hw al;rw[e2] at a0;have ae:=(vk _).mpr (NV.shut z a5 _ (B0 a7));refine⟨_,rfl,b,_,rfl,.inr ⟨Af,keyS (behL z (Ac,wk)),r2,.inr ⟨o,s4 _ _ (j _ _ (s3 _ _ (se _ _ d)))⟩,rfl,by rw[qDI];exact a0,rfl⟩,_,rfl,?_⟩
    rw[ae];exact⟨_,rfl,j.trans s4⟩
   ·refineλσ Hf a4=>opq λav a3=>?_;obtain⟨v5,rfl,j⟩:=a4;refine a3 ?_;exact⟨_,_,rfl,se.trans (s3.trans j)⟩
  ·refineλσ He aa=>opq λar ac=>?_;obtain⟨v4,v5,rfl,se⟩:=aa;refine ac ?_;exact aj _ _ (q _ (sd.trans se))
theorem qID:FnScope ["net","wanted","rooms","stands"] ["net","wanted","rooms","stands"] (qAB qCA):=qBN
theorem ok_never_come_to (F:Fun K "never_come_to" "never_come_to" qCA f fd) (ab:Clb P w K mg base 4 qHT qPG "is_stand" ["net","rooms","thing"] qN1) (ai:Clb P w K mg base 4 qFN qM6 "are_closed" ["net","rooms","stands"] qQ5) (qEF:Clb P w K mg base 1 qHA qL3 "has_all" ["results","works"] qSX) (qAT:mg "isinstance" = none) (ak:mg "list" = none) (ah:mg "all" = none) (ae:mg "any" = none):FnOk P w K mg base CX0 5 f fd ["net","wanted","rooms","stands"] qKI:=by
 refine F.okA qID λar A aa s H vs Q E hr h=>?_;obtain⟨a,lw,l,Ae,Aa,j,o,ss,rfl,hN,wf,a1,gw,ad,k,SL,l5,NV,q⟩:=h;have u:=hr.units;refine⟨_,(qA4 (qC0 (PW.pt (qOR (qGS (qF1 (qA9 qBT rfl qAT qBM (qA0 (pv 3) (qA0 (qGB (v:=.ty "list") rfl ak qPS rfl) qA3))))) (qJ9 (qGS (qF1 (qA9 (qRC rfl) rfl ah qYF (qA0 (qCR rfl (lcs (own:=["stand"]) (fv:=[0,2]) (by kernel_rfl)) (qCS (pv 3)) (λz1=>qBO 0) (λz1=>qB6) (λz1=>(qAS ab hr rfl (qA0 (pv 1) (qA0 (pv 2) (qA0 (pv 0) qA3)))))) qA3))))))) (qA6 (qAH qF3)) qAR) (qA4 (qC0 (PW.pt (qOR (qAQ (qLY u) (qCX qA3) (pv 3) (by with_unfolding_all rfl)) (qJ9 (qGS (qF1 (qAS ai hr rfl (qA0 (pv 0) (qA0 (pv 2) (qA0 (pv 3) qA3))))))))) (qA6 (qAH qF3)) qAR) (qA6 (qAH (qQN (qA9 (qRB rfl) rfl ae qYE (qA0 (qCR rfl (lcs (own:=["stand"]) (fv:=[1]) (by kernel_rfl)) (qCS (pv 3)) (λz2=>qBO 0) (λz2=>qB6) (λz2=>(qAS qEF hr rfl (qA0 (pv 0) (qA0 (pv 1) qA3))))) qA3))))))),?_⟩
 try dsimp only[Cx.nox,Cx.wish,cxOf]
 have ag:o.length=ss.length:=C3 SL;refine cut λN0 ac=>?_;refine⟨_,rfl,_,"list",_,true,rfl,TyOf.lst k,rfl,_,rfl,?_⟩;refine⟨_,rfl,l,rfl,⟨_,SqL.of k⟩,λp hp=>?_⟩;refine qGC (p:=p) (a:=l) (xs:=o.map V.ref) (λi σ d=>∃(v:Option V),σ=[v,some (.ref a),some (.int Aa)]/\Same H d/\d p=some (.lst ((E9 i true).map V.bl))) ?_ ?_ ?_ ?_
 ·exact⟨none,rfl,qA2 hp _,qA1⟩
 ·rintro i σ d hi ⟨v,rfl,sm,_⟩;exact SqL.of (sm _ _ k)
 ·refineλi x σ d hx y=>opq λam t=>?_;obtain⟨v,rfl,sm,m⟩:=y;obtain⟨r,er,rfl⟩:=qCV hx;obtain⟨z,ez,gz⟩:=qB2 SL er;refine t ?_;have hi:=(A4.mp ez).1;have hz:=B0 ez;refine⟨_,rfl,_,rfl,_,rfl,a,r,Ae,Aa,z,rfl,hN.same sm,a1,sm _ _ gz,NV.rise z hz,NV.few z hz,λH2 s2=>?_⟩;refine⟨_,s2 _ _ m,qBK (by rw[A0,A08];lia),_,rfl,qAC (sm.trans s2) hp,?_⟩
  rw[qA1,List.replicate_succ',B3]
  rfl
 refineλσ d a6=>opq λao a5=>?_;obtain⟨v,rfl,sm,m⟩:=a6;refine a5 ?_;refine⟨p,_,rfl,SqL.of m,?_⟩;have al:((E9 (o.map V.ref).length true).all id)=true:=J5.mpr λx hx=>by rw[(List.mem_replicate.mp hx).2];rfl
 rw[al];refine⟨_,rfl,?_⟩;refine ac _ _ (cut λN1 aj=>?_);refine⟨(by show 0<=B18;decide),λe he=>?_⟩
 have n:=sm.trans (qA2 he (.tup []));have ge:(Ag d e (.tup [])) e=some (.tup (([]:List Int).map V.int)):=qA1;generalize Ag d e (.tup [])=H1 at n ge ⊢;refine⟨_,rfl,e,l,[],o,ss,rfl,rfl,ge,SqL.of (n _ _ k),SL.same n,_,rfl,?_⟩;rw[decide_eq_false (λh=>h NV.nil)];refine⟨_,rfl,_,rfl,_,rfl,a,l,Ae,Aa,[-1],o,ss,rfl,hN.same n,wf,a1,n _ _ k,SL.same n,l5,NV.nev1,λH2 s2=>⟨_,rfl,?_⟩⟩;have c:=n.trans s2;have af:=SL.same c;refine aj _ _ ?_;refine⟨_,rfl,l,rfl,⟨_,SqL.of (c _ _ k)⟩,λp2 a0=>?_⟩;refine qGC (p:=p2) (a:=l) (xs:=o.map V.ref) (λi σ d=>∃(v:Option V),σ=[v,some (.ref lw)]/\Same H2 d/\d p2=some (.lst (((ss.take i).map λz=>decide (∀x∈j,x∈z)).map V.bl))) ?_ ?_ ?_ ?_
 ·exact⟨none,rfl,qA2 a0 _,qA1⟩
 ·rintro i σ Hd hi ⟨v,rfl,sd,_⟩;exact SqL.of (sd _ _ (c _ _ k))
 ·refineλi x σ Hd hx a4=>opq λap a9=>?_;obtain⟨v,rfl,sd,g⟩:=a4;obtain⟨r,er,rfl⟩:=qCV hx;obtain⟨z,ez,gz⟩:=qB2 af er;refine a9 ?_;have hi:=(A4.mp ez).1;refine⟨_,rfl,_,rfl,false,r,lw,z,j,rfl,sd _ _ gz,.inl (sd _ _ (c _ _ gw)),ad,λH3 s3=>?_⟩;refine⟨_,s3 _ _ g,qBK (by rw[A0,A0,C4];lia),_,rfl,qAC (sd.trans s3) a0,?_⟩
  rw[qA1,C5,ez,C6,B3,B3]
  rfl
 refineλσ Hd a2=>opq λaq a7=>?_;obtain⟨v,rfl,sd,g⟩:=a2;refine a7 ?_;rw[A0,ag,O3] at g;refine⟨p2,_,rfl,SqL.of g,?_⟩;refine⟨_,rfl,q _ _ (c.trans sd) ?_⟩;rw[A62,G4,ne_eq,X7]
 constructor
 ·exactλh s hs al=>h ⟨_,D8.mpr ⟨s,hs,rfl⟩,decide_eq_true al⟩
 ·refineλh a3=>opq λan a8=>?_;obtain⟨b,hb,e⟩:=a3;obtain⟨s,hs,rfl⟩:=D8.mp hb;refine a8 ?_;exact h s hs (of_decide_eq_true e)
theorem qW8 {a:List Int}{x:Int}(h:x∉a):qC8 a x=none:=by
 cases e:qC8 a x with
 |none=>rfl
 |some p=>exact absurd (B0 (qGU e).2) h
theorem sc_shows_never:FnScope ["net","asked","rooms","thing","works","wanted"] ["net","asked","rooms","thing"] (qAB qD0):=qBN
theorem ok_shows_never (F:Fun K "shows_never" "shows_never" qD0 f fd) (a8:Clb P w K mg base 1 qK0 qSE "is_pair" ["thing"] qN2) (a7:Clb P w K mg base 3 qES qI4 "is_rising" ["thing","end"] qJ2) (aa:Clb P w K mg base 2 qE9 qGF "part_net" ["net","works"] qLH) (a9:Clb P w K mg base 5 qDL qII "never_come_to" ["net","wanted","rooms","stands"] qKI) (qB5:mg "len" = none):FnOk P w K mg base CX0 6 f fd ["net","asked","rooms","thing"] qLF:=by
 refine F.okA sc_shows_never λak A a4 s H vs Q E hr h=>?_;obtain⟨a,t,T,r,l,Ae,m,d,Aa,rs,ss,rfl,hN,wf,aj,⟨hT,rA⟩,PN,v,ae,l5,NV,q⟩:=h;refine⟨_,(qA4 (qC0 (PW.pt (qOR (qGS (qF1 (qAS a8 hr rfl (qA0 (pv 3) qA3)))) (qJ9 (qGS (qF1 (qAS a7 hr rfl (qA0 (qBQ qCD (pv 3) qA7 (λ_ _=>rfl)) (qA0 (qA9 qA8 rfl qB5 qB1 (qA0 (pv 0) qA3)) qA3)))))))) (qA6 (qAH qF3)) qAR) (qA4 (qAF (i:=4) sc_shows_never.nd rfl (d7 rfl) (qBQ qCD (pv 3) qA7 (λ_ _=>rfl))) (qA4 (qOT (i:=5) sc_shows_never.nd rfl rfl rfl (lcs (own:=["work"]) (fv:=[4]) (by kernel_rfl)) (qE5 (pv 1)) (λz1=>qBO 0) (λz1=>(qDF (qAQ (qTS (K:=K) rfl) (pv 0) (pv 1) (by with_unfolding_all rfl)))) (λz1=>(qXX (X:=lcCx _ _ _ _ z1) w6 y4 y7 (qJK (K:=K) rfl) (pv 1) (qA0 (pv 0) qA3))) (by kernel_rfl)) (qA6 (qAH (qJD (qCT qRV (qA9 qA8 rfl qB5 qB1 (qA0 (pv 5) qA3)) qA7 (qAW _)) (qI2 (qAS a9 hr rfl (qA0 (qAS aa hr rfl (qA0 (pv 0) (qA0 (pv 4) qA3))) (qA0 (pv 5) (qA0 (pv 2) (qA0 (qBQ qCD (pv 3) qA7 (λ_ _=>rfl)) qA3)))))))))))),?_⟩
 try dsimp only[Cx.nox,Cx.wish,cxOf]
 obtain⟨ra,hA,NL⟩:=id hN;have ad:=C3 NL;have ai:=v.len;have lA:=rA.len;have gT:=PN.tup;have a0:Rd H r (.tup (d.map V.int)):=(let⟨o,e,_⟩:=PN.works;.inr ⟨o,e⟩)
 refine cut λN0 a6=>?_;refine⟨_,rfl,T,_,_,rfl,gT,_,rfl,?_⟩;refine⟨_,rfl,T,_,_,_,rfl,rfl,SqT.of gT,rfl,_,rfl,a,_,rfl,.inr (SqT.of hA),?_⟩;rw[A0,ad];refine⟨r,d,_,rfl,a0,v,by lia,λH1 s1=>⟨_,rfl,?_⟩⟩
 refine a6 _ _ (cut λN1 ab=>?_);refine⟨_,rfl,T,_,_,_,rfl,rfl,SqT.of (s1 _ _ gT),rfl,?_⟩;refine ab _ _ (cut λN2 ac=>?_);refine⟨_,rfl,t,rfl,⟨_,SqT.of (s1 _ _ hT)⟩,λp hp=>?_⟩;refine qG7 (p:=p) (a:=t) (xs:=m.map V.int) (λi σ Hc=>∃(v0:Option V),σ=[v0,some (.ref r)]/\Same H1 Hc/\Hc p=some (.lst ((qB9 d (m.take i)).map V.int))) ?_ ?_ ?_ ?_
 ·exact⟨none,rfl,qA2 hp _,qA1⟩
 ·rintro i σ Hc hi ⟨v0,rfl,sm,_⟩;exact SqT.of (sm _ _ (s1 _ _ hT))
 ·refineλi x σ Hc hx a1=>opq λaf z=>?_;obtain⟨v0,rfl,sm,g⟩:=a1;obtain⟨y,ey,rfl⟩:=qBH hx;refine z ?_;have lt:=(A4.mp ey).1;have u:=(PN.works.same s1).same sm;have lk:(qB9 d (m.take i)).length<=i:=F3 (O6 _ _) (by rw[C4];lia)
  have tk:qB9 d (m.take (i+1))=qB9 d (m.take i)++(qC8 d y).toList:=by
   unfold qB9;rw[C5,ey,C6,T0];cases e:qC8 d y<;>simp[e]
  refine⟨_,rfl,_,rfl,r,_,rfl,.inr u.sq,rfl,qFJ d,_,rfl,?_⟩;rw[qJQ];by_cases cy:y∈d
  ·rw[decide_eq_true cy];obtain⟨j,hj⟩:=F9 cy;have first:∀k,k<j->d[k]?≠some y:=λk hk e=>by
    obtain⟨h1,e1⟩:=A4.mp e;obtain⟨h2,e2⟩:=A4.mp hj;exact absurd (e1.trans e2.symm) (G2.mp v.nodup k j h1 h2 hk)
   refine iteT ?_;refine⟨_,rfl,⟨r,_,rfl,u⟩,_,rfl,r,d,y,j,rfl,rfl,u.sq,hj,first,_,g,qAE (by rw[A0];lia),_,rfl,qAC sm hp,?_⟩
   rw[qA1,tk,qD4 v.nodup hj,B3]
   rfl
  ·rw[decide_eq_false cy];refine iteF ?_;refine⟨_,rfl,sm,?_⟩;rw[tk,qW8 cy,g];simp
 refineλσ Hc a3=>opq λag a2=>?_;obtain⟨v0,rfl,sm,g⟩:=a3;refine a2 ?_;rw[A0,O3] at g;have s2:=s1.trans sm;have ah:(qB9 d m).length<=m.length:=O6 _ _;have w0:0<(qB9 d m).length:=m5.mpr ae;refine ac _ _ ?_;refine⟨_,rfl,p,_,rfl,.inl (SqL.of g),_,_,rfl,rfl,_,rfl,?_⟩;rw[A0];refine ite2 (λ_=>?_) (λc=>?_)
 ·refine⟨_,rfl,_,rfl,a,r,Ae,d,rfl,hN.same s2,wf,by lia,a0.same s2,v,λb H3 s3 hB=>?_⟩
  have n:=s2.trans s3;have a5:=n _ _ gT;refine⟨_,rfl,_,rfl,_,rfl,T,_,_,_,rfl,rfl,SqT.of a5,rfl,?_⟩;refine⟨b,p,l,qBB Ae d,Aa,qB9 d m,rs,ss,rfl,hB,qBU wf v,by rw[qB7];lia,s3 _ _ g,by lia,n _ _ PN.lst,PN.at_.same n,l5,NV,λb H4 s4 hb=>?_⟩
  exact q _ _ (n.trans s4) hb
 ·exact absurd (decide_eq_true (show(0:Int)<((qB9 d m).length:Int) by lia)) c
theorem sc_never_paper:FnScope ["net","asked","rooms","works","reached"] ["net","asked","rooms"] (qAB qD1):=qBN
theorem ok_never_paper (F:Fun K "never_paper" "never_paper" qD1 f fd) (ao:Clb P w K mg base 1 qDW qH8 "all_needed" ["net","asked"] qT3) (ar:Clb P w K mg base 2 qE9 qGF "part_net" ["net","works"] qLH) (ah:Clb P w K mg base 1 qCN qFL "part_numbers" ["works","asked"] qLI) (ap:Clb P w K mg base 4 qC3 qE8 "stands_reached" ["net","rooms"] qLG) (an:Clb P w K mg base 2 qDB qJY "best_end" ["reached","asked"] (qSZ Pt)) (qAI:mg "tuple" = none) (aj:mg "sorted" = none):FnOk P w K mg base CX0 5 f fd ["net","asked","rooms"] (qQ2 Pt):=by
 refine F.okA sc_never_paper λau A ab s H vs Q E r h=>?_;obtain⟨a,t,u,Ad,ws,Aa,rfl,a7,hN,wf,aw,⟨hT,rA⟩,a1,N,q1,q2⟩:=h;have v:=r.units;refine⟨_,(qA4 (qAF (i:=3) sc_never_paper.nd rfl (E6 rfl) (qAD qEX rfl qAI qAM (qA0 (qAS ao r rfl (qA0 (pv 0) (qA0 (pv 1) qA3))) qA3))) (qA4 (qAF (i:=4) sc_never_paper.nd rfl (E6 rfl) (qAS ap r rfl (qA0 (qAS ar r rfl (qA0 (pv 0) (qA0 (pv 3) qA3))) (qA0 (pv 2) qA3)))) (qA4 (qC0 (qE4 (qOZ (qAS an r rfl (qA0 (pv 4) (qA0 (qAS ah r rfl (qA0 (pv 3) (qA0 (pv 1) qA3))) qA3))))) (qA6 (qAH qJC)) qAR) (qA6 (qAH (qCX (qA0 (pv 3) (qA0 (qA9 (L2.G.call_sortedTD rfl v) rfl aj qED (qA0 (pv 4) qA3)) qA3)))))))),?_⟩
 try dsimp only[Cx.nox,Cx.wish,cxOf]
 refine cut λN0 ac=>?_;refine⟨_,rfl,_,rfl,a,t,u,Ad,rfl,hN,wf,by lia,hT,rA.in_,λla c H1 s1 av ai N'=>?_⟩
 have ew:=qKR N' N;subst ew;refine⟨la,_,rfl,SqL.of ai,λl ob aq oc od=>?_⟩;have s2:=s1.trans (qA2 aq (.frz ob (.tup (c.map V.int))));have m:BareT (Ag H1 l (.frz ob (.tup (c.map V.int)))) l (c.map V.int):=⟨ob,qA1,oc,od⟩;generalize Ag H1 l (.frz ob (.tup (c.map V.int)))=H2 at s2 m ⊢;refine ac _ _ (cut λN1 al=>?_);refine⟨_,rfl,_,rfl,a,l,u,c,rfl,hN.same s2,wf,by lia,(let⟨o,e,_⟩:=m;.inr ⟨o,e⟩),N.1,λb H3 s3 hB=>?_⟩
 have am:=s2.trans s3;have lw:=N.1.len;have wp:WFn (qBB u c):=qBU wf N.1;have lp:=qB7 u c;have ha:∀x∈Ad,x∈c:=λx hx=>(N.2 x).mpr (.ask hx);have aa:=rA.len;have rW:=qHG N rA;have lW:=rW.len;refine⟨_,rfl,b,qBB u c,Aa,rfl,hB,wp,by lia,λd o Af ks fu gX H4 s4 ax gd a4 RC FR=>?_⟩
 have ent:=a4.ent;have a2:=am.trans s4;have g:=(m.same s3).same s4;have lk:=RC.len;have pw:2^(qBB u c).length<=2^12:=J7 (by decide) (by lia)
 refine al _ _ (cut λN2 ae=>?_);refine⟨_,rfl,_,rfl,_,rfl,l,t,c,Ad,rfl,g,a2 _ _ hT,N.1.nodup,by lia,by lia,ha,λwt H5 s5 af=>?_⟩
 have q:=a2.trans s5;refine⟨d,wt,o,Af,ks,fu,qB9 c Ad,rfl,q _ _ a7,s5 _ _ gd,ent.same s5,F3 lk (by lia),af,by lia,λH6 s6=>⟨λhn=>?_,λrr st as ag a9 p=>?_⟩⟩
 ·have nd:=qY3 N rA (qOC wp rW RC hn);have a0:=q.trans s6;refine⟨_,rfl,iteF (ae _ _ ?_)⟩;refine⟨_,rfl,_,rfl,d,o,Af,ks,rfl,s6 _ _ (s5 _ _ gd),ent.keys1,FR.2,λn k L a5 TA pm ad=>?_⟩;have s7:=qA2 a5 (.lst (k.map V.ref));have a3:(Ag H6 n (.lst (k.map V.ref))) n=some (.lst (k.map V.ref)):=qA1;have ak:H n=none:=a0.free a5;have a6:StL (Ag H6 n (.lst (k.map V.ref))) k L:=Paired.mapP TA λ_ _ z=>s7 _ _ z;generalize Ag H6 n (.lst (k.map V.ref))=H7 at s7 a3 a6 ⊢;refine⟨(by show 2<=B18;decide),λT y=>?_⟩
  have s8:=qA2 y (.tup [.ref l,.ref n]);have a8:=a0.trans s7;exact q2 nd T l n k L _ (a8.trans s8) (a8.free y) ak ⟨qA1,(((g.same s5).same s6).same s7).same s8,s8 _ _ a3,a6.same s8⟩ (RC.nevP pm ad) (λz hz=>hn z (pm.mem_iff.mp hz)) (by rw[pm.length_eq];exact F3 lk (by lia))
 ·have dn:=qPB N rA (qOB wp rW RC ag a9 p);refine⟨_,rfl,iteT ?_⟩;exact q1 dn _ (q.trans s6)
noncomputable def prs (ws:List Int)(i:Nat):List (Int×V):=(F6 i).map λ(j:Nat)=>((ws[j]?).getD 0,V.int (j:Int))
theorem qQH {a:List Int}{i:Nat}{y:Int}(h:a[i]?=some y):prs a (i+1)=prs a i++[(y,V.int (i:Int))]:=by
 unfold prs;rw[Z0,B3,o6,h]
 rfl
theorem qTB {ws:List Int}(nd:ws.Nodup)(x:Int):∀i,i<=ws.length->valV (qCQ [] (prs ws i)) (E3 x)=(qC8 (ws.take i) x).map V.int
 |0,_=>by simp[prs,qCQ,valV,qC8]
 |i+1,h=>by
  have e:=A3 (show i<ws.length by lia)
  generalize ws[i]=y at e;rw[qQH e,qKM nd e x];unfold qCQ;rw[A56];show valV (putK (qCQ [] (prs ws i)) (E3 y) (V.int (i:Int))) (E3 x)=_;rw[qIJ,qTB nd x i (by lia)]
  by_cases c:x=y
  ·rw[c,if_pos rfl,if_pos rfl];rfl
  ·rw[if_neg λz=>c (Z9 z),if_neg c]
theorem sc_Lpart:FnScope ["_law_net_here","_law_works_here","_law_number"] ["_law_net_here","_law_works_here"] (qAB qLN):=qBN
theorem ok_Lpart (F:Fun K "_law_part" "_law_part" qLN f fd) (an:mg "dict" = none) (aq:mg "enumerate" = none) (qAI:mg "tuple" = none):FnOk P w K mg base CX0 1 f fd ["_law_net_here","_law_works_here"] qSV:=by
 refine F.okA sc_Lpart λax A am s H vs Q E hr h=>?_;obtain⟨o,a,l,Ae,c,rfl,hN,wf,ay,hL,rW,q⟩:=h;have hu:=qIG hr;refine⟨_,(qA4 (qAF (i:=2) sc_Lpart.nd rfl (d7 rfl) (qAD (qSJ rfl) rfl an qaG (qA0 (qCR rfl (lcs (own:=["_law_place","_law_work"]) (fv:=[]) (by kernel_rfl)) (qWB rfl aq qDY (qA0 (pv 1) qA3)) (λz1=>qLT (K:=K) (n:=2) rfl rfl (qC1 (qBO 0) (qC1 (qBO 1) qHK)) rfl rfl) (λz1=>qB6) (λz1=>(qCX (qA0 (pv 1) (qA0 (pv 0) qA3))))) qA3))) (qA6 (qAH (qAD qAJ rfl qAI qAM (qA0 (qCR rfl (lcs (own:=["_law_work"]) (fv:=[0,2]) (by kernel_rfl)) (qXW (pv 1)) (λz2=>qBO 0) (λz2=>qB6) (λz2=>(qAD (qGI (K:=K) rfl) rfl qAI qAM (qA0 (qCR (X:=lcCx _ _ _ _ z2) rfl (lcs (own:=["_law_need"]) (fv:=[2]) (by kernel_rfl)) (qOY (K:=K) rfl (qBQ (qJN (K:=K) rfl) (pv 1) (pv 0) (λ_ _=>rfl))) (λz3=>qBO 0) (λz3=>(qDF (qE4 (qQO hu (pv 0) (pv 1))))) (λz3=>(qDG hu (pv 1) (pv 0) (λ_ _=>rfl)))) qA3)))) qA3))))),?_⟩
 try dsimp only[Cx.nox,Cx.wish,cxOf]
 obtain⟨rs,hA,NL⟩:=id hN;have lw:=rW.len;refine cut λN1 ap=>?_;refine⟨_,rfl,o,l,rfl,⟨_,sqo hL⟩,λp hp=>?_⟩;refine qWS (b:=o) (p:=p) (a:=l) (xs:=c.map V.int) (λi σ g=>∃(v0 v1:Option V) (qs:List Addr),σ=[v0,v1]/\Same H g/\g p=some (.lst (qs.map V.ref))/\Paired (λr (z:Int×V)=>g r=some (.tup [.int z.1,z.2])) qs (prs c i)) ?_ ?_ ?_ ?_
 ·exact⟨none,none,[],rfl,qA2 hp _,qA1,.nil⟩
 ·refineλi σ g hi a6=>opq λas ag=>?_;obtain⟨v0,v1,qs,rfl,u,_⟩:=a6;refine ag ?_;exact sqo (hL.same u)
 ·refineλi x σ g T hx a2 hT=>opq λaz a1=>?_;obtain⟨v0,v1,qs,rfl,u,m,PQ⟩:=a2;obtain⟨y,ey,rfl⟩:=qBH hx;refine a1 ?_;have hi:=(A4.mp ey).1;have lQ:qs.length=i:=by have:=C3 PQ;rw[this];simp[prs]
  have sT:=qA2 hT (.tup [.int (i:Int),.int y]);refine⟨T,_,rfl,SqT.of qA1,rfl,_,_,rfl,_,_,rfl,rfl,?_⟩;refine⟨_,rfl,_,rfl,(by show 2<=B18;decide),λr a5=>?_⟩
  have s2:=sT.trans (qA2 a5 (.tup [.int y,.int (i:Int)]));have g2:=s2 _ _ m;refine⟨_,g2,qAE (by rw[A0];lia),?_⟩
  rw[qBE];refine⟨_,_,qs++[r],rfl,qAC (u.trans s2) hp,qA1,?_⟩;rw[qQH ey];refine U6 (qKO PQ λr' z' e=>?_) ?_
  ·have e2:=s2 _ _ e;rw[qAA (qCB e2 g2 (λz=>nomatch z))];exact e2
  ·rw[qAA (qA5 (sT _ _ m) a5).symm];exact qA1
 refineλσ g ah=>opq λb2 aa=>?_;obtain⟨v0,v1,qs,rfl,u,m,PQ⟩:=ah;refine aa ?_;rw[A0] at PQ;have pp:∀{qs:List Addr} {zs:List (Int×V)},Paired (λr (z:Int×V)=>g r=some (.tup [.int z.1,z.2])) qs zs->qQQ g K qs zs:=by
  intro qs zs h
  induction h with
  |nil=>exact .nil
  |cons h t ih=>exact .cons (SqT.of h) ih
 refine⟨p,qs,prs c c.length,rfl,SqL.of m,pp PQ,λd hd=>?_⟩;have sd:=u.trans (qA2 hd (.dK (qCQ [] (prs c c.length))));have gd:(Ag g d (.dK (qCQ [] (prs c c.length)))) d=some (.dK (qCQ [] (prs c c.length))):=qA1;have vd:∀x,valV (qCQ [] (prs c c.length)) (E3 x)=(qC8 c x).map V.int:=λx=>by rw[qTB rW.nodup x _ (A7 _),qBD rfl]
 generalize Ag g d (.dK (qCQ [] (prs c c.length)))=H1 at sd gd ⊢;generalize qCQ [] (prs c c.length)=Af at gd vd;refine ap _ _ ?_;refine⟨_,rfl,o,l,rfl,⟨_,sqo (hL.same sd)⟩,λp1 a7=>?_⟩;refine qY2 (b:=o) (p:=p1) (a:=l) (xs:=c.map V.int) (λi σ g=>∃(v0:Option V) (qs:List Addr),σ=[v0,some (.ref a),some (.ref d)]/\Same H1 g/\g p1=some (.lst (qs.map V.ref))/\NetL g qs ((c.take i).map λw=>((Ae[w.toNat]?).getD []).filterMap (qC8 c))) ?_ ?_ ?_ ?_
 ·exact⟨none,[],rfl,qA2 a7 _,qA1,.nil⟩
 ·refineλi σ g hi ae=>opq λaw ac=>?_;obtain⟨v0,qs,rfl,u,_⟩:=ae;refine ac ?_;exact sqo ((hL.same sd).same u)
 ·refineλi x σ g hx a4=>opq λb1 al=>?_;obtain⟨v0,qs,rfl,u,m,NQ⟩:=a4;obtain⟨y,ey,rfl⟩:=qBH hx;refine al ?_;have hi:=(A4.mp ey).1;have lQ:qs.length<=i:=by have:=C3 NQ;rw[this,A0,C4];lia
  have yb:=rW.in_ y (B0 ey);have hy:y.toNat<Ae.length:=by lia
  have hz:=A3 hy;obtain⟨r,h3,h4⟩:=NL.get hz;have rz:=wf y.toNat _ hz;generalize Ae[y.toNat]=zs at h4 hz rz;have lz:=rz.len;have ao:=u _ _ (sd _ _ hA);have ak:=u _ _ (sd _ _ h4);refine⟨_,rfl,_,rfl,a,_,_,_,rfl,rfl,SqT.of ao,qFF yb.1 (by rw[B6,h3];rfl),r,rfl,⟨_,SqT.of ak⟩,λp2 a9=>?_⟩
  refine qG7 (p:=p2) (a:=r) (xs:=zs.map V.int) (λj σ Hd=>∃(v:Option V),σ=[v,some (.ref d)]/\Same g Hd/\Hd p2=some (.lst (((zs.take j).filterMap (qC8 c)).map V.int))) ?_ ?_ ?_ ?_
  ·exact⟨none,rfl,qA2 a9 _,qA1⟩
  ·rintro j σ Hd hj ⟨v,rfl,se,_⟩;exact SqT.of (se _ _ ak)
  ·refineλj x σ Hd hx af=>opq λau ai=>?_;obtain⟨v,rfl,se,a0⟩:=af;obtain⟨z,ez,rfl⟩:=qBH hx;refine ai ?_;have hj:=(A4.mp ez).1;have a8:=se _ _ (u _ _ gd);have lf:((zs.take j).filterMap (qC8 c)).length<=j:=F3 (O6 _ _) (by rw[C4];lia)
   refine⟨_,rfl,_,rfl,d,_,rfl,DGet.k (k:=E3 z) a8,_,rfl,?_⟩;rw[vd z,qa2 ez];cases e:qC8 c z with
   |none=>
    refine⟨_,rfl,se,?_⟩;simpa using a0
   |some v=>
    have hg:=DGet.k (k:=E3 z) a8;rw[vd z,e] at hg;refine⟨_,rfl,_,rfl,d,_,rfl,hg,_,a0,qAE (by rw[A0];lia),_,rfl,qAC se a9,?_⟩
    rw[qA1,B3]
    rfl
  ·refineλσ Hd a3=>opq λav ab=>?_;obtain⟨v,rfl,se,a0⟩:=a3;refine ab ?_;rw[A0,qBD rfl] at a0;refine⟨p2,_,rfl,.inl ⟨SqL.of a0,λtq ar=>?_⟩⟩;have sq:=se.trans (qA2 ar (.tup ((zs.filterMap (qC8 c)).map V.int)));have g1:=sq _ _ m;refine⟨_,g1,qAE (by rw[A0];lia),?_⟩
   rw[qBE];refine⟨_,qs++[tq],rfl,qAC (u.trans sq) a7,qA1,?_⟩;have e7:((c.take (i+1)).map λw=>((Ae[w.toNat]?).getD []).filterMap (qC8 c))=((c.take i).map λw=>((Ae[w.toNat]?).getD []).filterMap (qC8 c))++[zs.filterMap (qC8 c)]:=by
    rw[C5,ey,C6,B3,o6,hz,X3]
   rw[e7];exact qDT (qCL (NQ.same λr' ys e=>sq _ _ e) qA1) g1
 ·refineλσ g ad=>opq λb0 aj=>?_;obtain⟨v0,qs,rfl,u,m,NQ⟩:=ad;refine aj ?_;rw[A0,qBD rfl] at NQ;refine⟨p1,_,rfl,.inl ⟨SqL.of m,λb hb=>?_⟩⟩;have sb:=qA2 hb (.tup (qs.map V.ref));exact q b _ (sd.trans (u.trans sb)) ⟨qs,qA1,NQ.same λr ys e=>sb _ _ e⟩
theorem qW2:FnScope ["_law_works_here"] ["_law_works_here"] (qAB qLP):=qBN
theorem ok_Lbits (F:Fun K "_law_bits" "_law_bits" qLP f fd) (qOH:mg "sum" = none):FnOk P w K mg base CX0 1 f fd ["_law_works_here"] qXR:=by
 refine F.okA qW2 λa0 A k s H vs Q E hr h=>?_;obtain⟨l,ws,rfl,y,n,lw,q⟩:=h;refine⟨_,(qA6 (qAH (qA9 (qMM rfl) rfl qOH qRD (qA0 (qCR rfl (lcs (own:=["_law_work"]) (fv:=[]) (by kernel_rfl)) (qCS (pv 0)) (λt=>qBO 0) (λt=>qB6) (λt=>(qAN qNB qA7 (pv 0)))) qA3)))),?_⟩
 try dsimp only[Cx.nox,Cx.wish,cxOf]
 refine⟨_,rfl,l,rfl,⟨_,SqL.of y⟩,λp u=>?_⟩;refine qGC (p:=p) (a:=l) (xs:=ws.map V.int) (λi σ j=>∃(v:Option V),σ=[v]/\Same H j/\j p=some (.lst (((ws.take i).map λz=>(1:Int)*2^z.toNat).map V.int))) ?_ ?_ ?_ ?_
 ·exact⟨none,rfl,qA2 u _,qA1⟩
 ·rintro i σ j hi ⟨v,rfl,se,_⟩;exact SqL.of (se _ _ y)
 ·refineλi x σ j hx e=>opq λo c=>?_;obtain⟨v,rfl,se,b⟩:=e;obtain⟨z,m,rfl⟩:=qBH hx;refine c ?_;have hi:=(A4.mp m).1;have zb:=n z (B0 m);refine⟨_,rfl,_,_,rfl,rfl,⟨zb.1,by lia,by decide⟩,_,b,qAE (by rw[A0,A0,C4];lia),_,rfl,qAC se u,?_⟩
  rw[qA1,C5,m,C6,B3,B3]
  rfl
 ·refineλσ j g=>opq λr d=>?_;obtain⟨v,rfl,se,b⟩:=g;refine d ?_;rw[A0,qBD rfl] at b;refine⟨p,_,rfl,SqL.of b,?_⟩;rw[qP4];exact q j se
theorem sc_Lworks:FnScope ["_law_state","_law_net_here","_law_asked_here","_law_way","_law_one"] ["_law_state","_law_net_here","_law_asked_here"] (qAB qIN):=qBN
theorem ok_Lworks (F:Fun K "_law_works" "_law_works" qIN f fd) (a3:Clb P w K mg base 1 qE3 qDV "_law_take" ["_law_state","_law_many"] qGN) (an:Clb P w K mg base 1 qK1 qSF "_law_needed" ["_law_net_here","_law_asked_here"] qQ3) (qB5:mg "len" = none) (qAI:mg "tuple" = none) (qAP:mg "range" = none):FnOk P w K mg base CX0 2 f fd ["_law_state","_law_net_here","_law_asked_here"] qN0:=by
 refine F.okA sc_Lworks λaq A ah s H vs Q E hr h=>?_;obtain⟨d,c,a,t,k,ms,Ae,Ad,rfl,S0,kb,hN,wf,l1,ar,⟨hT,rA⟩,a1,q⟩:=h;have kb:k<=1000000000-100:=kb;refine⟨_,(qA4 (qAF (i:=3) sc_Lworks.nd rfl (E6 rfl) (qAS a3 hr rfl (qA0 (pv 0) (qA0 qA7 qA3)))) (qA4 (qAF (i:=4) sc_Lworks.nd rfl (d7 rfl) (qBQ qCD (pv 2) (qAS a3 hr rfl (qA0 (pv 0) (qA0 (qA9 qA8 rfl qB5 qB1 (qA0 (pv 2) qA3)) qA3))) (λ_ _=>rfl))) (qA4 (qC0 (qAQ qFC (pv 3) qA7 (qAW _)) (qA6 (qAH (qAD qEX rfl qAI qAM (qA0 (qAS an hr rfl (qA0 (pv 1) (qA0 (qCX (qA0 (pv 4) qA3)) qA3))) qA3)))) qAR) (qA4 (qC0 (qAQ qFC (pv 3) qA7 (qAW _)) (qA6 (qAH (qAD (qFP rfl) rfl qAI qAM (qA0 (qAD qO3 rfl qAP qMO (qA0 (qA9 qA8 rfl qB5 qB1 (qA0 (pv 1) qA3)) qA3)) qA3)))) qAR) (qA6 (qAH (qAD qEX rfl qAI qAM (qA0 (qCR rfl (lcs (own:=["_law_work"]) (fv:=[4,0]) (by kernel_rfl)) (qAY rfl qAP (qA0 (qA9 qA8 rfl qB5 qB1 (qA0 (pv 1) qA3)) qA3)) (λz1=>qBO 0) (λz1=>(qDF (PW.pt (qOR (qAQ qFC (pv 0) (pv 1) (qAW _)) (qJ9 (qAQ qRV (qAS a3 hr rfl (qA0 (pv 2) (qA0 qA7 qA3))) qA7 (qAW _))))))) (λz1=>(pv 0))) qA3)))))))),?_⟩
 try dsimp only[Cx.nox,Cx.wish,cxOf]
 have lA:=rA.len;refine cut λN0 ai=>?_;refine⟨_,rfl,d,c,k,ms,3,rfl,S0,(by show k<=1000000000;lia),by decide,by decide,λau am H1 w0 w1 S1 K1=>?_⟩
 have a0:=K1 _ _ hT (S0.tup hT).1 (S0.tup hT).2;refine ai _ _ (cut λN1 al=>?_);refine⟨_,rfl,_,rfl,_,rfl,t,_,rfl,.inr (SqT.of a0),d,c,k+1,am,_,rfl,S1,(by show k+1<=1000000000;lia),by rw[A0];lia,by rw[A0];lia,λj a2 H2 j0 j1 S2 K2=>?_⟩
 rw[A0] at j1;have ak:=K2 _ _ a0 (S1.tup a0).1 (S1.tup a0).2;obtain⟨jn,rfl⟩:=Int.eq_ofNat_of_zero_le j0;have hj:=A3 (show jn<Ad.length by lia)
 have m:=B0 hj;generalize Ad[jn]=b at hj m;refine⟨t,_,_,_,rfl,rfl,SqT.of ak,qFF (x:=.int b) j0 (by rw[B8,B6,hj];rfl),?_⟩
 have ob:=rA.in_ b m;have a8:=(hN.keep S0 K1).keep S1 K2;have a4:=K1.trans K2;refine al _ _ (cut λN2 a9=>?_);refine⟨_,rfl,rfl,_,rfl,?_⟩;refine ite2 (λc0=>?_) (λc0=>?_)
 ·refine⟨_,rfl,_,rfl,(by show 1<=B18;decide),λu hu=>?_⟩
  have f1:=qA2 hu (.tup [.int b]);refine⟨a,u,Ae,[b],rfl,a8.same f1,wf,by lia,⟨qA1,⟨U9 _ _,λx hx=>by rw[A6.mp hx];exact ob⟩⟩,λl g H3 s3 fl gl N=>?_⟩
  refine⟨l,_,rfl,SqL.of gl,λr o hr oc od=>?_⟩;have f2:=f1.trans (s3.trans (qA2 hr (.frz o (.tup (g.map V.int)))));exact q r g _ a2 _ (S2.same f2) (by lia) (by lia) (a4.trans (.of_same f2)) ⟨o,qA1,oc,od⟩ N.1 ⟨b,m,(N.2 b).mpr (.ask (A6.mpr rfl))⟩
 refine a9 _ _ (cut λN3 aj=>?_);refine⟨_,rfl,rfl,_,rfl,?_⟩;obtain⟨ra,hA,NL⟩:=id a8;have ae:=C3 NL;refine ite2 (λc1=>?_) (λc1=>?_)
 ·refine⟨_,rfl,a,_,rfl,.inr (SqT.of hA),?_⟩;rw[A0,ae];refine⟨_,rfl,λp hp=>?_⟩;have f1:=qA2 hp (.rng 0 (Ae.length:Int));refine⟨p,_,_,rfl,qA1,by lia,by lia,by lia,by lia,λr o hr oc od=>?_⟩
  have f2:=f1.trans (qA2 hr (.frz o (.tup (qDD 0 (Ae.length:Int)))));exact q r (qAV 0 (Ae.length:Int)) _ a2 _ (S2.same f2) (by lia) (by lia) (a4.trans (.of_same f2)) ⟨o,by rw[qA1,qGA],oc,od⟩ (qEJ (by lia)) ⟨b,m,mem_rangeI.mpr ob⟩
 refine aj _ _ ?_;refine⟨_,rfl,a,_,rfl,.inr (SqT.of hA),?_⟩;rw[A0,ae];refine⟨_,rfl,by lia,by lia,λp hp=>?_⟩
 have ac:p≠d:=(qA5 S2.dict hp).symm;have af:p≠c:=(qA5 S2.list hp).symm;refine qBV (p:=p) (lo:=0) (n:=((Ae.length:Int)).toNat) (λi σ Hc=>∃(v:Option V) (k':Int) (ms':List Int) (g:List Int),σ=[v,some (.int b),some (.ref d)]/\StAt Hc d c k' ms'/\k+2<=k'/\k'<=k+2+i/\Keep d c H2 Hc/\Hc p=some (.lst (g.map V.int))/\Rise (i:Int) g/\(b<(i:Int)->b∈g)) ?_ ?_ ?_
 ·exact⟨none,k+1+1,a2,[],rfl,S2.new hp _,by lia,by lia,qD5 hp _,qA1,⟨.nil,λ_ z=>nomatch z⟩,λz=>by lia⟩
 ·refineλi σ Hc hi a7=>opq λap ab=>?_;obtain⟨v,k',ms',g,rfl,S3,b1,b2,K3,gp,rz,hz⟩:=a7;refine ab ?_;have lz:=rz.len;have e0:(0:Int)+(i:Int)=(i:Int):=by lia
  have ag:Rise ((i+1:Nat):Int) (g++[(i:Int)]):=⟨M7.mpr ⟨rz.up,U9 _ _,λx hx y hy=>by rw[A6.mp hy];exact(rz.in_ x hx).2⟩,λx hx=>by
   rcases A8.mp hx with h|h
   ·have:=rz.in_ x h;lia
   ·rw[A6.mp h];lia⟩
  have aa:∀(Hd:Hp) (kk:Int) (mm:List Int),StAt Hd d c kk mm->Keep d c H2 Hd->Hd p=some (.lst (g.map V.int))->k+2<=kk->kk<=k+2+(i+1:Nat)->∃ys,Hd p=some (.lst ys)/\ys.length<B18/\∃(v:Option V) (k':Int) (ms':List Int) (g:List Int),[some (V.int (0+(i:Int))),some (.int b),some (.ref d)]=[v,some (.int b),some (.ref d)]/\StAt (Ag Hd p (.lst (ys++[.int (0+(i:Int))]))) d c k' ms'/\k+2<=k'/\k'<=k+2+(i+1:Nat)/\Keep d c H2 (Ag Hd p (.lst (ys++[.int (0+(i:Int))])))/\(Ag Hd p (.lst (ys++[.int (0+(i:Int))]))) p=some (.lst (g.map V.int))/\Rise ((i+1:Nat):Int) g/\(b<((i+1:Nat):Int)->b∈g):=λHd kk mm S4 K4 g4 q1 q2=>by
   refine⟨_,g4,qAE (by rw[A0];lia),_,kk,mm,g++[(i:Int)],rfl,S4.put' ac af,q1,q2,qH1 K4 hp,?_,ag,λz=>?_⟩
   ·rw[qA1,B3,e0];rfl
   ·by_cases e:b=(i:Int)
    ·rw[e];exact E4 _ (A6.mpr rfl)
    ·exact j4 _ (hz (by lia))
  refine⟨_,rfl,_,rfl,rfl,_,rfl,?_⟩;by_cases e:(0:Int)+(i:Int)=b
  ·rw[decide_eq_true (show V.int (0+(i:Int))=V.int b by rw[e])]
   exact⟨_,rfl,aa _ _ _ S3 K3 gp b1 (by lia)⟩
  ·rw[decide_eq_false (show¬V.int (0+(i:Int))=V.int b fromλz=>e (V.int.inj z))];refine⟨_,rfl,d,c,k',ms',3,rfl,S3,(by show k'<=1000000000;lia),by decide,by decide,λx ao H4 x0 x1 S4 K4=>?_⟩
   have ad:=K4 _ _ gp ac af;refine⟨_,_,rfl,rfl,_,rfl,?_⟩;by_cases cx:0<x
   ·rw[decide_eq_true cx];exact⟨_,rfl,aa _ _ _ S4 (K3.trans K4) ad (by lia) (by lia)⟩
   ·rw[decide_eq_false cx];exact⟨_,k'+1,ao,g,rfl,S4,by lia,by lia,K3.trans K4,ad,rz.mono (by lia),λz=>hz (by lia)⟩
 ·refineλσ Hc a6=>opq λas a5=>?_;obtain⟨v,k',ms',g,rfl,S3,b1,b2,K3,gp,rz,hz⟩:=a6;refine a5 ?_;refine⟨p,_,rfl,SqL.of gp,λr o hr oc od=>?_⟩;have f2:=qA2 hr (.frz o (.tup (g.map V.int)));exact q r g _ ms' _ (S3.same f2) (by lia) (by lia) ((a4.trans K3).trans (.of_same f2)) ⟨o,qA1,oc,od⟩ (rz.mono (by lia)) ⟨b,m,hz (by lia)⟩
theorem qR0 {α:Type}(l:List α)(k:Nat)(y:α):(l.take k++y::l.drop k).Perm (l++[y]):=by
 refine(List.perm_middle).trans ?_;rw[R8];exact(g8 (l₁:=l) (l₂:=[y])).symm
theorem StL.ins {H:Hp}{d:List Addr}{c:List (List Int)}{r:Addr}{s:List Int}(h:StL H d c)(k:Nat)(g:H r=some (.tup (s.map V.int))):StL H (d.take k++r::d.drop k) (c.take k++s::c.drop k):=by
 have:∀{d:List Addr} {c:List (List Int)},StL H d c->∀k,StL H (d.take k++r::d.drop k) (c.take k++s::c.drop k):=λ{d c} h=>by
  induction h with
  |nil=>intro k;rw[z8,z8,B06,B06];exact .cons g .nil
  |cons a b ih=>
   intro k;cases k with
   |zero=>exact .cons g (.cons a b)
   |succ k=>exact .cons a (ih k)
 exact this h k
theorem sc_Lstands_of:FnScope ["_law_state","_law_found","_law_many","_law_stands","_law_bits_here","_law_stand"] ["_law_state","_law_found","_law_many"] (qAB qDQ):=qBN
theorem ok_Lstands_of (F:Fun K "_law_stands_of" "_law_stands_of" qDQ f fd) (av:Clb P w K mg base 1 qE3 qDV "_law_take" ["_law_state","_law_many"] qGN) (qB5:mg "len" = none) (qAI:mg "tuple" = none) (qAP:mg "range" = none):FnOk P w K mg base CX0 2 f fd ["_law_state","_law_found","_law_many"] qHI:=by
 refine F.okA sc_Lstands_of λb4 A aq s H vs Q E hr h=>?_;obtain⟨d,c,fo,k,ms,m,B,rfl,S0,kb,az,lB,hF,q⟩:=h;have kb:k<=1000000000-20000:=kb;refine⟨_,(qA4 (qAF (i:=3) sc_Lstands_of.nd rfl (E6 rfl) (qBP qA3)) (qA4 (qBX D9 rfl (qd3 (qCS (pv 1)) (qQM (pv 1))) (qAZ (i:=4) sc_Lstands_of.nd rfl (d7 rfl)) (qA4 (qAF (i:=5) sc_Lstands_of.nd rfl (E6 rfl) (qAD qAJ rfl qAI qAM (qA0 (qCR rfl (lcs (own:=["_law_place"]) (fv:=[4]) (by kernel_rfl)) (qAY rfl qAP (qA0 (pv 2) qA3)) (λz2=>qBO 0) (λz2=>(qDF (qAQ qFC (qAN qKP (qAN qQS (pv 1) (pv 0)) qA7) qA7 (qAW _)))) (λz2=>(pv 0))) qA3))) (qA6 (qEK (qN9 G5 PySem.F.slot_list_insert PySem.F.type_list_insert qU0 (pv 3) (qA0 (qAS av hr rfl (qA0 (pv 0) (qA0 (qAN qDS (qA9 qA8 rfl qB5 qB1 (qA0 (pv 3) qA3)) qA7) qA3))) (qA0 (pv 5) qA3))))))) (qA6 (qAH (pv 3))))),?_⟩
 try dsimp only[Cx.nox,Cx.wish,cxOf]
 refine cut λN0 ar=>?_;refine⟨(by show 0<=B18;decide),λl hl=>?_⟩
 have f0:=qA2 hl (.lst []);have gl:(Ag H l (.lst [])) l=some (.lst (([]:List Addr).map V.ref)):=qA1;have S1:=S0.same f0;have a3:l≠d:=(qA5 S0.dict hl).symm;have a4:l≠c:=(qA5 S0.list hl).symm;have b9:fo≠l:=by
  rcases hF with g|⟨o,g,z⟩
  ·exact qA5 g.2 hl
  ·exact qA5 z hl
 have K1:Keep d c H (Ag H l (.lst [])):=.of_same f0;generalize Ag H l (.lst [])=H1 at f0 gl S1 K1 ⊢;refine ar _ _ (cut λN1 am=>?_);rcases hF with⟨aw,gF⟩|⟨o,gv,gF⟩
 ·refine .inl ⟨_,rfl,fo,rfl,⟨_,SqL.of (f0 _ _ gF)⟩,qIS (a:=fo) (xs:=(natI B).map V.int) (λi σ y=>∃(v4 v5:Option V) (k':Int) (ms':List Int) (rs:List Addr) (ss:List (List Int)),σ=[some (.ref d),some (.ref fo),some (.int (m:Int)),some (.ref l),v4,v5]/\StAt y d c k' ms'/\k<=k'/\k'<=k+i/\Keep d c H y/\y l=some (.lst (rs.map V.ref))/\StL y rs ss/\ss.Perm ((B.take i).map (stB m)))
   ⟨none,none,k,ms,[],[],rfl,S1,by lia,by lia,K1,gl,.nil,.refl _⟩ (by rintro i σ y _ ⟨_,_,_,_,_,_,rfl,S2,_,_,K2,_⟩;exact SqL.of (K2 _ _ gF (qCB gF S0.dict (by intro z;cases z)) aw)) ?_ ?_⟩
  ·refineλi x σ y hx al=>opq λb8 af=>?_;obtain⟨v4,v5,k',ms',rs,ss,rfl,S3,b1,b2,K3,a0,SL,pm⟩:=al;obtain⟨z,ez,rfl⟩:=qBH hx;obtain⟨b,eb,rfl⟩:=qTY ez;refine af ?_;have hi:=(A4.mp eb).1;have as:rs.length=ss.length:=C3 SL;have au:ss.length<=i:=by rw[pm.length_eq,A0,C4];lia
   refine nmD λD1 d1 dr=>?_;refine cut λM0 a5=>?_;refine⟨_,rfl,_,rfl,by lia,by lia,λp hp=>?_⟩
   refine qBV (p:=p) (lo:=0) (n:=((m:Int)).toNat) (λj σ He=>∃(v:Option V),σ=[v,some (.int (b:Int))]/\Same y He/\He p=some (.lst ((((qAV 0 m).take j).filter λk=>decide ((b/2^k.toNat%2:Nat)=1)).map V.int))) ?_ ?_ ?_
   ·exact⟨none,rfl,qA2 hp _,qA1⟩
   ·refineλj σ He hj aj=>opq λb3 ah=>?_;obtain⟨v,rfl,sm,t⟩:=aj;refine ah ?_;have e0:(0+(j:Int)).toNat=j:=by lia
    have lk:=qBS (p:=λk:Int=>decide ((b/2^k.toNat%2:Nat)=1)) (l:=qAV 0 m) (i:=j);refine⟨_,rfl,_,rfl,_,_,rfl,rfl,(by show(0:Int)<=0+(j:Int);lia),_,_,rfl,rfl,rfl,_,rfl,?_⟩
    dsimp only;rw[e0,qCI (qBL (by lia)),B8]
    by_cases cb:b/2^j%2=1
    ·have dt:decide (V.int (M9 ((b:Int)/2^j) 1)=V.int 1)=true:=by rw[qFQ,cb];rfl
     rw[dt];refine⟨_,rfl,_,t,qAE (by rw[A0];lia),_,rfl,qAC sm hp,?_⟩
     rw[qA1,if_pos (decide_eq_true cb),B3,Y5]
     rfl
    ·have dt:decide (V.int (M9 ((b:Int)/2^j) 1)=V.int 1)=false:=decide_eq_false λz=>cb (by rw[qFQ] at z;injection z with z;lia)
     rw[dt];refine⟨_,rfl,sm,?_⟩;rw[if_neg (by rw[decide_eq_false cb];decide),Q9]
     exact t
   refineλσ He ac=>opq λb7 ap=>?_;obtain⟨v,rfl,sm,t⟩:=ac;refine ap ?_;rw[qBD (by rw[qC6];lia)] at t
   have t:He p=some (.lst ((stB m b).map V.int)):=t;refine⟨p,_,rfl,.inl ⟨SqL.of t,λr hr=>?_⟩⟩;have f2:=sm.trans (qA2 hr (.tup ((stB m b).map V.int)));have gr:(Ag He r (.tup ((stB m b).map V.int))) r=some (.tup ((stB m b).map V.int)):=qA1;have S4:=S3.same f2;have u:=f2 _ _ a0;have a2:=SL.same f2;have K4:=K3.trans (.of_same f2);refine a5 _ _ ?_;generalize Ag He r (.tup ((stB m b).map V.int))=H4 at f2 gr S4 u a2 K4 ⊢;refine⟨_,rfl,.inl ⟨rfl,_,SqL.of u⟩,_,rfl,_,rfl,l,_,rfl,.inl (SqL.of u),_,_,rfl,rfl,d,c,k',ms',_,rfl,S4,(by show k'<=1000000000;lia),by rw[A0];lia,by rw[A0];lia,λx aa H5 x0 x1 S5 K5=>?_⟩
   rw[A0] at x1;have a1:=K5 _ _ u a3 a4;have a7:=K5 _ _ gr (S4.tup gr).1 (S4.tup gr).2;refine⟨_,rfl,l,_,x,.ref r,rfl,rfl,a1,x0,by rw[A0];lia,by rw[A0];lia,?_⟩
   have a8:StL H5 rs ss:=Paired.mapP a2 λr' s' e=>K5 _ _ e (S4.tup e).1 (S4.tup e).2;refine d1 _ _ ⟨_,_,k'+1,aa,rs.take x.toNat++r::rs.drop x.toNat,ss.take x.toNat++stB m b::ss.drop x.toNat,rfl,S5.put' a3 a4,by lia,by lia,?_,?_,(a8.ins x.toNat a7).put a1 (λxs z=>nomatch z),?_⟩
   ·exact qH1 (K4.trans K5) hl
   ·rw[qA1,B3,A49,D0,A48]
   ·rw[C5,eb,C6,B3];exact(qR0 ss x.toNat (stB m b)).trans (pm.append_right _)
  ·refineλσ y ae=>opq λb5 ad=>?_;obtain⟨v4,v5,k',ms',rs,ss,rfl,S3,b1,b2,K3,a0,SL,pm⟩:=ae;refine ad ?_;rw[A0,qEM] at b2 pm;rw[O3] at pm;exact am _ _ ⟨_,rfl,q l rs ss k' ms' y S3 b1 (by lia) K3 a0 SL pm⟩
 ·refine .inr ⟨_,rfl,fo,o,_,rfl,f0 _ _ gF,qUV (a:=fo) (o:=o) (Af:=kvN B gv) (λi σ y=>∃(v4 v5:Option V) (k':Int) (ms':List Int) (rs:List Addr) (ss:List (List Int)),σ=[some (.ref d),some (.ref fo),some (.int (m:Int)),some (.ref l),v4,v5]/\StAt y d c k' ms'/\k<=k'/\k'<=k+i/\Keep d c H y/\y l=some (.lst (rs.map V.ref))/\StL y rs ss/\ss.Perm ((B.take i).map (stB m)))
   ⟨none,none,k,ms,[],[],rfl,S1,by lia,by lia,K1,gl,.nil,.refl _⟩ (by rintro i σ y _ ⟨_,_,_,_,_,_,rfl,S2,_,_,K2,_⟩;exact K2 _ _ gF (qCB gF S0.dict (by intro z;cases z)) (qCB gF S0.list (by intro z;cases z))) ?_ ?_⟩
  ·refineλi kx vx σ y hx ak=>opq λay an=>?_;obtain⟨v4,v5,k',ms',rs,ss,rfl,S3,b1,b2,K3,a0,SL,pm⟩:=ak;obtain⟨b,eb,rfl⟩:=qY4 hx;refine an ?_;have hi:=(A4.mp eb).1;have as:rs.length=ss.length:=C3 SL;have au:ss.length<=i:=by rw[pm.length_eq,A0,C4];lia
   refine nmD λD1 d1 dr=>?_;refine cut λM0 a5=>?_;refine⟨_,rfl,_,rfl,by lia,by lia,λp hp=>?_⟩
   refine qBV (p:=p) (lo:=0) (n:=((m:Int)).toNat) (λj σ He=>∃(v:Option V),σ=[v,some (.int (b:Int))]/\Same y He/\He p=some (.lst ((((qAV 0 m).take j).filter λk=>decide ((b/2^k.toNat%2:Nat)=1)).map V.int))) ?_ ?_ ?_
   ·exact⟨none,rfl,qA2 hp _,qA1⟩
   ·refineλj σ He hj ab=>opq λb0 ag=>?_;obtain⟨v,rfl,sm,t⟩:=ab;refine ag ?_;have e0:(0+(j:Int)).toNat=j:=by lia
    have lk:=qBS (p:=λk:Int=>decide ((b/2^k.toNat%2:Nat)=1)) (l:=qAV 0 m) (i:=j);refine⟨_,rfl,_,rfl,_,_,rfl,rfl,(by show(0:Int)<=0+(j:Int);lia),_,_,rfl,rfl,rfl,_,rfl,?_⟩
    dsimp only;rw[e0,qCI (qBL (by lia)),B8]
    by_cases cb:b/2^j%2=1
    ·have dt:decide (V.int (M9 ((b:Int)/2^j) 1)=V.int 1)=true:=by rw[qFQ,cb];rfl
     rw[dt];refine⟨_,rfl,_,t,qAE (by rw[A0];lia),_,rfl,qAC sm hp,?_⟩
     rw[qA1,if_pos (decide_eq_true cb),B3,Y5]
     rfl
    ·have dt:decide (V.int (M9 ((b:Int)/2^j) 1)=V.int 1)=false:=decide_eq_false λz=>cb (by rw[qFQ] at z;injection z with z;lia)
     rw[dt];refine⟨_,rfl,sm,?_⟩;rw[if_neg (by rw[decide_eq_false cb];decide),Q9]
     exact t
   refineλσ He ai=>opq λb6 ao=>?_;obtain⟨v,rfl,sm,t⟩:=ai;refine ao ?_;rw[qBD (by rw[qC6];lia)] at t
   have t:He p=some (.lst ((stB m b).map V.int)):=t;refine⟨p,_,rfl,.inl ⟨SqL.of t,λr hr=>?_⟩⟩;have f2:=sm.trans (qA2 hr (.tup ((stB m b).map V.int)));have gr:(Ag He r (.tup ((stB m b).map V.int))) r=some (.tup ((stB m b).map V.int)):=qA1;have S4:=S3.same f2;have u:=f2 _ _ a0;have a2:=SL.same f2;have K4:=K3.trans (.of_same f2);refine a5 _ _ ?_;generalize Ag He r (.tup ((stB m b).map V.int))=H4 at f2 gr S4 u a2 K4 ⊢;refine⟨_,rfl,.inl ⟨rfl,_,SqL.of u⟩,_,rfl,_,rfl,l,_,rfl,.inl (SqL.of u),_,_,rfl,rfl,d,c,k',ms',_,rfl,S4,(by show k'<=1000000000;lia),by rw[A0];lia,by rw[A0];lia,λx aa H5 x0 x1 S5 K5=>?_⟩
   rw[A0] at x1;have a1:=K5 _ _ u a3 a4;have a7:=K5 _ _ gr (S4.tup gr).1 (S4.tup gr).2;refine⟨_,rfl,l,_,x,.ref r,rfl,rfl,a1,x0,by rw[A0];lia,by rw[A0];lia,?_⟩
   have a8:StL H5 rs ss:=Paired.mapP a2 λr' s' e=>K5 _ _ e (S4.tup e).1 (S4.tup e).2;refine d1 _ _ ⟨_,_,k'+1,aa,rs.take x.toNat++r::rs.drop x.toNat,ss.take x.toNat++stB m b::ss.drop x.toNat,rfl,S5.put' a3 a4,by lia,by lia,?_,?_,(a8.ins x.toNat a7).put a1 (λxs z=>nomatch z),?_⟩
   ·exact qH1 (K4.trans K5) hl
   ·rw[qA1,B3,A49,D0,A48]
   ·rw[C5,eb,C6,B3];exact(qR0 ss x.toNat (stB m b)).trans (pm.append_right _)
  ·refineλσ y a6=>opq λax a9=>?_;obtain⟨v4,v5,k',ms',rs,ss,rfl,S3,b1,b2,K3,a0,SL,pm⟩:=a6;refine a9 ?_;rw[qM3] at b2 pm;rw[O3] at pm;exact am _ _ ⟨_,rfl,q l rs ss k' ms' y S3 b1 (by lia) K3 a0 SL pm⟩
theorem sc_Lone_right:FnScope ["_law_state","_law_net_here","_law_asked_here","_law_most","_law_works_here","_law_rooms","_law_found","_law_want","_law_due","_law_told"] ["_law_state","_law_net_here","_law_asked_here","_law_most"] (qAB qDR):=qBN
theorem ok_Lone_right (F:Fun K "_law_one_right" "_law_one_right" qDR f fd) (bv:Clb P w K mg base 2 qM9 qUX "_law_works" ["_law_state","_law_net_here","_law_asked_here"] qN0) (c8:Clb P w K mg base 1 qE3 qDV "_law_take" ["_law_state","_law_many"] qGN) (bj:Clb P w K mg base 1 qPJ qX9 "_law_part" ["_law_net_here","_law_works_here"] qSV) (c5:Clb P w K mg base 1 qPK qXA "_law_come" ["_law_net_here","_law_rooms"] qXQ) (c6:Clb P w K mg base 1 qPL qXB "_law_bits" ["_law_works_here"] qXR) (qBW:Clb P w K mg base 6 qD7 qG8 "shows_never" ["net","asked","rooms","thing"] qLF) (qC7:Clb P w K mg base 2 qDX qH9 "_law_stands_of" ["_law_state","_law_found","_law_many"] qHI) (bx:Clb P w K mg base 5 qER qK9 "never_paper" ["net","asked","rooms"] (qQ2 Pt)) (c4:mg "enumerate" = none) (bf:mg "any" = none) (qB5:mg "len" = none) (qAT:mg "isinstance" = none) (qKE:mg "bool" = none):FnOk P w K mg base CX0 7 f fd ["_law_state","_law_net_here","_law_asked_here","_law_most"] (qSW Pt):=by
 refine F.okA sc_Lone_right λci A bd s H vs Q E hr h=>?_;obtain⟨d,c,a,t,k,ms,Ae,Ad,wn,ao,mv,cc,rfl,S0,kb,a2,hN,wf,l1,bm,⟨hT,rA⟩,a1,N,LR,cf,bu,bp,bc,q⟩:=h;have kb:k<=1000000000-30000:=kb;refine⟨_,(qA4 (qAF (i:=4) sc_Lone_right.nd rfl (E6 rfl) (qAS bv hr rfl (qA0 (pv 0) (qA0 (pv 1) (qA0 (pv 2) qA3))))) (qA4 (qAF (i:=5) sc_Lone_right.nd rfl (E6 rfl) (qAN qDS qA7 (qAS c8 hr rfl (qA0 (pv 0) (qA0 (pv 3) qA3))))) (qA4 (qAF (i:=6) sc_Lone_right.nd rfl (E6 rfl) (qAS c5 hr rfl (qA0 (qAS bj hr rfl (qA0 (pv 1) (qA0 (pv 4) qA3))) (qA0 (pv 5) qA3)))) (qA4 (qAF (i:=7) sc_Lone_right.nd rfl (d7 rfl) (qAS c6 hr rfl (qA0 (qCR rfl (lcs (own:=["_law_place","_law_work"]) (fv:=[2]) (by kernel_rfl)) (qQK rfl c4 qDY (qA0 (pv 4) qA3)) (λz1=>qLT (K:=K) (n:=2) rfl rfl (qC1 (qBO 0) (qC1 (qBO 1) qHK)) rfl rfl) (λz1=>(qDF (qAQ (qTS (K:=K) rfl) (pv 1) (pv 2) (by with_unfolding_all rfl)))) (λz1=>(pv 0))) qA3))) (qA4 (qAF (i:=8) sc_Lone_right.nd rfl (E6 rfl) (qQN (qA9 (qRB rfl) rfl bf qYE (qA0 (qCR rfl (lcs (own:=["_law_bits_here"]) (fv:=[7]) (by kernel_rfl)) (qQM (pv 6)) (λz2=>qBO 0) (λz2=>qB6) (λz2=>(qCT qFC (qAN qKP (pv 0) (pv 1)) (pv 1) (qAW _)))) qA3)))) (qA4 (qAF (i:=9) sc_Lone_right.nd rfl (E6 rfl) (qAS qBW hr rfl (qA0 (pv 1) (qA0 (pv 2) (qA0 (pv 5) (qA0 (qCX (qA0 (pv 4) (qA0 (qAS qC7 hr rfl (qA0 (pv 0) (qA0 (pv 6) (qA0 (qA9 qA8 rfl qB5 qB1 (qA0 (pv 4) qA3)) qA3)))) qA3))) qA3)))))) (qA4 (qC0 (PW.pt (qOR (qGS (qF1 (qA9 qBT rfl qAT qBM (qA0 (pv 9) (qA0 (qGB (v:=.ty "bool") rfl qKE qPT rfl) qA3))))) (qJ9 (qAQ qbM (pv 9) (pv 8) (qAW _))))) (qA6 (qAH qF3)) qAR) (qA6 (qAH (qd4 (qQN (pv 8)) (qI2 (qJD (qCT qNC (pv 5) (pv 3) (qAW _)) (qI2 (qbJ (qOZ (qAS bx hr rfl (qA0 (pv 1) (qA0 (pv 2) (qA0 (pv 5) qA3))))))))))))))))))),?_⟩
 try dsimp only[Cx.nox,Cx.wish,cxOf]
 have lA:=rA.len;have r1:=LR.1;have nP:Pt≠d/\Pt≠c:=⟨qCB a2 S0.dict (by intro z;cases z),qCB a2 S0.list (by intro z;cases z)⟩
 refine cut λN0 be=>?_;refine⟨_,rfl,_,rfl,_,rfl,d,c,a,t,k,ms,Ae,Ad,rfl,S0,(by show k<=1000000000-100;lia),hN,wf,l1,bm,⟨hT,rA⟩,a1,λu m k1 c2 H1 S1 g1 g2 K1 hW rW hx=>?_⟩
 have a9:u≠d/\u≠c:=by
  obtain⟨o,e,_⟩:=hW;exact⟨qCB e S1.dict (by intro z;cases z),qCB e S1.list (by intro z;cases z)⟩
 have lw:=rW.len;refine be _ _ (cut λN1 bz=>?_);refine⟨_,rfl,_,rfl,d,c,k1,c2,ao,rfl,S1,(by show k1<=1000000000;lia),by lia,by lia,λx c0 H2 x0 x1 S2 K2=>?_⟩
 refine⟨_,_,rfl,rfl,?_⟩;dsimp only;have ai:1<=1+x:=by lia
 have aw:1+x<=12:=by lia
 generalize 1+x=Aa at ai aw;have aa:=K1.trans K2;have am:=hN.keep S0 aa;have ag:BareT H2 u (m.map V.int):=by
  obtain⟨o,e,z⟩:=hW;exact⟨o,K2 _ _ e a9.1 a9.2,z⟩
 have a8:Rd H2 u (.tup (m.map V.int)):=(let⟨o,e,_⟩:=ag;.inr ⟨o,e⟩)
 have a6:=aa _ _ hT (S0.tup hT).1 (S0.tup hT).2;have co:TabB H2 Pt:=aa _ _ a2 nP.1 nP.2;refine bz _ _ (cut λN2 ar=>?_);refine⟨_,rfl,_,rfl,true,a,u,Ae,m,rfl,am,wf,by lia,a8,rW,λb H3 s3 hB=>?_⟩
 have c9:=qB7 Ae m;refine⟨_,rfl,b,qBB Ae m,Aa,rfl,hB,qBU wf rW,by lia,λfd o kb fv H4 s4 cj cb C=>?_⟩
 have a7:=s3.trans s4;refine ar _ _ (cut λN3 bo=>?_);refine⟨_,rfl,u,rfl,⟨_,.inl (a8.same a7)⟩,λp hp=>?_⟩;refine qQZ (p:=p) (a:=u) (xs:=m.map V.int) (λi σ Hc=>∃(v0 v1:Option V),σ=[v0,v1,some (.ref t)]/\Same H4 Hc/\Hc p=some (.lst ((((qAV 0 m.length).take i).filter λp=>decide ((m[p.toNat]?).getD 0∈Ad)).map V.int))) ?_ ?_ ?_ ?_
 ·exact⟨none,none,rfl,qA2 hp _,qA1⟩
 ·refineλi σ Hc hi ak=>opq λcd b5=>?_;obtain⟨v0,v1,rfl,sm,_⟩:=ak;refine b5 ?_;exact .inl ((a8.same a7).same sm)
 ·refineλi x σ Hc T2 hx af b9=>opq λcm ae=>?_;obtain⟨v0,v1,rfl,sm,ca⟩:=af;obtain⟨y,ey,rfl⟩:=qBH hx;refine ae ?_;have hi:=(A4.mp ey).1;have sT:=qA2 b9 (.tup [.int (i:Int),.int y]);have ad:=sm.trans sT;have az:=sT _ _ ca;have lk:=qBS (p:=λp=>decide ((m[p.toNat]?).getD 0∈Ad)) (l:=qAV 0 m.length) (i:=i);refine⟨T2,_,rfl,SqT.of qA1,rfl,_,_,rfl,_,_,rfl,rfl,?_⟩;refine⟨_,rfl,_,rfl,t,_,rfl,.inr (SqT.of (ad _ _ (a7 _ _ a6))),rfl,qFJ Ad,_,rfl,?_⟩;rw[qJQ,qCI (qBL (by lia))]
  have ez:(m[((i:Int)).toNat]?).getD 0=y:=by rw[B8,ey];rfl
  rw[ez];by_cases hw:y∈Ad
  ·rw[decide_eq_true hw];refine⟨_,rfl,_,az,qAE (by rw[A0];lia),_,_,rfl,qAC ad hp,?_⟩
   rw[qA1,if_pos rfl,B3]
   rfl
  ·rw[decide_eq_false hw];refine⟨_,_,rfl,ad,?_⟩;simpa using az
 refineλσ H5 b6=>opq λcp ax=>?_;obtain⟨v0,v1,rfl,s5,gp⟩:=b6;refine ax ?_;rw[A0,qBD (by rw[qC6];lia)] at gp
 have wb:∀x∈(qAV 0 m.length).filter (λp=>decide ((m[p.toNat]?).getD 0∈Ad)),0<=x/\x<1000:=λx hx=>by
  have:=mem_rangeI.mp (C9.mp hx).1
  lia
 have wl:((qAV 0 m.length).filter (λp=>decide ((m[p.toNat]?).getD 0∈Ad))).length<=1000:=F3 (J2 _ _) (by rw[qC6];lia)
 refine⟨p,_,rfl,gp,wb,wl,λH6 s6=>?_⟩;rw[show mskN ((qAV 0 m.length).filter (λp=>decide ((m[p.toNat]?).getD 0∈Ad)))=qIA m Ad from rfl];clear gp wb wl;generalize hwt:qIA m Ad=g;have bh:=a7.trans (s5.trans s6);have a4:=(s5.trans s6) _ _ cb;have kl:kb.length<=2^(qBB Ae m).length:=qDM C.nd λb hb=>(C.snd b hb).1.lt;have k2:2^(qBB Ae m).length<=2^10:=J7 (by decide) (by lia)
 refine bo _ _ (cut λN4 bt=>?_);refine⟨_,rfl,fd,o,kvN kb fv,rfl,a4,λp2 aq=>?_⟩;refine qWU (p:=p2) (a:=fd) (o:=o) (Af:=kvN kb fv) (λi σ Hc=>∃(v:Option V),σ=[v,some (.int (g:Int))]/\Same H6 Hc/\Hc p2=some (.lst (((kb.take i).map λb=>decide (b &&& g=g)).map V.bl))) ?_ ?_ ?_ ?_
 ·exact⟨none,rfl,qA2 aq _,qA1⟩
 ·refineλi σ Hd hi b2=>opq λch b1=>?_;obtain⟨v,rfl,sd,_⟩:=b2;refine b1 ?_;exact sd _ _ a4
 ·refineλi kx v1 σ Hd hk ah=>opq λcn bb=>?_;obtain⟨v,rfl,sd,bk⟩:=ah;obtain⟨x,e,rfl⟩:=qY4 hk;refine bb ?_;have hi:=(A4.mp e).1;refine⟨_,rfl,_,rfl,_,_,rfl,rfl,_,rfl,rfl,?_⟩;have c7:decide (V.int (M9 (x:Int) (g:Int))=V.int (g:Int))=decide (x &&& g=g):=decide_eq_decide.mpr ⟨λz=>by have:=V.int.inj z;rw[qEE] at this;lia,λz=>by rw[qEE,z]⟩
  refine⟨_,bk,qBK (by rw[A0,A0,C4];lia),_,rfl,qAC sd aq,?_⟩
  dsimp only;rw[qA1,C5,e,C6,B3,B3,c7]
  rfl
 refineλσ H7 ap=>opq λck an=>?_;obtain⟨v,rfl,s7,ab⟩:=ap;refine an ?_;rw[qM3,O3] at ab;refine⟨p2,_,rfl,SqL.of ab,_,rfl,?_⟩;have a0:(!((kb.map λb=>decide (b &&& g=g)).any id))=true↔∀b∈kb,¬b &&& g=g:=by
  rw[A62,G4,ne_eq,X7]
  constructor
  ·exactλh b hb al=>h ⟨_,D8.mpr ⟨b,hb,rfl⟩,decide_eq_true al⟩
  ·refineλh b3=>opq λce b7=>?_;obtain⟨z,hz,e⟩:=b3;obtain⟨b,hb,rfl⟩:=D8.mp hz;refine b7 ?_;exact h b hb (of_decide_eq_true e)
 generalize (!((kb.map λb=>decide (b &&& g=g)).any id))=av at a0 ⊢;clear ab kl;have ac:=bh.trans s7;have ay:=s7 _ _ a4;have S7:=S2.same ac;refine bt _ _ (cut λN5 br=>?_);refine⟨_,rfl,_,rfl,_,rfl,_,rfl,_,rfl,_,rfl,_,rfl,u,_,rfl,.inr (.inl (a8.same ac)),?_⟩;rw[A0];have cg:kb.length<=1024:=by
  have:kb.length<=2^(qBB Ae m).length:=qDM C.nd λb hb=>(C.snd b hb).1.lt
  lia
 refine⟨d,c,fd,_,c0,m.length,kb,rfl,S7,(by show k1+1<=1000000000-20000;lia),by lia,by lia,.inr ⟨o,fv,ay⟩,λl rs ss k8 bq H8 S8 u1 u2 K8 gl SL pm=>?_⟩
 rw[<- c9] at pm;have cq:ss.length<=1024:=by rw[pm.length_eq,A0];lia
 refine⟨(by show 2<=B18;decide),λT bg=>?_⟩
 have f9:=qA2 bg (.tup [.ref u,.ref l]);have gT:(Ag H8 T (.tup [.ref u,.ref l])) T=some (.tup [.ref u,.ref l]):=qA1;have a5:Keep d c H2 (Ag H8 T (.tup [.ref u,.ref l])):=(Keep.of_same ac).trans (K8.trans (.of_same f9));have ba:=f9 _ _ gl;have aj:=SL.same f9;have S9:=S8.same f9;generalize Ag H8 T (.tup [.ref u,.ref l])=H9 at gT a5 ba aj S9 ⊢;have c1:BareT H9 u (m.map V.int):=by
  obtain⟨oo,e,z⟩:=ag;exact⟨oo,a5 _ _ e a9.1 a9.2,z⟩
 have bi:qB9 m Ad≠[]:=λe=>by
  obtain⟨y,hy,bn⟩:=hx;obtain⟨j,hj⟩:=F9 bn;have:(j:Int)∈qB9 m Ad:=(qBR rW.nodup).mpr ⟨by lia,y,by rw[B8];exact hj,hy⟩
  rw[e] at this;cases this
 have wp:=qBU wf rW;have as:=qPQ wp C pm;have NW:=qZI (show 0<=Aa by lia) as
 have au:=am.keep S2 a5;have b0:=a5 _ _ a6 (S2.tup a6).1 (S2.tup a6).2;refine⟨a,t,T,u,l,Ae,Ad,m,Aa,rs,ss,rfl,au,wf,by lia,⟨b0,rA⟩,⟨gT,c1,ba,aj⟩,rW,bi,by lia,NW,λr HA sA a3=>?_⟩
 have eq:r=av:=by
  rw[<- hwt,<- qXC wf rW C pm (Ad:=Ad),<- a3] at a0;cases r<;>cases av<;>simp_all
 subst eq;have c3:=S9.same sA;have b4:Keep d c H HA:=aa.trans (a5.trans (.of_same sA));refine br _ _ (cut λN6 bs=>?_);refine⟨_,rfl,_,"bool",_,true,rfl,.bl _,rfl,true,rfl,?_⟩;refine⟨_,rfl,_,rfl,rfl,_,rfl,?_⟩;rw[decide_eq_true (show V.bl r=V.bl r from rfl)];refine bs _ _ ?_;have b8:∀HB,Same HA HB->Q (.bl true) HB:=λHB sB=>q _ bq HB (c3.same sB) (by lia) (by lia) (b4.trans (.of_same sB))
 refine⟨_,rfl,_,rfl,?_⟩;cases r with
 |false=>exact⟨true,rfl,b8 _ (λ_ _ e=>e)⟩
 |true=>
  have bw:=a3.mp rfl;have lt:=qZD wf rW bu bp bc λs hs=>bw s ((as s).mpr hs);have nd:=LR.2.2 Aa ai lt;refine⟨false,rfl,_,rfl,_,rfl,_,_,rfl,rfl,true,congrArg V.bl (decide_eq_true lt),?_⟩;refine⟨_,rfl,_,rfl,_,rfl,a,t,Ae,Ad,wn,Aa,rfl,b4 _ _ a2 nP.1 nP.2,au.same sA,wf,by lia,⟨sA _ _ b0,rA⟩,a1,N,λdn=>absurd dn nd,λ_ T' cr l' cl cs HB sB _ _ _ _ _ _=>?_⟩
  exact b8 _ sB
theorem sc_law:FnScope ["_law_script","_law_state","_law_net_here","_law_asked_here","_law_most","_law_turn","_law_few_here","_law_thing","_law_told"] ["_law_script"] (qAB qK6):=qBN
theorem ok_law (F:Fun K "law" "law" qK6 f fd) (qIU:Clb P w K mg base 1 qMA qUY "_law_begin" ["_law_script"] (qT1 K)) (qRJ:Clb P w K mg base 4 qV1 qa5 "_law_few" ["_law_state"] qXP) (qIV:Clb P w K mg base 2 qMB qUZ "_law_asked" ["_law_state","_law_net_here"] qT2) (qIT:Clb P w K mg base 5 qM8 qUW "fewest" ["net","asked"] (qXO Pt)) (qE0:Clb P w K mg base 7 qFO qM7 "_law_one_right" ["_law_state","_law_net_here","_law_asked_here","_law_most"] (qSW Pt)) (qC7:Clb P w K mg base 2 qDX qH9 "_law_stands_of" ["_law_state","_law_found","_law_many"] qHI) (qBW:Clb P w K mg base 6 qD7 qG8 "shows_never" ["net","asked","rooms","thing"] qLF) (qB5:mg "len" = none) (qAP:mg "range" = none) (qLB:mg "int" = none) (qOH:mg "sum" = none) (qAI:mg "tuple" = none) (qAT:mg "isinstance" = none) (qKE:mg "bool" = none):FnOk P w K mg base CX0 8 f fd ["_law_script"] (qQ4 K Pt):=by
 refine F.okA sc_law λch A bh s H vs Q E hr h=>?_;obtain⟨bd,sc,ns,rfl,hS,bq,q⟩:=h;refine⟨_,(qA4 (qAF (i:=1) sc_law.nd rfl (E6 rfl) (qAS qIU hr rfl (qA0 (pv 0) qA3))) (qA4 (qAF (i:=2) sc_law.nd rfl (d7 rfl) (qAS qRJ hr rfl (qA0 (pv 1) qA3))) (qA4 (qAF (i:=3) sc_law.nd rfl (E6 rfl) (qAS qIV hr rfl (qA0 (pv 1) (qA0 (pv 2) qA3)))) (qA4 (qAF (i:=4) sc_law.nd rfl (d7 rfl) (qBQ qCD (qAS qIT hr rfl (qA0 (pv 2) (qA0 (pv 3) qA3))) qA7 (λ_ _=>rfl))) (qA4 (qBX D9 rfl (qAY rfl qAP (qA0 (qBQ qCU (qBP (qA0 qA7 (qA0 qA7 qA3))) (qAD qHC rfl qLB qO6 (qA0 (qCT qRV (qA9 qA8 rfl qB5 qB1 (qA0 (pv 2) qA3)) qA7 (qAW _)) qA3)) (λ_ _=>rfl)) qA3)) (qAZ (i:=5) sc_law.nd rfl (E6 rfl)) (qA6 (qC0 (qGS (qF1 (qAS qE0 hr rfl (qA0 (pv 1) (qA0 (pv 2) (qA0 (pv 3) (qA0 (pv 4) qA3))))))) (qA6 (qAH qF3)) qAR))) (qA4 (qC0 (PW.pt (qOR (qAQ qRV (qA9 qA8 rfl qB5 qB1 (qA0 (pv 2) qA3)) qA7 (qAW _)) (qJ9 (qAQ qFC (pv 4) qA7 (qAW _))))) (qA6 (qAH qF3)) qAR) (qA4 (qd0 (i:=6) sc_law.nd rfl rfl rfl (los (own:=["_law_bits_here"]) (fv:=[2,4]) (by kernel_rfl)) (qAY rfl qAP (qA0 (qAN qNB qA7 (qA9 qA8 rfl qB5 qB1 (qA0 (pv 2) qA3))) qA3)) (λz1=>qAZ (i:=0) (qbQ (by kernel_rfl)) rfl (d7 rfl)) (λz1=>(qDF (qAQ qNC (qA9 (qO0 (K:=K) rfl rfl) rfl qOH qRD (qA0 (qCR (X:=qE6 _ _ _ _ z1) rfl (lcs (own:=["_law_k"]) (fv:=[0]) (by kernel_rfl)) (qAY rfl qAP (qA0 (qA9 (qVL (K:=K) rfl) rfl qB5 qB1 (qA0 (pv 1) qA3)) qA3)) (λz2=>qBO 0) (λz2=>qB6) (λz2=>(qAN qKP (qAN qQS (pv 1) (pv 0)) qA7))) qA3)) (pv 2) (qAW _)))) (λz1=>(pv 0)) (by kernel_rfl)) (qA4 (qAF (i:=7) sc_law.nd rfl (E6 rfl) (qCX (qA0 (qAD (qFP rfl) rfl qAI qAM (qA0 (qAD qO3 rfl qAP qMO (qA0 (qA9 qA8 rfl qB5 qB1 (qA0 (pv 2) qA3)) qA3)) qA3)) (qA0 (qAS qC7 hr rfl (qA0 (pv 1) (qA0 (pv 6) (qA0 (qA9 qA8 rfl qB5 qB1 (qA0 (pv 2) qA3)) qA3)))) qA3)))) (qA4 (qAF (i:=8) sc_law.nd rfl (E6 rfl) (qAS qBW hr rfl (qA0 (pv 2) (qA0 (pv 3) (qA0 (qAN qDH (pv 4) qA7) (qA0 (pv 7) qA3)))))) (qA6 (qAH (qJD (qA9 qBT rfl qAT qBM (qA0 (pv 8) (qA0 (qGB (v:=.ty "bool") rfl qKE qPT rfl) qA3))) (qI2 (qCT qFC (pv 8) (qCT qWH (qA9 qA8 rfl qB5 qB1 (qA0 (pv 3) qA3)) (pv 4) (qAW _)) (qAW _))))))))))))))),?_⟩
 try dsimp only[Cx.nox,Cx.wish,cxOf]
 refine cut λN0 bi=>?_;refine⟨_,rfl,sc,ns,rfl,hS,bq,λd c ms H1 S1 bu cq ci=>?_⟩;have ag:TabB H1 Pt:=bu _ _ bd;have af:Pt≠d:=qCB ag S1.dict (by intro z;cases z)
 have aa:Pt≠c:=qCB ag S1.list (by intro z;cases z)
 refine bi _ _ (cut λN1 c3=>?_);refine⟨_,rfl,d,c,0,ms,rfl,S1,(by show(0:Int)<=1000000000-20000;decide),λa g t2 c4 H2 S2 g1 g2 K2 hN wf n1 bn=>?_⟩
 have c5:TabB H2 Pt:=K2 _ _ ag af aa;refine c3 _ _ (cut λN2 bp=>?_);refine⟨_,rfl,_,rfl,d,c,t2,c4,a,g,rfl,S2,(by show t2<=1000000000-100;lia),hN,wf,n1,by lia,λta Ad t3 bm H3 S3 g5 g6 K3 hW rA a1=>?_⟩
 have as:=hN.keep S2 K3;have aw:TabB H3 Pt:=K3 _ _ c5 af aa;obtain⟨ws,N⟩:=qND wf rA;have lA:=rA.len;refine bp _ _ (cut λN3 am=>?_);refine⟨_,rfl,_,rfl,a,ta,g,Ad,rfl,aw,as,wf,by lia,⟨hW,rA⟩,a1,λT l r mv H4 s4 FO fl PL gT=>?_⟩
 have LR:=FO.lr N;have r1:=LR.1;have lw:=N.1.len;have cp:=LR.le wf N rA a1;obtain⟨b9,run,bg,bt,cb⟩:=FO.run wf rA (by lia)
 refine⟨T,_,_,_,rfl,rfl,SqT.of gT,rfl,?_⟩;have S4:=S3.same s4;have ae:=as.same s4;have m:=s4 _ _ hW;have c6:TabB H4 Pt:=s4 _ _ aw;clear gT PL fl FO;obtain⟨ra,hA,NL⟩:=id ae;have a0:=C3 NL;refine am _ _ (cut λN4 b6=>?_);refine⟨(by show 2<=B18;decide),λli bj=>?_⟩
 have f5:=qA2 bj (.lst [V.int 4,V.int 2]);have ar:(Ag H4 li (.lst [V.int 4,V.int 2])) li=some (.lst [V.int 4,V.int 2]):=qA1;generalize Ag H4 li (.lst [V.int 4,V.int 2])=H5 at f5 ar ⊢;refine⟨_,rfl,a,_,rfl,.inr (SqT.of (f5 _ _ hA)),_,_,rfl,rfl,.inr ⟨_,rfl,li,_,_,_,rfl,rfl,SqL.of ar,qbF _,?_⟩⟩;have vb:0<=(if decide ((7:Int)<(((ra.map V.ref).length:Nat):Int))=true then(2:Int) else 4)/\(if decide ((7:Int)<(((ra.map V.ref).length:Nat):Int))=true then(2:Int) else 4)<=4:=by split<;>lia
 generalize (if decide ((7:Int)<(((ra.map V.ref).length:Nat):Int))=true then(2:Int) else 4)=b5 at vb
 refine⟨b5,rfl,by lia,by lia,qFI (lo:=0) (n:=b5.toNat) (λi σ Hd=>∃(t:Int) (ms:List Int) (v5:Option V),σ=[some (.ref sc),some (.ref d),some (.ref a),some (.ref ta),some (.int r),v5,none,none,none]/\StAt Hd d c t ms/\t<=3000+6000*i/\Keep d c H4 Hd)
  ⟨t3,bm,none,rfl,S4.same f5,by lia,.of_same f5⟩ ?_ ?_⟩
 ·refineλi σ Hd hi ao=>opq λcd b7=>?_;obtain⟨t,ms,v5,rfl,S6,tb,K6⟩:=ao;refine b7 ?_;refine⟨_,rfl,_,rfl,_,rfl,_,rfl,d,c,a,ta,t,ms,g,Ad,ws,r,mv,b9,rfl,S6,(by show t<=1000000000-30000;lia),K6 _ _ c6 af aa,ae.keep S4 K6,wf,n1,bn,⟨K6 _ _ m (S4.tup m).1 (S4.tup m).2,rA⟩,a1,N,LR,by lia,run,bt,bg,λt' c2 H' S' u1 u2 K'=>⟨_,rfl,?_⟩⟩
  exact⟨t',c2,_,rfl,S',by lia,K6.trans K'⟩
 refineλσ H6 ai=>opq λcm ah=>?_;obtain⟨t6,bk,v5,rfl,S6,cu,K6⟩:=ai;refine ah ?_;have a2:=K6 _ _ hA (S4.tup hA).1 (S4.tup hA).2;have bz:=ae.keep S4 K6;have u:=K6 _ _ m (S4.tup m).1 (S4.tup m).2;refine b6 _ _ (cut λN5 bx=>?_);refine⟨_,rfl,a,_,rfl,.inr (SqT.of a2),_,_,rfl,rfl,_,rfl,?_⟩;rw[A0,a0];refine ite2 (λ_=>?_) (λc7=>?_)
 ·exact q _
 refine⟨_,rfl,rfl,_,rfl,?_⟩;refine ite2 (λ_=>?_) (λc1=>?_)
 ·exact q _
 have n7:g.length<=7:=by
  apply F0;intro z;exact c7 (decide_eq_true (by lia))
 have r2:2<=r:=by
  apply F0;intro z;exact c1 (decide_eq_true (by rw[show r=1 by lia]))
 refine bx _ _ (cut λN6 be=>?_);have p7:2^g.length<=2^7:=J7 (by decide) n7
 refine⟨_,rfl,a,_,rfl,.inr (SqT.of a2),_,_,rfl,rfl,(by show CPow _ _;rw[A0,a0];exact⟨by lia,by lia,by decide⟩),?_⟩
 dsimp only;rw[A0,a0,B8,qLS];refine⟨_,rfl,Int.le_trans (by decide) (R5 _),Int.lt_of_le_of_lt (Int.ofNat_le.mpr p7) (by decide),λp hp=>?_⟩
 have co:p≠d:=(qA5 S6.dict hp).symm;have ca:p≠c:=(qA5 S6.list hp).symm;refine qBV (p:=p) (lo:=0) (n:=(((2^g.length:Nat):Int)).toNat) (λi σ Hc=>∃(v:Option V),σ=[v,some (.ref a),some (.int r)]/\Same H6 Hc/\Hc p=some (.lst ((natI ((F6 i).filter λb=>decide ((cntN g.length b:Int)<r))).map V.int))) ?_ ?_ ?_
 ·exact⟨none,rfl,qA2 hp _,qA1⟩
 ·refineλi σ Hc hi b8=>opq λcr ax=>?_;obtain⟨v,rfl,sm,c9⟩:=b8;refine ax ?_;rw[B8] at hi;have ab:=sm _ _ a2;refine⟨_,rfl,a,_,rfl,.inr (SqT.of ab),?_⟩;rw[A0,a0];refine⟨_,rfl,by lia,by lia,λp2 au=>?_⟩
  refine qBV (p:=p2) (lo:=0) (n:=((g.length:Int)).toNat) (λk σ Hd=>∃(v:Option V),σ=[v,some (.int (0+(i:Int)))]/\Same Hc Hd/\Hd p2=some (.lst ((((F6 k).map λk=>((i/2^k%2:Nat):Int))).map V.int))) ?_ ?_ ?_
  ·exact⟨none,rfl,qA2 au _,qA1⟩
  ·refineλk σ Hd hk b2=>opq λcg ay=>?_;obtain⟨v,rfl,sd,a3⟩:=b2;refine ay ?_;have e0:(0+(k:Int)).toNat=k:=by lia
   refine⟨_,rfl,_,rfl,_,_,rfl,rfl,(by show(0:Int)<=0+(k:Int);lia),_,_,rfl,rfl,_,a3,qAE (by rw[A0,A0,W5];lia),_,rfl,qAC sd au,?_⟩
   dsimp only;rw[qA1,e0,Y5,qFQ,Z0,B3,B3]
   rfl
  refineλσ Hd ak=>opq λcn bf=>?_;obtain⟨v,rfl,sd,a3⟩:=ak;refine bf ?_;rw[B8] at a3;refine⟨p2,_,rfl,SqL.of a3,_,rfl,_,_,rfl,rfl,_,rfl,?_⟩;dsimp only;rw[qML,show((F6 g.length).map λk=>i/2^k%2).sum=cntN g.length i from rfl,Z0,o5,qWL];have a7:=sd _ _ c9;have lf:=J2 (λb=>decide ((cntN g.length b:Int)<r)) (F6 i);rw[W5] at lf;by_cases cc:(cntN g.length i:Int)<r
  ·rw[decide_eq_true cc];refine⟨_,rfl,_,a7,qBK (by rw[A0,qEM];lia),_,rfl,qAC (sm.trans sd) hp,?_⟩
   rw[qA1,L8,if_pos (decide_eq_true cc),Y5,B3]
   rfl
  ·rw[decide_eq_false cc];refine⟨_,rfl,sm.trans sd,?_⟩;rw[L8,if_neg (by rw[decide_eq_false cc];exact B1),a7]
   simp[natI]
 refineλσ H7 aq=>opq λcj ap=>?_;obtain⟨v,rfl,s7,gp⟩:=aq;refine ap ?_;rw[B8] at gp;have a8:∀b,b∈(F6 (2^g.length)).filter (λb=>decide ((cntN g.length b:Int)<r))↔b<2^g.length/\(cntN g.length b:Int)<r:=λb=>by rw[C9,G1,decide_eq_true_eq]
 have lB:((F6 (2^g.length)).filter (λb=>decide ((cntN g.length b:Int)<r))).length<=128:=F3 (J2 _ _) (by rw[W5];lia)
 generalize (F6 (2^g.length)).filter (λb=>decide ((cntN g.length b:Int)<r))=B at gp a8 lB;refine be _ _ (cut λN7 bo=>?_);have ab:=s7 _ _ a2;refine⟨_,rfl,a,_,rfl,.inr (SqT.of ab),?_⟩;rw[A0,a0];refine⟨_,rfl,λpr c0=>?_⟩;have f8:=qA2 c0 (.rng 0 (g.length:Int));refine⟨pr,_,_,rfl,qA1,by lia,by lia,by lia,by lia,λtw o c8 oc od=>?_⟩
 have f9:=f8.trans (qA2 c8 (.frz o (.tup (qDD 0 (g.length:Int)))));have ad:BareT (Ag (Ag H7 pr (.rng 0 (g.length:Int))) tw (.frz o (.tup (qDD 0 (g.length:Int))))) tw ((qAV 0 (g.length:Int)).map V.int):=⟨o,by rw[qA1,qGA],oc,od⟩
 have a4:=s7.trans f9;have b0:=f9 _ _ gp;have S9:=S6.same a4;generalize Ag (Ag H7 pr (.rng 0 (g.length:Int))) tw (.frz o (.tup (qDD 0 (g.length:Int))))=H9 at ad a4 b0 S9 ⊢;have bc:tw≠d/\tw≠c:=by
  obtain⟨o,e,_⟩:=ad;exact⟨qCB e S9.dict (by intro z;cases z),qCB e S9.list (by intro z;cases z)⟩
 refine⟨_,rfl,_,rfl,_,rfl,a,_,rfl,.inr (SqT.of (a4 _ _ a2)),?_⟩;rw[A0,a0];refine⟨d,c,p,t6,bk,g.length,B,rfl,S9,(by show t6<=1000000000-20000;lia),by lia,by lia,.inl ⟨ca,b0⟩,λl2 rs ss k8 ck ac ce u1 u2 b1 br SL pm=>?_⟩
 have cs:ss.length<=128:=by rw[pm.length_eq,A0];exact lB
 have aj:=(Keep.of_same a4).trans b1;refine⟨(by show 2<=B18;decide),λT2 bs=>?_⟩
 have a5:=qA2 bs (.tup [.ref tw,.ref l2]);have az:(Ag ac T2 (.tup [.ref tw,.ref l2])) T2=some (.tup [.ref tw,.ref l2]):=qA1;have an:=a5 _ _ br;have av:=SL.same a5;have j:=aj.trans (.of_same a5);have a9:BareT (Ag ac T2 (.tup [.ref tw,.ref l2])) tw ((qAV 0 (g.length:Int)).map V.int):=by
  obtain⟨o,e,z⟩:=ad;exact⟨o,a5 _ _ (b1 _ _ e bc.1 bc.2),z⟩
 generalize Ag ac T2 (.tup [.ref tw,.ref l2])=ct at az an av j a9 ⊢;have rr:Rise (g.length:Int) (qAV 0 (g.length:Int)):=qEJ (by lia)
 have bb:qB9 (qAV 0 (g.length:Int)) Ad=Ad:=qHH (qI0 rr.up rA.up) rA.up λx=>by
  rw[show x∈qB9 (qAV 0 (g.length:Int)) Ad↔_ from qBR rr.nodup]
  constructor
  ·refineλb4=>opq λcf ba=>?_;obtain⟨x0,y,e,hy⟩:=b4;refine ba ?_;have hx:=(A4.mp e).1;rw[qC6] at hx;have:=qBL (n:=g.length) (i:=x.toNat) (by lia)
   rw[e] at this;have:=D5 this;rw[show x=y by lia]
   exact hy
  ·intro hx;have:=rA.in_ x hx;exact⟨this.1,x,by rw[qBL (by lia)];congr 1;lia,hx⟩
 obtain⟨NW,b3⟩:=qa3 wf rfl r2 a8 pm;refine bo _ _ (cut λN8 bv=>?_);refine⟨_,rfl,_,rfl,_,rfl,_,_,rfl,rfl,_,rfl,a,ta,T2,tw,l2,g,Ad,qAV 0 (g.length:Int),r-1,rs,ss,rfl,bz.keep S6 j,wf,by lia,⟨j _ _ u (S6.tup u).1 (S6.tup u).2,rA⟩,⟨az,a9,an,av⟩,rr,by rw[bb];intro z;rw[z] at a1;simp at a1,by lia,by rw[qWG wf];exact NW,λa6 cl bw ht=>?_⟩
 rw[bb] at ht;have eq:a6=decide (r<=(Ad.length:Int)):=by
  rw[J4,ht,decide_eq_true_eq]
  constructor
  ·intro h;apply F0;intro z;exact h Ad ((b3 Ad).mpr ⟨rA,by lia⟩) λx hx=>hx
  ·intro h s hs al;have:=((b3 s).mp hs).2;have:=qOI rA.nodup al
   lia
 refine bv _ _ ?_;refine⟨_,rfl,_,"bool",_,true,rfl,.bl _,rfl,true,rfl,?_⟩;refine⟨_,rfl,_,rfl,ta,_,rfl,.inr (SqT.of (bw _ _ (j _ _ u (S6.tup u).1 (S6.tup u).2))),_,rfl,_,_,rfl,rfl,rfl,?_⟩;dsimp only;rw[A0];have e2:decide (V.bl a6=V.bl (decide (r<=(Ad.length:Int))))=true:=decide_eq_true (congrArg V.bl eq);rw[e2];exact q _
end
theorem all_mk {l:PySem.W.OpenLaw} {w:World} {K:PySem.W.Frag} {h:Heap} {mg:Str->Option Value} {fa b1 b4 ad al ac aw n au o x av q aj bd b7 ag ak d ba bk bb a2 ay y b0 ao p t be a6 bi a8 a4 a0 af ap f:Addr} (X:K.In h) (G:h.Ns B30 mg) (bg:mg "law" = some (.ref fa))
  {b3 b8 a1 j:Option Addr} {b2 aa:Array (Option Value)} {ar bj az u r ax g i m b k:Value}
  {qEW qGK:Addr}
  (T_is_number:Tf K "is_number" qEH b1)
  (T_is_below:Tf K "is_below" qFW b4)
  (T_is_rising:Tf K "is_rising" qEG ad)
  (T_is_pair:Tf K "is_pair" qGP al)
  (T_is_stand:Tf K "is_stand" qFV ac)
  (T_fault_of_do:Tf K "fault_of_do" qD2 aw)
  (T_fault_of:Tf K "fault_of" qFX n)
  (T_stand_behind:Tf K "stand_behind" qCJ au)
  (T_has_all:Tf K "has_all" qGQ o)
  (T_moves_of:Tf K "moves_of" qFU x)
  (T_all_needed:Tf K "all_needed" qDP av)
  (T_renumbered:Tf K "renumbered" qDN q)
  (T_part_net:Tf K "part_net" qFT aj)
  (T_are_closed:Tf K "are_closed" qDO bd)
  (T_never_come_to:Tf K "never_come_to" qCA b7)
  (T_shows_never:Tf K "shows_never" qD0 ag)
  (T_stands_reached:Tf K "stands_reached" qAG ak)
  (as:n8 K B30 "best_end" = some (some (.ref d))) (ae:K.lookup d=some ⟨ar,b3,.func (Q5 "best_end" "best_end" (qEV qCG) (qBC qCG) (qAB qCG) .none bj az u b8 (.ref qEW) r),b2⟩) (a5:c9 K (.ref qEW) "best_end" = true) (am:Q4 K (.ref d)=true)
  (T_plan_to:Tf K "plan_to" qGO ba)
  (T_part_numbers:Tf K "part_numbers" qCK bk)
  (T_fewest:Tf K "fewest" qIM bb)
  (T_never_paper:Tf K "never_paper" qD1 a2)
  (T_Lbegin:Tf K "_law_begin" qIO ay)
  (T_Ltake:Tf K "_law_take" qLM y)
  (T_Lsome_needs:Tf K "_law_some_needs" qD3 b0)
  (T_Ltree_net:Tf K "_law_tree_net" qEI ao)
  (T_Lnet:Tf K "_law_net" qQ9 p)
  (T_Lasked:Tf K "_law_asked" qIP t)
  (T_Lneeded:Tf K "_law_needed" qGR be)
  (T_Lcome:Tf K "_law_come" qLO a6)
  (T_Lpart:Tf K "_law_part" qLN bi)
  (T_Lbits:Tf K "_law_bits" qLP a8)
  (T_Lfew:Tf K "_law_few" qQA a4)
  (T_Lworks:Tf K "_law_works" qIN a0)
  (T_Lstands_of:Tf K "_law_stands_of" qDQ af)
  (T_Lone_right:Tf K "_law_one_right" qDR ap)
  (bh:n8 K B30 "law" = some (some (.ref f))) (ah:K.lookup f=some ⟨ax,a1,.func (Q5 "law" "law" (qEV qK6) (qBC qK6) (qAB qK6) .none g i m j b k),aa⟩) (a7:c9 K b "law" = true) (bf:Q4 K (.ref f)=true)
  (qEP:hdIn K qEW qGK=true)
  (Z:Zs K ["all","any","bool","dict","divmod","enumerate","int","isinstance","len","list","max","min","range","set","sorted","sum","tuple"])
  : ∃fd:B37,(∀(s:Shared) (v:Value),BindsTo s fd ⟨[v],[]⟩ [("_law_script",v)])/\∀base:Heap,K.In base->base.Ns B30 mg->BM mg base->FnOk l.prog w K mg base CX0 8 fa fd ["_law_script"] (qQ4 K qGK):=by
 have e:=bg.symm.trans (A47 X G bh);cases e;have a:=fun_mk (st:=qCG) ae a5 am;have ab:=a.binds (ps:=["reached","asked"]) λ_ _ _ _ _ _ us hl=>us2 us hl (λ_ _=>rfl);have b5:=A47 X G as;have a9:=fun_mk (st:=qK6) ah a7 bf;obtain⟨cf,bn,aq,c7,c6,c3,an,z,bc,c5,c0,b6,a3,cl,bv,ai,b9,_⟩:=Z.mg X G;refine⟨Q5 "law" "law" (qEV qK6) (qBC qK6) (qAB qK6) .none g i m j b k,λs v=>.of_eq rfl,λbase _ _ hBM=>?_⟩;have B:Bs l.prog w base:=⟨rfl,rfl,rfl⟩;obtain⟨_,c8⟩:=T_is_number.c X G B λ_ F=>by apply ok_is_number<;>assumption
 obtain⟨_,bq⟩:=T_is_below.c X G B λ_ F=>by apply ok_is_below<;>assumption
 obtain⟨_,bs⟩:=T_is_rising.c X G B λ_ F=>by apply ok_is_rising<;>assumption
 obtain⟨_,bo⟩:=T_is_pair.c X G B λ_ F=>by apply ok_is_pair<;>assumption
 obtain⟨_,bz⟩:=T_is_stand.c X G B λ_ F=>by apply ok_is_stand<;>assumption
 obtain⟨_,bl⟩:=T_fault_of_do.c X G B λ_ F=>by apply ok_fault_of_do<;>assumption
 obtain⟨_,c2⟩:=T_fault_of.c X G B λ_ F=>by apply ok_fault_of<;>assumption
 obtain⟨_,cc⟩:=T_stand_behind.c X G B λ_ F=>by apply ok_stand_behind<;>assumption
 obtain⟨_,qEF⟩:=T_has_all.c X G B λ_ F=>by apply ok_has_all<;>assumption
 obtain⟨_,cd⟩:=T_moves_of.c X G B λ_ F=>by apply ok_moves_of<;>assumption
 obtain⟨_,ch⟩:=T_all_needed.c X G B λ_ F=>by apply ok_all_needed<;>assumption
 obtain⟨_,bm⟩:=T_renumbered.c X G B λ_ F=>by apply ok_renumbered<;>assumption
 obtain⟨_,ck⟩:=T_part_net.c X G B λ_ F=>by apply ok_part_net<;>assumption
 obtain⟨_,cm⟩:=T_are_closed.c X G B λ_ F=>by apply ok_are_closed<;>assumption
 obtain⟨_,bp⟩:=T_never_come_to.c X G B λ_ F=>by apply ok_never_come_to<;>assumption
 obtain⟨_,qBW⟩:=T_shows_never.c X G B λ_ F=>by apply ok_shows_never<;>assumption
 obtain⟨_,ci⟩:=T_stands_reached.c X G B λ_ F=>by apply ok_stands_reached<;>assumption
 have cb:=Clb.mk (ok_best_end (P:=l.prog) (w:=w) (mg:=mg) (base:=base) (F:=a) (qEF:=qEF) (qMR:=b6) (hcd:=rfl) (hBM:=hBM) (qEP:=qEP)) ab a.kp b5;obtain⟨_,bu⟩:=T_plan_to.c X G B λ_ F=>by apply ok_plan_to<;>assumption
 obtain⟨_,bt⟩:=T_part_numbers.c X G B λ_ F=>by apply ok_part_numbers<;>assumption
 obtain⟨_,qIT⟩:=T_fewest.c X G B λ_ F=>by apply ok_fewest<;>assumption
 obtain⟨_,c4⟩:=T_never_paper.c X G B λ_ F=>by apply ok_never_paper<;>assumption
 obtain⟨_,qIU⟩:=T_Lbegin.c X G B λ_ F=>by apply ok_Lbegin<;>assumption
 obtain⟨_,cj⟩:=T_Ltake.c X G B λ_ F=>by apply ok_Ltake<;>assumption
 obtain⟨_,bw⟩:=T_Lsome_needs.c X G B λ_ F=>by apply ok_Lsome_needs<;>assumption
 obtain⟨_,cn⟩:=T_Ltree_net.c X G B λ_ F=>by apply ok_Ltree_net<;>assumption
 obtain⟨_,bx⟩:=T_Lnet.c X G B λ_ F=>by apply ok_Lnet<;>assumption
 obtain⟨_,qIV⟩:=T_Lasked.c X G B λ_ F=>by apply ok_Lasked<;>assumption
 obtain⟨_,ca⟩:=T_Lneeded.c X G B λ_ F=>by apply ok_Lneeded<;>assumption
 obtain⟨_,ce⟩:=T_Lcome.c X G B λ_ F=>by apply ok_Lcome<;>assumption
 obtain⟨_,br⟩:=T_Lpart.c X G B λ_ F=>by apply ok_Lpart<;>assumption
 obtain⟨_,cg⟩:=T_Lbits.c X G B λ_ F=>by apply ok_Lbits<;>assumption
 obtain⟨_,qRJ⟩:=T_Lfew.c X G B λ_ F=>by apply ok_Lfew<;>assumption
 obtain⟨_,c1⟩:=T_Lworks.c X G B λ_ F=>by apply ok_Lworks<;>assumption
 obtain⟨_,qC7⟩:=T_Lstands_of.c X G B λ_ F=>by apply ok_Lstands_of<;>assumption
 obtain⟨_,qE0⟩:=T_Lone_right.c X G B λ_ F=>by apply ok_Lone_right<;>assumption
 exact ok_law (P:=l.prog) (w:=w) (mg:=mg) (base:=base) (F:=a9) (qIU:=qIU) (qRJ:=qRJ) (qIV:=qIV) (qIT:=qIT) (qE0:=qE0) (qC7:=qC7) (qBW:=qBW) (qKE:=aq) (qLB:=an) (qAT:=z) (qB5:=bc) (qAP:=a3) (qOH:=ai) (qAI:=b9)
noncomputable def qYP:List LTab:=[⟨"best_end",123,121,"best_end.<locals>.<lambda>"⟩]
theorem walk {l:PySem.W.OpenLaw}{q:B20}{b:List Str}{XP:(Str->Option Value)->Heap->Prop}{YP:World->Heap->Prop}{d:DefRec}{K:Params->PySem.W.Frag}(hn:l.most=some 63)(j:d.params.defaults=[])
  (o:∀(w:World) (h:Heap),YP w h->(K w.params).In h)
  (g:∀t∈qYP,((PyProof.Rows.recsOf q).find? λe=>e.name==t.x).isSome=true) (i:∀(w:World),∀t∈qYP,B03 (K w.params) t.x=some (t.c,t.P)) (y:∀w:World,A30 (K w.params)=true)
  (F:∀ (w:World) (mg:Str->Option Value) (fa:Addr) (h:Heap),(K w.params).In h->h.Ns B30 mg->mg d.name=some (.ref fa)->
   ∃fd:B37,(∀(s:Shared) (u:Value),BindsTo s fd ⟨[u],[]⟩ [("_law_script",u)])/\∀base:Heap,(K w.params).In base->base.Ns B30 mg->BM mg base->FnOk l.prog w (K w.params) mg base CX0 8 fa fd ["_law_script"] (qQ4 (K w.params) 121)):
  PySem.W.WalkO q b XP YP l.row.toRowW d [] (λf vs=>A93 f vs):=
 L2.walk_ofT (n:=63) (k:=8) (x:="_law_script") (sp:=λw=>qQ4 (K w.params) 121) qYP hn (by decide) j ⟨rfl,by decide,by decide,rfl⟩ o g i y (λt h t' p _=>by rw[A6.mp h,A6.mp p]) F λ_ _ a m r v z=>⟨v _ E7,a,m,rfl,z,r,λ_=>rfl⟩
end Fw
open PySem PySem.W PyProof.Rows
set_option maxRecDepth 100000 in
set_option maxHeartbeats 0 in
theorem PySem.Challenge.cw_fewrooms_k33_papers_of_parts_holds : PySem.Challenge.rw_fewrooms_k33_papers_of_parts.Holds := by
 w_on;refine holds_law Fw.hpSaid λsaid=>?_
 refine holds_open (q:=Fw.hpQ) (Xt:=Fw.hpX) (XP:=XL Fw.hpQ []) (YP:=(kHook Fw.hpK Fw.hpA Fw.hpE).says)
  Fw.hpLeft (kHook Fw.hpK Fw.hpA Fw.hpE).of (kHook Fw.hpK Fw.hpA Fw.hpE).keeps (λs e=>xl_of s (A27.mp e).1) XL.keeps
  (by rfl) (by rfl) (by rfl) (λs e=>recFacts_of (A27.mp e).2) (by rfl)
  (by first|assumption|decide +kernel) (by decide +kernel) ⟨rfl,rfl,rfl,rfl,rfl,by decide +kernel⟩ ?hw ?hc
 case hw=>w_witness2
 k_fill
 refine Fw.walk (l:=PySem.Challenge.rw_fewrooms_k33_papers_of_parts) rfl rfl (λw h Y=>PySem.W.kIn_of Y) ?hrec ?htab ?hK ?F
 case hrec=>intro t ht;rw[A6.mp ht];kernel_rfl
 case htab=>intro w t ht;rw[A6.mp ht];kernel_rfl
 case hK=>intro w;kernel_rfl
 case F=>
  intro w mg fa h KX G hmg;refine' Fw.all_mk (qEW:=123) (qGK:=121) KX G hmg ?_ ?_ ?_ ?_ ?_ ?_ ?_ ?_ ?_ ?_ ?_ ?_ ?_ ?_ ?_ ?_ ?_ ?_ ?_ ?_ ?_ ?_ ?_ ?_ ?_ ?_ ?_ ?_ ?_ ?_ ?_ ?_ ?_ ?_ ?_ ?_ ?_ ?_ ?_ ?_ ?_ ?_ ?_ ?_ ?_
  any_goals first|exact⟨by k_is,_,L2.fun_mk (by k_is) (by k_is) (by k_is)⟩|k_is|kernel_rfl
  any_goals (repeat (refine⟨by k_is,?_⟩))
  any_goals exact trivial

