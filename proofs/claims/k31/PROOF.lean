import PyProof.Rows.All
import Wide.All
import OpenK.AllK
import Wide.FinOn
import Lean
import PyProof.EqAt
import PyProof.EqKinds
import PyProof.TupleCall
import PySem.Challenge.RW_fewrooms_k31_never_papers
open PySem.W renaming Frag→Ab1
abbrev Aa0:=List (List Int)
abbrev Aa1:=PySem.Value->PySem.Shared->Prop
abbrev Aa2:=List (PySem.Addr × PySem.Obj)
abbrev Ab0:=PySem.Str->Option PySem.Value
open PyProof.Rows renaming wpS_bind→B29,wpS_pure→B31,pendingOf→B32,IntsAre→B38,wpS_forRange→B43,wpS_modify→B48,wpS_mono→B56,SortKind→B61,pairsOf→B66,wpS_get→B75,reverseSlice'_eq→C02
open PySem renaming wpAny_bind→B26,wpAny_pure→B27,sizeLine→B28,Program→B30,bootBuiltins→B33,wpAny_holding→B34,starEach→B35,wpAny_newObj_type→B36,wpAny_call_entry→B37,sizeLine_eq→B39,mainGlobals→B40,wpAny_truthy_bool→B41,wpAny_mono→B42,codeAny_builtin→B44,wpAny_field→B45,compareOp→B46,wpAny_seqItems→B47,FuncData→B49,plainId_quiet→B50,wpAny_pyIter_list→B51,sysModules→B52,wpAny_rule→B53,wpAny_setState_of→B54,binaryOp→B55,wpAny_setField_rec→B57,wpAny_tryCatch→B58,Arguments→B59,wpAny_typeNameOfWhole_keyiter→B60,wpAny_typeOf→B62,wpAny_passesOwn→B63,codeAny→B64,wpAny_ite_false→B65,behindInMarks→B67,wpAny_attempt→B68,wpAny_pyIter_enum→B69,hashInt→B70,holding→B71,wpAny_setField→B72,codeAny_mono→B73,wpAny_typeNameOf_keyiter→B74,tupleKind_room_in1→B76,SetTable→B77,wpAny_of_eq→B78,intKind→B79,firstArgMember→B80,assignEach→B81,NameKind→B82,wpAny_askSetting→B83,wpAny_isInstance→B84,sliceBounds→B85,wpAny_letGo→B86,tupleKind→B87,GenState→B88,bindArgs→B89,wpAny_Call_Name_kw→B90,Keyword→B91,getItem→B92,call_meets→B93,storedH→B94,foldedSetIterable→B95,wpAny_pyNext_list_item→B96,keywordEach→B97,wpAny_standAt→B98,attributeBase→B99,wpAny_onRaise→C00,ZipApart→C01,wpAny_pyNext_list_end→C03,builtinLookup_eq_fast→C04,wpAny_notOrdered_dict→C05,builtinsNs→C06,wpAny_execs_nil→C07,letOwnedTupleGo→C08,wpAny_loadPart'→C09,wpAny_updateSeq_pair→C10,wpAny_pyIter_keyiter→C11
open Array renaming getElem?_eq_getElem→B8,length_toList→C6,toList_append→D8,getElem?_toList→E4,getD_eq_getD_getElem?→F3,toList_reverse→U4,toList_push→V3,perm_iff_toList_perm→Y0,toList_setIfInBounds→o9,getElem_toList→A29,toList→A73,toList_zip→A81,toList_map→A82
open Bool renaming false_ne_true→B4,eq_false_iff→E8,false_eq_true→G7,and_eq_true→J2,eq_iff_iff→J4,or_eq_true→X0,and_false→i9,true_and→l8,false_and→t7,and_eq_true_iff→A35,not_true→A52,false_or→B08
open Classical renaming byContradiction→O7,choose→A85
open Eq renaming symm→B24
open False renaming elim→W2
open ForInStep renaming yield→L6,done→j4
open Int renaming toNat_natCast→E1,le_refl→P1,emod_lt_of_pos→T5,natCast_nonneg→W5,emod_nonneg→X1,fdiv_eq_ediv_of_nonneg→X8,fmod_eq_emod_of_nonneg→o6,le_of_lt→p9,negSucc→A07,zero_add→A75,natCast_pow→A94
open List renaming length_map→A0,getElem?_eq_some_iff→A4,getElem?_eq_getElem→A5,mem_singleton→A7,length_append→B0,map_append→B1,mem_append→B3,mem_of_getElem?→B5,getElem?_map→B6,length_singleton→B9,size_toArray→C0,mem_cons→C1,mem_cons_of_mem→C3,take_of_length_le→C4,length_take→C5,take_add_one→C8,map_cons→D0,replicate→D2,mem_map→D5,length_cons→E2,mem_filter→E6,mem_cons_self→F4,mem_range→F5,mem_append_right→F7,pairwise_iff_getElem→F9,getElem?_append_right→G0,all_eq_true→G1,range→G2,length_drop→G3,getElem?_append_left→J3,getElem_of_mem→J7,length_eq_zero_iff→K9,length_nil→L5,length_replicate→L8,getElem?_eq_none→M6,pairwise_cons→O0,mem_of_mem_take→O1,not_mem_nil→O2,replicate_succ→O3,pairwise_map→O4,drop_eq_getElem_cons→O6,lookup_cons_self→O8,forIn_cons→O9,length_filterMap_le→P0,pairwise_append→P5,getElem?_of_mem→P7,append_assoc→Q4,filterMap_cons→Q7,mem_map_of_mem→R1,map_congr_left→R3,getD_eq_getElem?_getD→R4,filter_cons→R6,take_length→R7,length_filter_le→T8,mem_of_mem_drop→U3,replicate_succ'→U5,nodup_cons→U8,find?_cons→V0,drop_sublist→V2,length→V5,any_cons→V6,mem_reverse→V9,getElem?_set_self→W3,append_nil→W7,foldl_cons→W9,pairwise_reverse→X4,filterMap_append→X5,take_sublist→X6,flatten_cons→X7,mem_iff_getElem→Y1,drop_zero→Y6,lookup_cons→Y9,reverse_append→Z3,getElem?_take_of_lt→Z6,map_map→Z9,mem_filterMap→a9,mem_replicate→c5,drop_eq_nil_of_le→d7,drop_of_length_le→d8,length_pos_of_mem→f9,reverse_cons→i4,take_append_drop→j7,cons_append→k5,getElem_mem→k6,any_eq_true→k7,mem_append_left→k9,getElem?_set_ne→l6,sum_cons→m6,length_reverse→m7,nil_append→m8,length_pos_iff→o5,zip_cons_cons→p7,map_nil→p8,map_singleton→t6,drop_drop→t8,mem_of_find?_eq_some→t9,getElem?_zip_eq_some→u7,getElem_take→y4,getElem_drop→y7,reverse_perm→z8,pairwise_lt_range→A11,of_mem_zip→A13,length_set→A14,perm_append_comm→A16,length_zip→A17,range_succ→A21,reverse_reverse→A30,getElem_toArray→A33,forIn_nil→A38,filter_eq_self→A43,map_eq_nil_iff→A44,getElem?_drop→A55,filter_append→A58,any_eq_false→A61,foldl_append→A65,ext_getElem?→A68,mapM_toArray→A70,length_range→A71,nodup_append→A72,map_set→A76,find?_some→A93,foldl_nil→A96,drop_take→A97,mapM_cons→A99,foldl→B01,all_cons→B07,findIdx?→B10,take_nil→B12,take_add→B13,map→B15,map_take→B16
open List.Nodup renaming length_le_of_subset→V4
open List.Perm renaming append_left→j6
open Nat renaming le_refl→A6,ne_of_lt→C2,lt_of_lt_of_le→D6,zero_le→E5,le_trans→F6,not_lt_zero→G6,eq_of_testBit_eq→P6,lt_irrefl→Q0,le_succ→Q9,le_of_lt→R8,ne_of_gt→R9,lt_of_le_of_lt→T0,lt_trans→T1,lt_succ_of_lt→V1,pow_le_pow_right→Y2,le_of_not_lt→Y8,succ_ne_self→Z1,testBit_two_pow→Z4,lt_trichotomy→i7,testBit_and→n9,sub_zero→q9,lt_pow_two_of_testBit→u0,sub_self→A15,min_eq_left→A20,mod_lt→A22,pow_lt_pow_right→A34,testBit_or→A40,add_sub_cancel→A53,add_assoc→A54,min_eq_right→A84
open Ne renaming symm→F2
open Option renaming toList_some→C9,map_some→Q8,getD_some→Z0,isSome_iff_exists→Z5,isSome_map→i5,getD_none→A78,none→B23
open Option.some renaming inj→D7
open Or renaming inl→E9,inr→l7
open PyProof renaming noPylong_small→c6
open PyProof.Rows renaming callWith_type1→G4,slot_tuple_getitem→G5
open PyProof.Rows.IntsAre renaming int_at→A92
open PySem renaming mem_of_lookup→G8,call→B02
open PySem.Around renaming under_plainId→F1,frames_deeper→A25
open PySem.AutoSeq1 renaming sub_tuple_tuple→w6
open PySem.Builtin renaming bitAnd→T9,bitNot→U2,bitOr→A47
open PySem.Builtin.Builtins renaming bindParams→n8
open PySem.Builtin.Dict renaming updateFrom→V8,pairItems→W4,addKeywords→z9,selfAndRest→A00
open PySem.Builtin.Dict_items renaming ownsTuple→m5
open PySem.Builtin.Frozenset renaming updateFrom→A86,newClass→A95,sizeOf→B03,slot0→B11
open PySem.Builtin.List renaming listTooLong→Z8,listLengthHint→m9
open PySem.Builtin.Range renaming rangeSize→Q1,small→A41
open PySem.Builtin.Slice renaming slicePlaces→U0,sliceAdjust→Y3,sliceApplied→o8
open PySem.Builtin.SmallTypes renaming ownedTupleIsFree→R0,nextOf→U1,newRecord→W6,calledThroughType→Y5,ownedTupleFields→A42
open PySem.Builtin.Tuple renaming tupleExact→L9,tupleItemsOf→X9,tupleCompareSizes→i3
open PySem.Calls renaming call_function_entry→Y4,callWith_builtin→d6,evalArgs_plain→A27
open PySem.Data renaming cell→u9,fields→A05
open PySem.F renaming plainAttrs_list→J1,plain_min_loop→L4,slot_list_append→M7,type_list_append→M8,slot_dict_keyiterator_next→M9,slot_tuple_iterator_next→R5,slot_tuple_lt→W8,called_set→X2,slot_zip_next→X3,args_tuple_add_2→Z7,slot_list_getattribute→a8,args_tuple_lt_2→b7,entry_tuple_add→b8,entry_tuple_lt→c9,slot_tuple_add→d0,entry_min_loop→d9,args_dict_keyiterator_next_1→j9,entry_dict_keyiterator_next→k8,args_tuple_iterator_next_1→m4,entry_tuple_iterator_next→n6,args_zip_next_1→y9,plainAttrs_tuple→A01,slot_tuple_index→A02,type_tuple_index→A03,plain_list_iadd→A06,entry_zip_next→A08,args_object_init_2→A28,kt_typeCall_dict_1→A31,called_tuple→A37,args_dict_init_2→A56,plain_tuple_new→A66,entry_dict_init→A67,kt_called_dict→A79,slot_dict_iter→A80
open PySem.Heap renaming get?_push_of_some→A3,get?_push_size→A8,lt_size→A9,get?_update_other→F0,get?_update_self→J6,size_push→L7,get?_push_ne→A69,size_update→A83
open PySem.Heap.DictOf renaming new→A90
open PySem.Heap.IsSliceOf renaming new→B25
open PySem.Heap.SameBut renaming update→V7
open PySem.IsRange renaming new→B22
open PySem.NameKind renaming free→G9,cell→B09
open PySem.Obj renaming data_mapFields→T6,mapSeq→U9,isFreed_of_fields→j8,mapFields→l9,cls_mapFields→y8
open PySem.Paired renaming length→B7,snoc→Z2
open PySem.PassesOwn renaming never→D3
open PySem.SeqAt.EqAt renaming int_int→p6,int_str→A45,str_int→A46,same→A89
open PySem.SeqAt.RcNeAt renaming lists_lengths→A59,lists→B04
open PySem.SetTable renaming below→D9,insertAt→E7,bits→b9,fits→A50,fill→A51,runEnd→A91,has→B19
open PySem.SetTable.below renaming go→i6
open PySem.SetTable.probe renaming go→Q5
open PySem.Str renaming ofString→D4,empty→P2
open PySem.Value renaming ref→C7,none→L0,bool→Q3,int→Q6,type→U6,isInt→A04,notImplemented→A26,isInt_shape→A60,str→A87,isStrOf→B06
open PySem.W renaming kia_one→J5,kitOne→J8,keepIn→N9,findIn→O5,fnOf→Q2,kla_fn→Y7,codeIn→i8,kdu_collect→n0,nsIn→r8,methodObj→u8,specialIn→w5,cellsFrom_some→A10,instObj→A12,kat_nil→A18,kas_first_eq→A32,lookIn→A36,noTabs→A39,mroIn→A48,kitx_tuple→A49,mg_of→A57,hasDictIn→A62,kitx_list→A63,kitx_dict→A64,plainGet→A77,takesIn→A88,tabObj→A98,kHook→B05,tabIn→B14,isFn→B18
open PySem.W.Looks renaming here→t0,ld→A09
open PySem.W.OpenLaw renaming wellSaid→B00,row→B20
open PySem.W.OpenRow renaming toRowW→B17
open PySem.Walks renaming list→A23
open PySem.pickOrder renaming go→A74
open Std.Legacy.Range renaming size→A19,forIn_eq_forIn_range'→A24
open Sum renaming inl→E3,inr→J9
open Sum.inl renaming inj→i0
open Sum.inr renaming inj→B21
open True renaming intro→U7
set_option Elab.async false
set_option linter.all false
set_option maxRecDepth 100000
set_option maxHeartbeats 0
namespace Fw
open PySem
def top (i:Nat):Stmt:=PySem.Challenge.pw_fewrooms_k31_never_papers.main.body.getD i (.Pass ⟨0,0,0,0⟩)
abbrev qE4:Stmt:=top 1
abbrev qFO:Stmt:=top 2
abbrev qE3:Stmt:=top 3
abbrev qGP:Stmt:=top 4
abbrev qFN:Stmt:=top 5
abbrev qDH:Stmt:=top 7
abbrev qDF:Stmt:=top 8
abbrev qFL:Stmt:=top 9
abbrev qD1:Stmt:=top 11
abbrev qFP:Stmt:=top 12
abbrev qCM:Stmt:=top 13
abbrev qGQ:Stmt:=top 14
abbrev qFM:Stmt:=top 15
abbrev qAJ:Stmt:=top 17
abbrev qCI:Stmt:=top 18
abbrev qCN:Stmt:=top 20
abbrev qD0:Stmt:=top 21
abbrev qDG:Stmt:=top 23
abbrev qC9:Stmt:=top 24
abbrev qCZ:Stmt:=top 25
abbrev qIN:Stmt:=top 27
abbrev qLR:Stmt:=top 28
abbrev qJ4:Stmt:=top 29
abbrev qD2:Stmt:=top 30
abbrev qE5:Stmt:=top 31
abbrev qQA:Stmt:=top 32
abbrev qIO:Stmt:=top 33
abbrev qGS:Stmt:=top 34
abbrev qLQ:Stmt:=top 35
abbrev qGT:Stmt:=top 36
abbrev qLT:Stmt:=top 37
abbrev qLS:Stmt:=top 38
abbrev qLU:Stmt:=top 39
abbrev qFQ:Stmt:=top 40
abbrev qIM:Stmt:=top 41
abbrev qGR:Stmt:=top 42
abbrev qIK:Stmt:=top 43
abbrev qE6:Stmt:=top 44
abbrev qQB:Stmt:=top 45
abbrev qIL:Stmt:=top 46
abbrev qKD:Stmt:=top 47
def dA (s:Stmt):B59:=match s with
 | .FunctionDef _ a _ _ _ _ _ _ _ _=>a
 | _=>{ posonlyargs:=[],args:=[],vararg:=none,kwonlyargs:=[],kw_defaults:=[],kwarg:=none,defaults:=[] }
def dB (s:Stmt):List Stmt:=match s with
 | .FunctionDef _ _ b _ _ _ _ _ _ _=>b
 | _=>[]
def dS (s:Stmt):Scope:=match s with
 | .FunctionDef _ _ _ _ _ _ sc _ _ _=>sc
 | _=>{ kind:=.function,names:=[],isGenerator:=false,isCoroutine:=false }
abbrev so (s:String):Str:=PySem.Str.ofString s
abbrev kh (P:Params) (s:Str):Int:=PySem.PyData.keyHash P s
abbrev hde (P:Params) (s:String) (n:Nat) (v:Value):DictEntry:=⟨kh P (so s),.str (so s) n,v⟩
abbrev hvs (s:String) (n:Nat):Value:=.str (so s) n
abbrev hcut (n:Nat):Value:=hvs "/claim/cut.py" n
abbrev hfd (x q:String) (s:Stmt) (a b c d:Value) (e:Option Addr) (f g:Value) (i:Addr):B49:=⟨so x,so q,dA s,.stmts (dB s),dS s,3,[],a,b,c,d,e,f,g,i⟩
abbrev htp (d:Data) (s:Array (Option Value)):Obj:=⟨.type "tuple",none,d,s⟩
abbrev hcd (d:Data) (s:Array (Option Value)):Obj:=⟨.type "code",none,d,s⟩
abbrev hfn (d:Data) (s:Array (Option Value)):Obj:=⟨.type "function",none,d,s⟩
abbrev ht0:Obj:=htp (.seq #[]) #[]
def hvl:List String->Nat->List Value
 | [],_=>[]
 | x::r,n=>hvs x n::hvl r (n+1)
abbrev hts (l:List String) (n:Nat):Obj:=htp (.seq (hvl l n).toArray) #[]
abbrev hco (x:String) (t:Nat) (ln ac fl:Int) (b:Nat) (md e:Int) (n:Nat):Obj:=hcd (.fields #[hvs x t,hvs x (t+1),hcut (t+2),.int ln 0,.int ac 0,.int 0 0,.int 0 0,.int fl 0,.ref b,.bool .true,.int md 0,.ref (b+1),.none,.ref (b+2),.ref (b+3),.ref (b+4),.int e 0,.int ln 0,hcut n]) #[]
abbrev hcp (x:String) (t:Nat) (ln ac:Int) (b:Nat) (md e:Int):Obj:=hcd (.fields #[hvs x t,hvs x (t+1),hcut (t+2),.int ln 0,.int ac 0,.int 0 0,.int 0 0,.int 3 0,.ref b,.bool .true,.int md 0,.ref (b+1),.none,.none,.none,.ref (b+2),.int e 0,.int ln 0,hcut (t+4)]) #[]
abbrev hfo (x:String) (s:Stmt) (m:String) (t c:Nat):Obj:=hfn (.func (hfd x x s .none .none .none (hvs m t) .none (.ref c) .none 0)) #[]
noncomputable def hpK:Params->Ab1:=fun P=>
 (nat_lit 2,Obj.mk .none .none (.dict #[]) #[]) ::
 (nat_lit 3,Obj.mk (.type "dict") .none (.dict #[hde P "__name__" 165 (hvs "law_fewrooms_k31_never_papers" 366),hde P "__doc__" 166 .none,hde P "__package__" 167 .none,hde P "__loader__" 168 (.builtin "__main__.__loader__#opaque"),hde P "__spec__" 169 .none,hde P "__annotations__" 170 (.ref 6),hde P "__builtins__" 171 (.ref 4),hde P "__file__" 173 (hcut 172),hde P "__cached__" 174 .none,hde P "is_number" 195 (.ref 21),hde P "is_below" 203 (.ref 28),hde P "is_rising" 213 (.ref 35),hde P "is_pair" 220 (.ref 42),hde P "is_stand" 229 (.ref 49),hde P "all_needed" 242 (.ref 56),hde P "renumbered" 248 (.ref 61),hde P "part_net" 254 (.ref 66),hde P "fault_of_do" 269 (.ref 73),hde P "fault_of" 279 (.ref 80),hde P "stand_behind" 285 (.ref 85),hde P "has_all" 291 (.ref 90),hde P "moves_of" 297 (.ref 95),hde P "stands_reached" 314 (.ref 102),hde P "best_end" 320 (.ref 107),hde P "part_numbers" 328 (.ref 112),hde P "never_paper" 339 (.ref 119),hde P "are_closed" 353 (.ref 126),hde P "never_come_to" 359 (.ref 131),hde P "shows_never" 365 (.ref 136),hde P "_law_begin" 375 (.ref 143),hde P "_law_take" 388 (.ref 150),hde P "_law_same" 394 (.ref 155),hde P "_law_some_needs" 405 (.ref 162),hde P "_law_tree_net" 417 (.ref 169),hde P "_law_net" 423 (.ref 174),hde P "_law_asked" 433 (.ref 181),hde P "_law_needed" 439 (.ref 186),hde P "_law_word" 445 (.ref 191),hde P "_law_behind" 451 (.ref 196),hde P "_law_come" 457 (.ref 201),hde P "_law_part" 463 (.ref 206),hde P "_law_bits" 469 (.ref 211),hde P "_law_done_in" 475 (.ref 216),hde P "_law_least" 484 (.ref 223),hde P "_law_rising" 490 (.ref 228),hde P "_law_stays" 502 (.ref 235),hde P "_law_is_never" 508 (.ref 240),hde P "_law_few" 515 (.ref 247),hde P "_law_right" 527 (.ref 254),hde P "law" 533 (.ref 259)] 50) #[]) ::
 (nat_lit 15,ht0) ::
 (nat_lit 17,hts ["thing"] 192) ::
 (nat_lit 18,ht0) ::
 (nat_lit 20,hco "is_number" 189 2 1 3 15 181 193 194) ::
 (nat_lit 21,hfo "is_number" qE4 "fewrooms.kinds" 187 20) ::
 (nat_lit 22,ht0) ::
 (nat_lit 24,hts ["thing","end"] 199) ::
 (nat_lit 25,ht0) ::
 (nat_lit 27,hco "is_below" 196 4 2 3 22 181 201 202) ::
 (nat_lit 28,hfo "is_below" qFO "fewrooms.kinds" 187 27) ::
 (nat_lit 29,ht0) ::
 (nat_lit 31,hts ["thing","end","least","number"] 207) ::
 (nat_lit 32,ht0) ::
 (nat_lit 34,hco "is_rising" 204 6 2 3 29 181 211 212) ::
 (nat_lit 35,hfo "is_rising" qE3 "fewrooms.kinds" 187 34) ::
 (nat_lit 36,ht0) ::
 (nat_lit 38,hts ["thing"] 217) ::
 (nat_lit 39,ht0) ::
 (nat_lit 41,hco "is_pair" 214 15 1 3 36 181 218 219) ::
 (nat_lit 42,hfo "is_pair" qGP "fewrooms.kinds" 187 41) ::
 (nat_lit 43,ht0) ::
 (nat_lit 45,hts ["net","rooms","thing"] 224) ::
 (nat_lit 46,ht0) ::
 (nat_lit 48,hco "is_stand" 221 17 3 3 43 181 227 228) ::
 (nat_lit 49,hfo "is_stand" qFN "fewrooms.kinds" 187 48) ::
 (nat_lit 50,ht0) ::
 (nat_lit 52,hts ["net","asked","wanted","work","need"] 235) ::
 (nat_lit 53,ht0) ::
 (nat_lit 55,hco "all_needed" 232 20 2 3 50 181 240 241) ::
 (nat_lit 56,hfo "all_needed" qDH "fewrooms.nets" 230 55) ::
 (nat_lit 57,ht0) ::
 (nat_lit 60,hcp "renumbered" 243 29 2 57 181 246) ::
 (nat_lit 61,hfo "renumbered" qDF "fewrooms.nets" 230 60) ::
 (nat_lit 62,ht0) ::
 (nat_lit 65,hcp "part_net" 249 31 2 62 181 252) ::
 (nat_lit 66,hfo "part_net" qFL "fewrooms.nets" 230 65) ::
 (nat_lit 67,ht0) ::
 (nat_lit 69,hts ["net","rooms","stand","work","there","result","need"] 260) ::
 (nat_lit 70,ht0) ::
 (nat_lit 72,hco "fault_of_do" 257 37 4 3 67 181 267 268) ::
 (nat_lit 73,hfo "fault_of_do" qD1 "fewrooms.moves" 255 72) ::
 (nat_lit 74,ht0) ::
 (nat_lit 76,hts ["net","rooms","stand","move"] 273) ::
 (nat_lit 77,ht0) ::
 (nat_lit 79,hco "fault_of" 270 49 4 3 74 181 277 278) ::
 (nat_lit 80,hfo "fault_of" qFP "fewrooms.moves" 255 79) ::
 (nat_lit 81,ht0) ::
 (nat_lit 84,hcp "stand_behind" 280 55 2 81 181 283) ::
 (nat_lit 85,hfo "stand_behind" qCM "fewrooms.moves" 255 84) ::
 (nat_lit 86,ht0) ::
 (nat_lit 89,hcp "has_all" 286 59 2 86 181 289) ::
 (nat_lit 90,hfo "has_all" qGQ "fewrooms.moves" 255 89) ::
 (nat_lit 91,ht0) ::
 (nat_lit 94,hcp "moves_of" 292 61 3 91 181 295) ::
 (nat_lit 95,hfo "moves_of" qFM "fewrooms.moves" 255 94) ::
 (nat_lit 96,ht0) ::
 (nat_lit 98,hts ["net","rooms","reached","due","later","stand","move","further","steps"] 303) ::
 (nat_lit 99,ht0) ::
 (nat_lit 101,hco "stands_reached" 300 66 2 3 96 181 312 313) ::
 (nat_lit 102,hfo "stands_reached" qAJ "fewrooms.stairs" 298 101) ::
 (nat_lit 103,ht0) ::
 (nat_lit 106,hcp "best_end" 315 80 2 103 181 318) ::
 (nat_lit 107,hfo "best_end" qCI "fewrooms.stairs" 298 106) ::
 (nat_lit 108,ht0) ::
 (nat_lit 111,hcp "part_numbers" 323 84 2 108 181 326) ::
 (nat_lit 112,hfo "part_numbers" qCN "fewrooms.trying" 321 111) ::
 (nat_lit 113,ht0) ::
 (nat_lit 115,hts ["net","asked","rooms","works","reached"] 332) ::
 (nat_lit 116,ht0) ::
 (nat_lit 118,hco "never_paper" 329 86 3 3 113 181 337 338) ::
 (nat_lit 119,hfo "never_paper" qD0 "fewrooms.trying" 321 118) ::
 (nat_lit 120,ht0) ::
 (nat_lit 122,hts ["net","rooms","stands","known","stand","move"] 345) ::
 (nat_lit 123,ht0) ::
 (nat_lit 125,hco "are_closed" 342 93 3 3 120 181 351 352) ::
 (nat_lit 126,hfo "are_closed" qDG "fewrooms.nevercheck" 340 125) ::
 (nat_lit 127,ht0) ::
 (nat_lit 130,hcp "never_come_to" 354 102 4 127 181 357) ::
 (nat_lit 131,hfo "never_come_to" qC9 "fewrooms.nevercheck" 340 130) ::
 (nat_lit 132,ht0) ::
 (nat_lit 135,hcp "shows_never" 360 108 4 132 181 363) ::
 (nat_lit 136,hfo "shows_never" qCZ "fewrooms.nevercheck" 340 135) ::
 (nat_lit 137,ht0) ::
 (nat_lit 139,hts ["_law_script","_law_cells"] 371) ::
 (nat_lit 140,ht0) ::
 (nat_lit 142,hco "_law_begin" 368 115 1 3 137 181 373 374) ::
 (nat_lit 143,hfo "_law_begin" qIN "law_fewrooms_k31_never_papers" 366 142) ::
 (nat_lit 144,ht0) ::
 (nat_lit 146,hts ["_law_state","_law_many","_law_turn","_law_place","_law_cell","_law_digit","_law_mixed"] 379) ::
 (nat_lit 147,ht0) ::
 (nat_lit 149,hco "_law_take" 376 120 2 3 144 181 386 387) ::
 (nat_lit 150,hfo "_law_take" qLR "law_fewrooms_k31_never_papers" 366 149) ::
 (nat_lit 151,ht0) ::
 (nat_lit 154,hcp "_law_same" 389 131 2 151 181 392) ::
 (nat_lit 155,hfo "_law_same" qJ4 "law_fewrooms_k31_never_papers" 366 154) ::
 (nat_lit 156,ht0) ::
 (nat_lit 158,hts ["_law_state","_law_k","_law_found","_law_turn","_law_far"] 398) ::
 (nat_lit 159,ht0) ::
 (nat_lit 161,hco "_law_some_needs" 395 143 2 3 156 181 403 404) ::
 (nat_lit 162,hfo "_law_some_needs" qD2 "law_fewrooms_k31_never_papers" 366 161) ::
 (nat_lit 163,ht0) ::
 (nat_lit 165,hts ["_law_state","_law_many","_law_open_ones","_law_found","_law_k","_law_so_many"] 409) ::
 (nat_lit 166,ht0) ::
 (nat_lit 168,hco "_law_tree_net" 406 150 2 3 163 181 415 416) ::
 (nat_lit 169,hfo "_law_tree_net" qE5 "law_fewrooms_k31_never_papers" 366 168) ::
 (nat_lit 170,ht0) ::
 (nat_lit 173,hcp "_law_net" 418 158 2 170 181 421) ::
 (nat_lit 174,hfo "_law_net" qQA "law_fewrooms_k31_never_papers" 366 173) ::
 (nat_lit 175,ht0) ::
 (nat_lit 177,hts ["_law_state","_law_net_here","_law_found","_law_turn"] 427) ::
 (nat_lit 178,ht0) ::
 (nat_lit 180,hco "_law_asked" 424 173 2 3 175 181 431 432) ::
 (nat_lit 181,hfo "_law_asked" qIO "law_fewrooms_k31_never_papers" 366 180) ::
 (nat_lit 182,ht0) ::
 (nat_lit 185,hcp "_law_needed" 434 178 2 182 181 437) ::
 (nat_lit 186,hfo "_law_needed" qGS "law_fewrooms_k31_never_papers" 366 185) ::
 (nat_lit 187,ht0) ::
 (nat_lit 190,hcp "_law_word" 440 187 4 187 181 443) ::
 (nat_lit 191,hfo "_law_word" qLQ "law_fewrooms_k31_never_papers" 366 190) ::
 (nat_lit 192,ht0) ::
 (nat_lit 195,hcp "_law_behind" 446 195 2 192 181 449) ::
 (nat_lit 196,hfo "_law_behind" qGT "law_fewrooms_k31_never_papers" 366 195) ::
 (nat_lit 197,ht0) ::
 (nat_lit 200,hcp "_law_come" 452 199 2 197 181 455) ::
 (nat_lit 201,hfo "_law_come" qLT "law_fewrooms_k31_never_papers" 366 200) ::
 (nat_lit 202,ht0) ::
 (nat_lit 205,hcp "_law_part" 458 224 2 202 181 461) ::
 (nat_lit 206,hfo "_law_part" qLS "law_fewrooms_k31_never_papers" 366 205) ::
 (nat_lit 207,ht0) ::
 (nat_lit 210,hcp "_law_bits" 464 227 1 207 181 467) ::
 (nat_lit 211,hfo "_law_bits" qLU "law_fewrooms_k31_never_papers" 366 210) ::
 (nat_lit 212,ht0) ::
 (nat_lit 215,hcp "_law_done_in" 470 229 3 212 181 473) ::
 (nat_lit 216,hfo "_law_done_in" qFQ "law_fewrooms_k31_never_papers" 366 215) ::
 (nat_lit 217,ht0) ::
 (nat_lit 219,hts ["_law_net_here","_law_asked_here","_law_rooms"] 479) ::
 (nat_lit 220,ht0) ::
 (nat_lit 222,hco "_law_least" 476 233 2 3 217 181 482 483) ::
 (nat_lit 223,hfo "_law_least" qIM "law_fewrooms_k31_never_papers" 366 222) ::
 (nat_lit 224,ht0) ::
 (nat_lit 227,hcp "_law_rising" 485 238 2 224 181 488) ::
 (nat_lit 228,hfo "_law_rising" qGR "law_fewrooms_k31_never_papers" 366 227) ::
 (nat_lit 229,ht0) ::
 (nat_lit 231,hts ["_law_part_here","_law_rooms","_law_stand","_law_there","_law_work","_law_move"] 494) ::
 (nat_lit 232,ht0) ::
 (nat_lit 234,hco "_law_stays" 491 245 4 3 229 181 500 501) ::
 (nat_lit 235,hfo "_law_stays" qIK "law_fewrooms_k31_never_papers" 366 234) ::
 (nat_lit 236,ht0) ::
 (nat_lit 239,hcp "_law_is_never" 503 251 4 236 181 506) ::
 (nat_lit 240,hfo "_law_is_never" qE6 "law_fewrooms_k31_never_papers" 366 239) ::
 (nat_lit 241,ht0) ::
 (nat_lit 243,hts ["_law_state"] 512) ::
 (nat_lit 244,ht0) ::
 (nat_lit 246,hco "_law_few" 509 269 1 3 241 181 513 514) ::
 (nat_lit 247,hfo "_law_few" qQB "law_fewrooms_k31_never_papers" 366 246) ::
 (nat_lit 248,ht0) ::
 (nat_lit 250,hts ["_law_net_here","_law_asked_here","_law_rooms","_law_least_here","_law_told","_law_kept"] 519) ::
 (nat_lit 251,ht0) ::
 (nat_lit 253,hco "_law_right" 516 271 4 3 248 181 525 526) ::
 (nat_lit 254,hfo "_law_right" qIL "law_fewrooms_k31_never_papers" 366 253) ::
 (nat_lit 255,ht0) ::
 (nat_lit 258,hcp "law" 528 283 1 255 181 531) ::
 (nat_lit 259,hfo "law" qKD "law_fewrooms_k31_never_papers" 366 258) ::
 []
noncomputable def hpA:List Addr:=[2,3,15,17,18,20,21,22,24,25,27,28,29,31,32,34,35,36,38,39,41,42,43,45,46,48,49,50,52,53,55,56,57,60,61,62,65,66,67,69,70,72,73,74,76,77,79,80,81,84,85,86,89,90,91,94,95,96,98,99,101,102,103,106,107,108,111,112,113,115,116,118,119,120,122,123,125,126,127,130,131,132,135,136,137,139,140,142,143,144,146,147,149,150,151,154,155,156,158,159,161,162,163,165,166,168,169,170,173,174,175,177,178,180,181,182,185,186,187,190,191,192,195,196,197,200,201,202,205,206,207,210,211,212,215,216,217,219,220,222,223,224,227,228,229,231,232,234,235,236,239,240,241,243,244,246,247,248,250,251,253,254,255,258,259]
noncomputable def hpQ:B30:=PySem.W.view PySem.Challenge.pw_fewrooms_k31_never_papers [1,2,3,4,5,7,8,9,11,12,13,14,15,17,18,20,21,23,24,25,27,28,29,30,31,32,33,34,35,36,37,38,39,40,41,42,43,44,45,46,47]
def hpN:Nat:=2638
theorem hpE (P:Params):hpA=(hpK P).map (·.1):=by kernel_rfl
noncomputable def hpX (s:Shared):Bool:=PySem.W.xlAt hpQ [] s && PySem.W.recOk (PySem.W.RowW.records (B17 (B20 PySem.Challenge.rw_fewrooms_k31_never_papers))) s
theorem hpLeft:PySem.W.LeftO PySem.Challenge.pw_fewrooms_k31_never_papers hpQ [] hpX (B05 hpK hpA hpE).obs (B05 hpK hpA hpE).val hpN:=fun w=>by kernel_rfl
theorem hpSaid:B00 PySem.Challenge.rw_fewrooms_k31_never_papers=true:=by kernel_rfl
end Fw
namespace L2
open PySem PySem.Spec PyProof.Rows
abbrev Key:=Sum Int Str
def qNH:Key->Value->Bool
 | .inl k,v=>A04 k v
 | .inr x,v=>B06 x v
def keyH (w:World):Key->Int
 | .inl k=>B70 k
 | .inr x=>hashStr w x
theorem qBH:∀ {k:Key} {v:Value},qNH k v=true->(∃ i t,k=E3 i/\v=Q6 i t)\/(∃ x t,k=J9 x/\v=A87 x t)
 | .inl i,v,h=>by
  obtain ⟨t,e⟩:=A60 (k:=i) (v:=v) h;exact .inl ⟨i,t,rfl,e⟩
 | .inr x,v,h=>by
  obtain ⟨t,e⟩:=Value.isStrOf_shape (x:=x) (v:=v) h;exact .inr ⟨x,t,rfl,e⟩
theorem qNG (i:Int) (t:Tok):qNH (.inl i) (.int i t)=true:=by simp [qNH,A04]
theorem qUH (x:Str) (t:Tok):qNH (.inr x) (.str x t)=true:=by simp [qNH,B06]
theorem qcF (a b:Int):decide ((E3 a:Key)=E3 b)=(a == b):=by
 by_cases e:a=b
 ·subst e;simp
 ·have h:¬ (E3 a:Key)=E3 b:=fun q=>e (i0 q);rw [decide_eq_false h];exact (beq_eq_false_iff_ne.mpr e).symm
theorem qcC (a b:Str):decide ((J9 a:Key)=J9 b)=decide (a=b):=by
 by_cases e:a=b
 ·subst e;simp
 ·have h:¬ (J9 a:Key)=J9 b:=fun q=>e (B21 q);rw [decide_eq_false h,decide_eq_false e]
theorem qcE (a:Int) (b:Str):decide ((E3 a:Key)=J9 b)=false:=decide_eq_false (fun q=>nomatch q)
theorem qcD (a:Str) (b:Int):decide ((J9 a:Key)=E3 b)=false:=decide_eq_false (fun q=>nomatch q)
def qB0 (prog:B30) (w:World):PySem.KeyKind prog w Key where
 is:=qNH
 hash:=keyH w
 inj:=fun v a b ha hb=>by
  rcases qBH ha with ⟨i,t,rfl,rfl⟩ | ⟨x,t,rfl,rfl⟩
  ·rcases qBH hb with ⟨j,u,rfl,e⟩ | ⟨y,u,rfl,e⟩
   ·injection e with e1 _;rw [e1]
   ·exact nomatch e
  ·rcases qBH hb with ⟨j,u,rfl,e⟩ | ⟨y,u,rfl,e⟩
   ·exact nomatch e
   ·injection e with e1 _;rw [e1]
 byValue:=fun k v h=>by
  rcases qBH h with ⟨i,t,rfl,rfl⟩ | ⟨x,t,rfl,rfl⟩ <;> rfl
 pyHash:=fun hv h=>by
  rcases qBH hv with ⟨i,t,rfl,rfl⟩ | ⟨x,t,rfl,rfl⟩
  ·exact wpAny_pyHash_int h
  ·exact wpAny_pyHash_str h
 eqBool:=fun hu hv h=>by
  rcases qBH hu with ⟨i,t,rfl,rfl⟩ | ⟨x,t,rfl,rfl⟩
  ·rcases qBH hv with ⟨j,u,rfl,rfl⟩ | ⟨y,u,rfl,rfl⟩
   ·rw [qcF] at h;exact wpAny_eqBool_int h
   ·rw [qcE] at h;exact A45 i t y u _ _ _ _ h
  ·rcases qBH hv with ⟨j,u,rfl,rfl⟩ | ⟨y,u,rfl,rfl⟩
   ·rw [qcD] at h;exact A46 x t j u _ _ _ _ h
   ·rw [qcC] at h;exact wpAny_eqBool_str h
 «strs»:=fun k x t v h=>by
  rcases qBH h with ⟨i,u,rfl,e⟩ | ⟨y,u,rfl,e⟩
  ·exact nomatch e
  ·injection e with e1 _
   subst e1;cases v <;> rfl
theorem qS0 (prog:B30) (w:World) (k:Key) (v:Value):(qB0 prog w).is k v=qNH k v:=rfl
theorem qOY (prog:B30) (w:World) (i:Int) (t:Tok):(qB0 prog w).is (.inl i) (.int i t)=true:=qNG i t
theorem qOX (prog:B30) (w:World) (x:Str) (t:Tok):(qB0 prog w).is (.inr x) (.str x t)=true:=qUH x t
inductive V where
 | non | bl (b:Bool) | int (i:Int) | str (x:Str) | byt (b:Array UInt8) | flt (b:UInt64) | ref (a:Addr) | ty (n:String)
 deriving DecidableEq
def RelV:V->Value->Prop
 | .non,u=>u=L0
 | .bl b,u=>u=Q3 b
 | .int i,u=>∃ t,u=Q6 i t
 | .str x,u=>∃ t,u=A87 x t
 | .byt b,u=>∃ t,u=Value.bytes b t
 | .flt b,u=>∃ t,u=Value.float b t
 | .ref a,u=>u=C7 a
 | .ty n,u=>u=U6 n
abbrev Vals:List V->List Value->Prop:=Paired RelV
theorem Vals.length {xs:List V} {us:List Value} (r:Vals xs us):xs.length=us.length:=B7 r
theorem Vals.get:∀ {xs:List V} {us:List Value} {i:Nat} {x:V},Vals xs us->xs[i]?=some x->∃ u,us[i]?=some u/\RelV x u
 | _,_,_,_,.nil,e=>by simp at e
 | _,_,0,_,.cons r _,e=>by simp at e;subst e;exact ⟨_,rfl,r⟩
 | _,_,i+1,x,.cons _ t,e=>by
  obtain ⟨u,h1,h2⟩:=Vals.get (i:=i) (x:=x) t (by simpa using e)
  exact ⟨u,by simpa using h1,h2⟩
theorem Vals.set {x:V} {u:Value} (r:RelV x u):∀ {xs:List V} {us:List Value} (i:Nat),Vals xs us->Vals (xs.set i x) (us.set i u)
 | _,_,_,.nil=>.nil
 | _,_,0,.cons _ t=>.cons r t
 | _,_,i+1,.cons q t=>.cons q (Vals.set r i t)
theorem Vals.append:∀ {xs ys:List V} {us ws:List Value},Vals xs us->Vals ys ws->Vals (xs++ys) (us++ws)
 | _,_,_,_,.nil,s=>s
 | _,_,_,_,.cons r t,s=>.cons r (Vals.append t s)
theorem Vals.take:∀ {xs:List V} {us:List Value} (n:Nat),Vals xs us->Vals (xs.take n) (us.take n)
 | _,_,0,_=>.nil
 | _,_,_+1,.nil=>.nil
 | _,_,n+1,.cons r t=>.cons r (Vals.take n t)
theorem Vals.drop:∀ {xs:List V} {us:List Value} (n:Nat),Vals xs us->Vals (xs.drop n) (us.drop n)
 | _,_,0,r=>r
 | _,_,_+1,.nil=>.nil
 | _,_,n+1,.cons _ t=>Vals.drop n t
def RelO:Option V->Option Value->Prop
 | some v,some u=>RelV v u
 | none,none=>True
 | _,_=>False
def KV {κ:Type}:List (κ × V)->List (κ × Value)->Prop:=Paired fun (p:κ × V) (q:κ × Value)=>p.1=q.1/\RelV p.2 q.2
inductive CTb where
 | tab (q:Str)
 | cod (q:Str)
def kV:Key->V
 | .inl i=>.int i
 | .inr x=>.str x
inductive HO where
 | lst (xs:List V)
 | tup (xs:List V)
 | dK (Af:List (Key × V)) | dT (Af:List (List Key × V))
 | set (S:Int->Bool) (n:Nat)
 | ins (C dx:Addr) (fs:List (Str × V))
 | own (x:Addr)
 | xd (fs:List (Str × V))
 | met (f x:Addr)
 | rng (lo hi:Int)
 | frz (o:Obj) (u:HO)
 | tbl (t:CTb)
 | ext (φ:Heap->Prop)
abbrev Hp:=Addr->Option HO
def Ag (H:Hp) (a:Addr) (o:HO):Hp:=fun b=>if b=a then some o else H b
theorem qA1 {H:Hp} {a:Addr} {o:HO} :Ag H a o a=some o:=by unfold Ag;rw [if_pos rfl]
theorem qA9 {H:Hp} {a b:Addr} {o:HO} (h:b ≠ a):Ag H a o b=H b:=by unfold Ag;rw [if_neg h]
theorem qIY {H:Hp} {a:Addr} {o u:HO} :Ag (Ag H a o) a u=Ag H a u:=by
 funext b;unfold Ag;split <;> rfl
theorem qCF {H:Hp} {a b:Addr} {o u:HO} (h:H a=some o) (h':H b=some u) (d:o ≠ u):a ≠ b:=by
 intro e;subst e;rw [h] at h';exact d (D7 h')
theorem qA6 {H:Hp} {a b:Addr} {o:HO} (h:H a=some o) (h':H b=none):a ≠ b:=by
 intro e;subst e;rw [h] at h';cases h'
section
variable (P:B30) (w:World)
def ObjOk (H:Hp) (h:Heap) (a:Addr):HO->Prop
 | .lst xs=>xs.length<=B28/\∃ (its:List Value) (n:Nat),Vals xs its/\h.get? a=some { cls:=.type "list",data:=.seq its.toArray n }
 | .tup xs=>xs.length<=B28/\∃ its:List Value,Vals xs its/\IsTup h a its.toArray
 | .dK Af=>Af.length<=B28/\(a == B52)=false/\∃ vs,KV Af vs/\h.DictOf (qB0 P w) a vs
 | .dT Af=>Af.length<=B28/\(a == B52)=false/\∃ xs:List (List Key × Addr × Value),
   Paired (fun (p:List Key × V) (q:List Key × Addr × Value)=>p.1=q.1/\H q.2.1=some (.tup (p.1.map kV))/\RelV p.2 q.2.2) Af xs/\
   ∃ o es ep,h.get? a=some o/\o.ExactDict/\o.data=.dict es ep/\es.toList=xs.map (entryOfKey (B87 (qB0 P w)))/\(xs.map (·.1)).Nodup
 | .set S n=>h.SetOf (B79 P w) a S n
 | .ins C dx fs=>H dx=some (.own a)/\fs.length<=1000/\dx ≠ a/\h.get? a=some (A12 C dx)/\
   ∃ mA,h.Ns1 dx mA/\(∀ f,RelO (fs.lookup f) (mA f))/\PySem.Within mA (fs.map (·.1))
 | .own _=>∃ o,h.get? a=some o
 | .xd fs=>∃ mA,h.Ns1 a mA/\∀ f,RelO (fs.lookup f) (mA f)
 | .rng lo hi=>∃ t u v,h.get? a=some { cls:=.type "range",data:=.fields #[.int lo t,.int hi u,.int 1 v] }
 | .frz o u=>h.get? a=some o/\ObjOk H h a u
 | .tbl (.tab q)=>∃ more:Array Value,h.get? a=some { cls:=.none,data:=.fields more }/\TriplesOk more.toList/\∀ pos cv,codeAmong pos more.toList=some cv->∃ c,cv=.ref c/\H c=some (.tbl (.cod q))
 | .tbl (.cod q)=>h.CodeRec (.ref a) q
 | .met f x=>h.get? a=some (u8 (.ref f) (.ref x))
 | .ext φ=>φ h/\(∃ o,h.get? a=some o)/\∀ h1 h2:Heap,φ h1->(∀ o,h1.get? a=some o->h2.get? a=some o)->φ h2
def HOk (H:Hp) (h:Heap):Prop:=∀ a o,H a=some o->ObjOk P w H h a o
end
section
variable {P:B30} {w:World} {H H':Hp} {h h':Heap} {a:Addr} {o:HO}
theorem ObjOk.lt (x:ObjOk P w H h a o):a<h.objs.size:=by
 cases o with
 | lst xs=>obtain ⟨_,_,_,_,e⟩:=x;exact A9 e
 | tup xs=>obtain ⟨_,_,_,p⟩:=x;exact p.lt
 | dK Af=>obtain ⟨_,_,_,_,o,_,_,e,_⟩:=x;exact A9 e
 | dT Af=>obtain ⟨_,_,_,_,o,_,_,e,_⟩:=x;exact A9 e
 | set S n=>obtain ⟨o,_,_,_,e,_⟩:=x;exact A9 e
 | ins C dx fs=>obtain ⟨_,_,_,e,_⟩:=x;exact A9 e
 | own y=>obtain ⟨_,e⟩:=x;exact A9 e
 | xd fs=>obtain ⟨_,⟨_,_,_,e,_⟩,_⟩:=x;exact A9 e
 | rng lo hi=>obtain ⟨_,_,_,e⟩:=x;exact A9 e
 | frz ob u=>obtain ⟨e,_⟩:=x;exact A9 e
 | tbl t=>
  cases t with
  | tab q=>obtain ⟨_,e,_⟩:=x;exact A9 e
  | cod q=>obtain ⟨c,o,_,_,e,g,_⟩:=x;cases e;exact A9 g
 | met f y=>exact A9 (show h.get? a=some _ from x)
 | ext φ=>obtain ⟨_,⟨_,e⟩,_⟩:=x;exact A9 e
theorem Paired.mapP {α β:Type} {F G:α->β->Prop} :∀ {l₁:List α} {l₂:List β},Paired F l₁ l₂->(∀ a b,F a b->G a b)->Paired G l₁ l₂
 | _,_,.nil,_=>.nil
 | _,_,.cons r t,f=>.cons (f _ _ r) (Paired.mapP t f)
theorem ObjOk.stay (x:ObjOk P w H h a o) (k:∀ b u,(b=a\/H b=some (.own a))->h.get? b=some u->h'.get? b=some u)
  (ho:∀ b,H b=some (.own a)->H' b=some (.own a)) (ht:∀ b xs,H b=some (.tup xs)->H' b=some (.tup xs)) (hb:∀ b t,H b=some (.tbl t)->H' b=some (.tbl t):=by exact fun _ _ q=>q):ObjOk P w H' h' a o:=by
 induction o with
 | lst xs=>obtain ⟨z,its,n,r,e⟩:=x;exact ⟨z,its,n,r,k _ _ (.inl rfl) e⟩
 | tup xs=>obtain ⟨z,its,r,ob,e,c⟩:=x;exact ⟨z,its,r,ob,k _ _ (.inl rfl) e,c⟩
 | dK Af=>obtain ⟨z,y,vs,r,ob,es,ep,e,c⟩:=x;exact ⟨z,y,vs,r,ob,es,ep,k _ _ (.inl rfl) e,c⟩
 | dT Af=>
  obtain ⟨z,y,xs,r,ob,es,ep,e,c⟩:=x;exact ⟨z,y,xs,Paired.mapP r fun p q z=>⟨z.1,ht _ _ z.2.1,z.2.2⟩,ob,es,ep,k _ _ (.inl rfl) e,c⟩
 | set S n=>obtain ⟨ob,es,ep,t,e,c⟩:=x;exact ⟨ob,es,ep,t,k _ _ (.inl rfl) e,c⟩
 | ins C dx fs=>
  obtain ⟨d,z,ne,e,mA,⟨od,es,ep,e2,c⟩,r⟩:=x;exact ⟨ho _ d,z,ne,k _ _ (.inl rfl) e,mA,⟨od,es,ep,k _ _ (.inr d) e2,c⟩,r⟩
 | own y=>obtain ⟨ob,e⟩:=x;exact ⟨ob,k _ _ (.inl rfl) e⟩
 | xd fs=>obtain ⟨mA,⟨od,es,ep,e,c⟩,r⟩:=x;exact ⟨mA,⟨od,es,ep,k _ _ (.inl rfl) e,c⟩,r⟩
 | rng lo hi=>obtain ⟨t,u,v,e⟩:=x;exact ⟨t,u,v,k _ _ (.inl rfl) e⟩
 | frz ob u ih=>obtain ⟨e,q⟩:=x;exact ⟨k _ _ (.inl rfl) e,ih q⟩
 | tbl t=>
  cases t with
  | tab q=>obtain ⟨m,e,tr,c⟩:=x;exact ⟨m,k a _ (.inl rfl) e,tr,fun pos cv z=>let ⟨c',e1,e2⟩:=c pos cv z;⟨c',e1,hb _ _ e2⟩⟩
  | cod q=>obtain ⟨c,o,vs,t,e,g,r⟩:=x;cases e;exact ⟨a,o,vs,t,rfl,k a _ (.inl rfl) g,r⟩
 | met f y=>
  have e:h.get? a=some (u8 (.ref f) (.ref y)):=x;show h'.get? a=some (u8 (.ref f) (.ref y));exact k a _ (.inl rfl) e
 | ext φ=>obtain ⟨p,⟨o,e⟩,st⟩:=x;exact ⟨st _ _ p fun o q=>k _ _ (.inl rfl) q,⟨o,k _ _ (.inl rfl) e⟩,st⟩
theorem HOk.lt (x:HOk P w H h) (e:H a=some o):a<h.objs.size:=(x a o e).lt
theorem HOk.fresh (x:HOk P w H h) (e:h.objs.size<=a):H a=none:=by
 cases q:H a with
 | none=>rfl
 | some u=>exact absurd (D6 (x.lt q) e) (Q0 _)
theorem HOk.kept (x:HOk P w H h) (k:∀ b u,h.get? b=some u->h'.get? b=some u):HOk P w H h':=fun a o e=>
 (x a o e).stay (fun b u _ q=>k b u q) (fun _ q=>q) fun _ _ q=>q
theorem HOk.laid (x:HOk P w H h) (k:∀ b u,h.get? b=some u->h'.get? b=some u) (hp:h.objs.size<=a) (new:ObjOk P w (Ag H a o) h' a o):HOk P w (Ag H a o) h':=fun b u e=>by
 have hn:=x.fresh hp;by_cases hb:b=a
 ·subst hb;rw [qA1] at e;cases e;exact new
 ·rw [qA9 hb] at e;exact (x b u e).stay (fun c v _ q=>k c v q) (fun c q=>by rw [qA9 (qA6 q hn)];exact q) (fun c xs q=>by rw [qA9 (qA6 q hn)];exact q) fun c t q=>by rw [qA9 (qA6 q hn)];exact q
end
def Rd (H:Hp) (a:Addr) (u:HO):Prop:=H a=some u\/∃ o,H a=some (.frz o u)
theorem Rd.ok {H:Hp} {h:Heap} {a:Addr} {u:HO} (r:Rd H a u) (x:HOk P w H h):ObjOk P w H h a u:=by
 rcases r with r | ⟨o,r⟩
 ·exact x a u r
 ·obtain ⟨_,q⟩:=x a _ r;exact q
def Mut:Option HO->Prop
 | some (.lst _)=>True
 | some (.dK _)=>True
 | some (.dT _)=>True
 | some (.set _ _)=>True
 | some (.ins _ _ _)=>True
 | some (.ext _)=>True
 | _=>False
section
variable {P:B30} {w:World} {H:Hp} {h h':Heap} {x e:Addr} {o':HO}
theorem HOk.write (ok:HOk P w H h) (mu:Mut (H x)) (he:e=x\/H e=some (.own x)) (k:∀ b u,b ≠ e->h.get? b=some u->h'.get? b=some u) (heo:∃ u,h'.get? e=some u)
  (new:ObjOk P w (Ag H x o') h' x o'):HOk P w (Ag H x o') h':=fun b u q=>by
 have nown:∀ c y,H c=some (.own y)->c ≠ x:=fun c y r z=>by subst z;rw [r] at mu;exact mu
 have ntup:∀ c xs,H c=some (.tup xs)->c ≠ x:=fun c xs r z=>by subst z;rw [r] at mu;exact mu
 by_cases hb:b=x
 ·subst hb;rw [qA1] at q;cases q;exact new
 ·rw [qA9 hb] at q;by_cases hbe:b=e
  ·have q':H b=some (.own x):=by
    rcases he with z | z
    ·exact absurd (hbe.trans z) hb
    ·rw [hbe];exact z
   rw [q] at q';cases q';obtain ⟨v,hv⟩:=heo;exact ⟨v,by rw [hbe];exact hv⟩
  ·refine (ok b u q).stay (fun c v hc r=>k c v ?_ r) (fun c r=>by rw [qA9 (nown c b r)];exact r) (fun c xs r=>by rw [qA9 (ntup c xs r)];exact r) fun c t r=>by rw [qA9 (fun z=>by subst z;rw [r] at mu;exact mu)];exact r
   rcases hc with rfl | hc
   ·exact hbe
   ·rintro rfl;rcases he with z | z
    ·exact nown c b hc z
    ·rw [hc] at z;cases z;exact hb rfl
end
structure Un (fs ex:List Addr) (H H':Hp) (h h':Heap):Prop where
 keep:∀ b o,h.get? b=some o->H b=none->b ∉ fs->b ∉ ex->h'.get? b=some o
 slot:∀ b o,h.get? b=some o->H b=none->b ∈ fs->b ∉ ex->∃ sl,h'.get? b=some { o with slots:=sl }
 free:∀ b o,h.get? b=some o->H b=none->b ∉ ex->H' b=none
 there:∀ b o,h.get? b=some o->b ∉ ex->∃ o',h'.get? b=some o'
 tups:∀ b xs,H b=some (.tup xs)->H' b=some (.tup xs)
 frzs:∀ b o u,H b=some (.frz o u)->H' b=some (.frz o u)
 tbls:∀ b ps,H b=some (.tbl ps)->H' b=some (.tbl ps)
section
variable {fs fs' ex ex':List Addr} {H H1 H2:Hp} {h h1 h2 h':Heap} {a x e:Addr} {o:HO}
theorem Un.any (u:Un fs ex H H1 h h1) {b:Addr} {ob:Obj} (q:h.get? b=some ob) (n:H b=none) (hx:b ∉ ex):∃ sl,h1.get? b=some { ob with slots:=sl }:=by
 by_cases hb:b ∈ fs
 ·exact u.slot b ob q n hb hx
 ·exact ⟨ob.slots,u.keep b ob q n hb hx⟩
theorem Un.kept (k:∀ b u,h.get? b=some u->h'.get? b=some u):Un fs ex H H h h':=
 ⟨fun b ob q _ _ _=>k b ob q,fun b ob q _ _ _=>⟨ob.slots,k b ob q⟩,fun _ _ _ n _=>n,fun b ob q _=>⟨ob,k b ob q⟩,fun _ _ q=>q,fun _ _ _ q=>q,fun _ _ q=>q⟩
theorem Un.refl:Un fs ex H H h h:=Un.kept fun _ _ q=>q
theorem Un.laid (k:∀ b u,h.get? b=some u->h'.get? b=some u) (hp:h.objs.size<=a) (hn:H a=none):Un fs ex H (Ag H a o) h h' where
 keep:=fun b u q _ _ _=>k b u q
 slot:=fun b u q _ _ _=>⟨u.slots,k b u q⟩
 free:=fun b u q n _=>by rw [qA9 (C2 (D6 (A9 q) hp))];exact n
 there:=fun b u q _=>⟨u,k b u q⟩
 tups:=fun b xs q=>by rw [qA9 (qA6 q hn)];exact q
 frzs:=fun b u xs q=>by rw [qA9 (qA6 q hn)];exact q
 tbls:=fun b ps q=>by rw [qA9 (qA6 q hn)];exact q
theorem Un.write (mu:Mut (H x)) (he:e=x\/H e=some (.own x)) (k:∀ b u,b ≠ e->h.get? b=some u->h'.get? b=some u) (heo:∃ u,h'.get? e=some u):Un fs ex H (Ag H x o) h h':=by
 have hx:∀ b,H b=none->b ≠ x:=fun b n z=>by subst z;rw [n] at mu;exact mu
 have hb:∀ b,H b=none->b ≠ e:=fun b n z=>by
  subst z;rcases he with r | r
  ·exact hx b n r
  ·rw [n] at r;cases r
 have hm:∀ b u,H b=some u->¬ Mut (some u)->b ≠ x:=fun b u q nm z=>by subst z;rw [q] at mu;exact nm mu
 refine ⟨fun b u q n _ _=>k b u (hb b n) q,fun b u q n _ _=>⟨u.slots,k b u (hb b n) q⟩,fun b u q n _=>by rw [qA9 (hx b n)];exact n,fun b u q _=>?_,
  fun b xs q=>by rw [qA9 (hm b _ q fun z=>z)];exact q,fun b u xs q=>by rw [qA9 (hm b _ q fun z=>z)];exact q,fun b ps q=>by rw [qA9 (hm b _ q fun z=>z)];exact q⟩
 by_cases hbe:b=e
 ·subst hbe;exact heo
 ·exact ⟨u,k b u hbe q⟩
end
def trk (h:Heap) (H:Hp):List Addr:=(G2 h.objs.size).filter fun a=>(H a).isSome
def hidT (h:Heap) (H:Hp):Heap:=PySem.W.hideAll h (trk h H)
theorem qUP (h:Heap) (H:Hp):(hidT h H).objs.size=h.objs.size:=PySem.W.hideAll_size _ _
theorem qXL {h:Heap} {H:Hp} {b:Addr} {o:Obj} (e:h.get? b=some o) (n:H b=none):(hidT h H).get? b=some o:=
 PySem.W.hideAll_get _ e fun hm=>by
  have q:(H b).isSome=true:=(E6.mp hm).2;rw [n] at q;simp at q
theorem qa4 {h:Heap} {H:Hp} {b:Addr} {o:Obj} (e:(hidT h H).get? b=some o):h.get? b=some o/\H b=none:=by
 have e':h.get? b=some o:=PySem.W.of_hideAll (trk h H) e;refine ⟨e',?_⟩;cases q:H b with
 | none=>rfl
 | some x=>
  have hm:b ∈ trk h H:=E6.mpr ⟨F5.mpr (A9 e'),by simp [q]⟩
  have z:(hidT h H).get? b=none:=PySem.W.hideAll_none (trk h H) hm;rw [z] at e;cases e
def qaX (g h:Heap) (L:Addr):Aa2:=(G2 h.objs.size).filterMap fun a=>if a=L\/(g.get? a).isSome=true then none else (h.get? a).map fun o=>(a,o)
def rest (g h:Heap) (L d:Addr):Aa2:=(qaX g h L).filter fun p=>decide (p.1 ≠ d)
structure Mod (K:Ab1) (mg:Ab0) (base:Heap):Prop where
 kin:K.In base
 glob:base.Ns B40 mg
 blt:∃ mb,base.Ns C06 mb/\∀ x:Str,x ≠ "__name__"->mb x=B33 x
 nolimit:base.NoLimit
structure Cx where
 prog:B30
 w:World
 K:Ab1
 mg:Ab0
 base:Heap
 A:Around
 N:List Str
 s₀:Shared
 H₀:Hp
 env:Env
 outer:List Env
 stack:List Env
 ex:List Addr
 fn:Str->Bool
 calm:Bool
 pn:Aa2
 xe:Aa1
def frs (l:List Env):List Addr:=l.filterMap (·.frame)
abbrev Cx.fs (X:Cx):List Addr:=frs X.outer
def Vis (sc:Scope) (x:Str):Prop:=sc.names.lookup x=some .local\/sc.names.lookup x=some .cell\/sc.names.lookup x=some .free
def Loc (sc:Scope) (x:Str):Prop:=sc.names.lookup x=some .local\/sc.names.lookup x=some .cell
def Look (env:Env) (h:Heap) (m:Ab0) (x:Str) (u:Value):Prop:=
 (env.kindOf x=some .local/\m x=some u)\/((env.kindOf x=some .cell\/env.kindOf x=some .free)/\∃ c,env.cells.lookup x=some c/\h.IsCell c (some u))
structure Cx.Ok (X:Cx):Prop where
 mod:Mod X.K X.mg X.base
 kind:X.env.scope.kind=.function
 glob:X.env.globals=B40
 blt:X.env.builtins=C06
 above:X.s₀.heap.objs.size<=X.env.locals
 inj:∀ x y c,X.env.cells.lookup x=some c->X.env.cells.lookup y=some c->x=y
 has:∀ x,(X.env.kindOf x=some .cell\/X.env.kindOf x=some .free)->∃ c,X.env.cells.lookup x=some c
 cab:∀ x c,X.fn x=true->X.env.cells.lookup x=some c->X.s₀.heap.objs.size<=c
 hd:X.calm=true->X.A.handled=none
 frames:X.A.frames=some X.stack
 stk:X.stack=X.outer\/(X.stack=X.env::X.outer/\X.env.frame=some X.env.locals)
 exf:∀ b ∈ X.ex,b ≠ X.env.locals/\∀ x c,X.env.cells.lookup x=some c->c ≠ b
 bs:∀ b o,X.base.get? b=some o->X.s₀.heap.get? b=some o/\X.H₀ b=none
 bsz:X.base.objs.size<=X.s₀.heap.objs.size
 noex:∀ b o,X.base.get? b=some o->b ∉ X.ex
 exfs:∀ b ∈ X.ex,b ∉ X.fs
 funs:X.s₀.heap.FunFrames X.base X.outer
 frf:∀ b ∈ X.fs,X.H₀ b=none
structure Inv (X:Cx) (Ab:Aa2) (σ:List (Option V)) (H:Hp) (s:Shared):Prop where
 ok:X.Ok
 os:s.os=X.s₀.os
 bare:AllBare s.gens
 base:Un X.fs X.ex X.H₀ H X.s₀.heap s.heap
 loc:∃ m,s.heap.Ns X.env.locals m/\∀ (i:Nat) (x:Str) (v:V),X.N[i]?=some x->σ[i]?=some (some v)->Vis X.env.scope x->∃ u,RelV v u/\Look X.env s.heap m x u
 cell:∀ x c,X.env.cells.lookup x=some c->∃ v,s.heap.IsCell c v
 free:H X.env.locals=none
 freeC:∀ x c,X.env.cells.lookup x=some c->H c=none
 pin:∀ p ∈ X.pn++Ab,s.heap.get? p.1=some p.2/\H p.1=none/\p.1 ≠ X.env.locals/\p.1 ∉ X.fs/\∀ v,p.2.data ≠ .cell v
 hok:HOk X.prog X.w H s.heap
 len:σ.length=X.N.length
section
variable {X:Cx} {Ab:Aa2} {σ:List (Option V)} {H H':Hp} {s:Shared} {h':Heap}
theorem Cx.Ok.nofr (ok:X.Ok) {b:Addr} {o:Obj} (e:X.base.get? b=some o):b ∉ X.fs:=fun hb=>by
 have:=(ok.funs.mem hb).1;rw [e] at this;cases this
theorem Inv.bs (I:Inv X Ab σ H s):∀ b o,X.base.get? b=some o->s.heap.get? b=some o/\H b=none:=fun b o e=>
 ⟨I.base.keep b o (I.ok.bs b o e).1 (I.ok.bs b o e).2 (I.ok.nofr e) (I.ok.noex b o e),I.base.free b o (I.ok.bs b o e).1 (I.ok.bs b o e).2 (I.ok.noex b o e)⟩
theorem Inv.bk (I:Inv X Ab σ H s):∀ b o,X.base.get? b=some o->s.heap.get? b=some o:=fun b o e=>(I.bs b o e).1
theorem Inv.mod (I:Inv X Ab σ H s):Mod X.K X.mg X.base:=I.ok.mod
theorem Inv.kIn (I:Inv X Ab σ H s):X.K.In s.heap:=I.ok.mod.kin.keeps I.bk
theorem Inv.nolimit (I:Inv X Ab σ H s):s.heap.NoLimit:=I.ok.mod.nolimit.keeps I.bk
theorem Inv.lt (I:Inv X Ab σ H s):X.env.locals<s.heap.objs.size:=let ⟨_,hn,_⟩:=I.loc;hn.lt
theorem Inv.sz (I:Inv X Ab σ H s):X.s₀.heap.objs.size<=s.heap.objs.size:=F6 I.ok.above (R8 I.lt)
theorem Inv.nofs (I:Inv X Ab σ H s) {a:Addr} (h:s.heap.objs.size<=a):a ∉ X.fs:=fun hb=>by
 obtain ⟨_,o,ho,_⟩:=I.ok.funs.mem hb;exact absurd (D6 (A9 ho) (F6 I.sz h)) (Q0 _)
theorem Inv.cne (I:Inv X Ab σ H s):∀ x c,X.env.cells.lookup x=some c->c ≠ X.env.locals:=fun x c e z=>by
 obtain ⟨v,o,ho,hd⟩:=I.cell x c e;obtain ⟨m,⟨o',es,ep,ho',hd',_⟩,_⟩:=I.loc;rw [z,ho'] at ho;cases ho;rw [hd'] at hd;cases hd
theorem Inv.funs (I:Inv X Ab σ H s):s.heap.FunFrames X.base X.outer:=by
 have all:∀ (l:List Env),(∀ b ∈ frs l,b ∈ X.fs)->X.s₀.heap.FunFrames X.base l->s.heap.FunFrames X.base l:=by
  intro l
  induction l with
  | nil=>intro _ _;trivial
  | cons env r ih=>
   intro hs hl;obtain ⟨hk,⟨L,o,hf,hn,ho,hd⟩,hr⟩:=hl;have hL:L ∈ X.fs:=hs L (by unfold frs;rw [Q7,hf];exact F4)
   obtain ⟨sl,e⟩:=I.base.slot L o ho (I.ok.frf L hL) hL fun z=>I.ok.exfs L z hL;exact ⟨hk,⟨L,_,hf,hn,e,hd⟩,ih (fun b hb=>hs b (by unfold frs;rw [Q7,hf];exact C3 _ hb)) hr⟩
 exact all X.outer (fun _ hb=>hb) I.ok.funs
theorem Inv.stack (I:Inv X Ab σ H s):s.heap.FunFrames X.base X.stack:=by
 rcases I.ok.stk with e | ⟨e,hf⟩
 ·rw [e];exact I.funs
 ·rw [e];obtain ⟨m,hn,_⟩:=I.loc;refine .cons (by rw [I.ok.kind];decide) hf hn ?_ I.funs
  exact Heap.get?_none_of_le (F6 I.ok.bsz I.ok.above)
theorem Inv.stkSub (I:Inv X Ab σ H s):∀ b ∈ frs X.stack,b ∈ X.env.locals::X.fs:=fun b hb=>by
 rcases I.ok.stk with e | ⟨e,hf⟩
 ·rw [e] at hb;exact C3 _ hb
 ·rw [e] at hb;unfold frs at hb;rw [Q7,hf] at hb;exact hb
theorem Inv.stkFree (I:Inv X Ab σ H s):∀ b ∈ frs X.stack,H b=none:=fun b hb=>by
 rcases C1.mp (I.stkSub b hb) with e | hb
 ·rw [e];exact I.free
 ·obtain ⟨_,o,ho,_⟩:=I.ok.funs.mem hb;exact I.base.free b o ho (I.ok.frf b hb) fun z=>I.ok.exfs b z hb
theorem Inv.step {g':Array B88} {t':Nat} {d':Drawn} {ch:List Addr} (I:Inv X Ab σ H s)
  (hch:∀ b ∈ ch,(b ∈ X.ex\/X.s₀.heap.objs.size<=b)/\b ≠ X.env.locals/\(∀ x c,X.env.cells.lookup x=some c->c ≠ b)/\∀ p ∈ X.pn++Ab,p.1 ≠ b)
  (keep:∀ b o,b ≠ X.env.locals->b ∉ X.fs->b ∉ ch->s.heap.get? b=some o->H b=none->h'.get? b=some o)
  (slot:∀ b o,b ≠ X.env.locals->b ∈ X.fs->b ∉ ch->s.heap.get? b=some o->H b=none->∃ sl,h'.get? b=some { o with slots:=sl }) (free:∀ b o,b ∉ ch->s.heap.get? b=some o->H b=none->H' b=none)
  (there:∀ b o,b ∉ ch->s.heap.get? b=some o->∃ o',h'.get? b=some o')
  (tups:∀ b xs,H b=some (.tup xs)->H' b=some (.tup xs)) (frzs:∀ b o u,H b=some (.frz o u)->H' b=some (.frz o u)) (tbls:∀ b ps,H b=some (.tbl ps)->H' b=some (.tbl ps))
  (ns:∀ m,s.heap.Ns X.env.locals m->h'.Ns X.env.locals m) (hok:HOk X.prog X.w H' h') (hg:AllBare g') :
  Inv X Ab σ H' { s with heap:=h',gens:=g',drawn:=d',toks:=t' }:=by
 have neL:∀ b o,X.s₀.heap.get? b=some o->b ≠ X.env.locals:=fun b o e=>C2 (D6 (A9 e) I.ok.above);have neC:∀ b o,X.s₀.heap.get? b=some o->b ∉ X.ex->b ∉ ch:=fun b o e hx hb=>by
  rcases (hch b hb).1 with z | z
  ·exact hx z
  ·exact absurd (D6 (A9 e) z) (Q0 _)
 have cellK:∀ x c,X.env.cells.lookup x=some c->∀ v,s.heap.IsCell c v->h'.IsCell c v:=fun x c e v ⟨o,ho,hd⟩=>by
  have nch:c ∉ ch:=fun z=>(hch c z).2.2.1 x c e rfl;by_cases hc:c ∈ X.fs
  ·obtain ⟨sl,q⟩:=slot c o (I.cne x c e) hc nch ho (I.freeC x c e);exact ⟨_,q,hd⟩
  ·exact ⟨o,keep c o (I.cne x c e) hc nch ho (I.freeC x c e),hd⟩
 refine ⟨I.ok,I.os,hg,⟨fun b o e n hb hx=>?_,fun b o e n hb hx=>?_,fun b o e n hx=>?_,fun b o e hx=>?_,fun b xs e=>tups b xs (I.base.tups b xs e),fun b o xs e=>frzs b o xs (I.base.frzs b o xs e),fun b ps e=>?_⟩,?_,fun x c e=>?_,?_,fun x c e=>?_,fun p hp=>?_,hok,I.len⟩
 ·exact keep b o (neL b o e) hb (neC b o e hx) (I.base.keep b o e n hb hx) (I.base.free b o e n hx)
 ·obtain ⟨sl,e1⟩:=I.base.slot b o e n hb hx;obtain ⟨sl',e2⟩:=slot b _ (neL b o e) hb (neC b o e hx) e1 (I.base.free b o e n hx);exact ⟨sl',e2⟩
 ·obtain ⟨o',e1⟩:=I.base.there b o e hx;exact free b o' (neC b o e hx) e1 (I.base.free b o e n hx)
 ·obtain ⟨o',e1⟩:=I.base.there b o e hx;exact there b o' (neC b o e hx) e1
 ·exact tbls b ps (I.base.tbls b ps e)
 ·obtain ⟨m,hn,hl⟩:=I.loc;refine ⟨m,ns m hn,fun i x v e1 e2 e3=>?_⟩;obtain ⟨u,r,l⟩:=hl i x v e1 e2 e3;refine ⟨u,r,?_⟩;rcases l with l | ⟨k,c,e,z⟩
  ·exact .inl l
  ·exact .inr ⟨k,c,e,cellK x c e _ z⟩
 ·obtain ⟨v,z⟩:=I.cell x c e;exact ⟨v,cellK x c e v z⟩
 ·obtain ⟨m,⟨o,_,_,ho,_⟩,_⟩:=I.loc;exact free _ o (fun z=>(hch _ z).2.1 rfl) ho I.free
 ·obtain ⟨v,o,ho,hd⟩:=I.cell x c e;exact free c o (fun z=>(hch c z).2.2.1 x c e rfl) ho (I.freeC x c e)
 ·obtain ⟨e,n,ne,nf,d⟩:=I.pin p hp;have nch:p.1 ∉ ch:=fun z=>(hch p.1 z).2.2.2 p hp rfl;exact ⟨keep p.1 p.2 ne nf nch e n,free p.1 p.2 nch e n,ne,nf,d⟩
theorem Inv.un {t':Nat} (I:Inv X Ab σ H s) (u:Un X.fs [] H H' s.heap h') (hok:HOk X.prog X.w H' h'):Inv X Ab σ H' { s with heap:=h',toks:=t' }:=by
 obtain ⟨m,⟨o,es,ep,ho,r⟩,_⟩:=id I.loc;obtain ⟨sl,hL⟩:=u.any ho I.free (by simp)
 exact I.step (g':=s.gens) (d':=s.drawn) (ch:=[]) (fun _ z=>nomatch z) (fun b o _ hb _ e n=>u.keep b o e n hb (by simp)) (fun b o _ hb _ e n=>u.slot b o e n hb (by simp)) (fun b o _ e n=>u.free b o e n (by simp)) (fun b o _ e=>u.there b o e (by simp)) u.tups u.frzs u.tbls (fun m' hm=>by
  obtain ⟨o',es',ep',ho',r'⟩:=hm;rw [ho] at ho';cases ho';exact ⟨_,es',ep',hL,r'⟩) hok I.bare
theorem Inv.call {g':Array B88} {t':Nat} {d':Drawn} {ch:List Addr} (I:Inv X Ab σ H s) (u:Un (frs X.stack) ch H H' s.heap h') (hok:HOk X.prog X.w H' h') (hg:AllBare g')
  (hch:∀ b ∈ ch,(b ∈ X.ex\/X.s₀.heap.objs.size<=b)/\b ≠ X.env.locals/\(∀ x c,X.env.cells.lookup x=some c->c ≠ b)/\∀ p ∈ X.pn++Ab,p.1 ≠ b) :
  Inv X Ab σ H' { s with heap:=h',gens:=g',drawn:=d',toks:=t' }:=by
 obtain ⟨m,⟨o,es,ep,ho,r⟩,_⟩:=id I.loc;obtain ⟨sl,hL⟩:=u.any ho I.free fun z=>(hch _ z).2.1 rfl;exact I.step (ch:=ch) hch (fun b o hL hb hc e n=>u.keep b o e n (fun z=>(C1.mp (I.stkSub b z)).elim hL hb) hc) (fun b o _ _ hc e n=>u.any e n hc) (fun b o hc e n=>u.free b o e n hc) (fun b o hc e=>u.there b o e hc) u.tups u.frzs u.tbls (fun m' hm=>by
  obtain ⟨o',es',ep',ho',r'⟩:=hm;rw [ho] at ho';cases ho';exact ⟨_,es',ep',hL,r'⟩) hok hg
theorem Inv.turned {t':Nat} {it:Addr} (I:Inv X Ab σ H s) (k:∀ b o,b ≠ it->s.heap.get? b=some o->h'.get? b=some o) (hn:H it=none) (hL:it ≠ X.env.locals)
  (h1:it ∈ X.ex\/X.s₀.heap.objs.size<=it) (h2:∀ x c,X.env.cells.lookup x=some c->c ≠ it) (h3:∀ p ∈ X.pn++Ab,p.1 ≠ it):Inv X Ab σ H { s with heap:=h',toks:=t' }:=by
 have nit:∀ b u,H b=some u->b ≠ it:=fun b u e z=>by rw [z,hn] at e;cases e
 refine I.step (g':=s.gens) (d':=s.drawn) (ch:=[it]) (fun b hb=>?_) (fun b o _ _ hc e _=>k b o (fun z=>hc (by simp [z])) e) (fun b o _ _ hc e _=>⟨o.slots,k b o (fun z=>hc (by simp [z])) e⟩) (fun _ _ _ _ n=>n)
  (fun b o hc e=>⟨o,k b o (fun z=>hc (by simp [z])) e⟩) (fun _ _ e=>e) (fun _ _ _ e=>e) (fun _ _ e=>e) (fun m hm=>?_) (fun b u e=>?_) I.bare
 ·have e:b=it:=by simpa using hb
  subst e;exact ⟨h1,hL,h2,h3⟩
 ·obtain ⟨o,es,ep,ho,r⟩:=hm;exact ⟨o,es,ep,k _ o (F2 hL) ho,r⟩
 ·refine (I.hok b u e).stay (fun c v hc q=>k c v ?_ q) (fun _ q=>q) fun _ _ q=>q;rcases hc with z | z
  ·rw [z];exact nit b u e
  ·exact nit c _ z
theorem Inv.tok (I:Inv X Ab σ H s) (t:Nat):Inv X Ab σ H { s with toks:=t }:=I.un (h':=s.heap) (t':=t) Un.refl I.hok
theorem Inv.kept {t':Nat} (I:Inv X Ab σ H s) (k:∀ b u,s.heap.get? b=some u->h'.get? b=some u):Inv X Ab σ H { s with heap:=h',toks:=t' }:=I.un (Un.kept k) (I.hok.kept k)
theorem Inv.laid {a:Addr} {o:HO} {t':Nat} (I:Inv X Ab σ H s) (k:∀ b u,s.heap.get? b=some u->h'.get? b=some u) (hp:s.heap.objs.size<=a) (new:ObjOk X.prog X.w (Ag H a o) h' a o) :
  Inv X Ab σ (Ag H a o) { s with heap:=h',toks:=t' }:=I.un (Un.laid k hp (I.hok.fresh hp)) (I.hok.laid k hp new)
theorem Inv.write {x e:Addr} {o:HO} {t':Nat} (I:Inv X Ab σ H s) (mu:Mut (H x)) (he:e=x\/H e=some (.own x)) (k:∀ b u,b ≠ e->s.heap.get? b=some u->h'.get? b=some u) (heo:∃ u,h'.get? e=some u)
  (new:ObjOk X.prog X.w (Ag H x o) h' x o):Inv X Ab σ (Ag H x o) { s with heap:=h',toks:=t' }:=I.un (Un.write mu he k heo) (I.hok.write mu he k heo new)
theorem Inv.pins_of {pins':Aa2} (I:Inv X Ab σ H s) (h:∀ p ∈ pins',s.heap.get? p.1=some p.2/\H p.1=none/\p.1 ≠ X.env.locals/\p.1 ∉ X.fs/\∀ v,p.2.data ≠ .cell v):Inv X pins' σ H s:=
 ⟨I.ok,I.os,I.bare,I.base,I.loc,I.cell,I.free,I.freeC,fun p hp=>(B3.mp hp).elim (fun z=>I.pin p (k9 _ z)) (h p),I.hok,I.len⟩
theorem qQQ {N:List Str} (hN:N.Nodup) {i j:Nat} {x:Str} (a:N[i]?=some x) (b:N[j]?=some x):i=j:=by
 obtain ⟨h1,e1⟩:=A4.mp a;obtain ⟨h2,e2⟩:=A4.mp b;exact (List.getElem_inj hN).mp (e1.trans e2.symm)
theorem qMW {M:Model} {i:Nat} {x:Str} {v:V} {u:Value} {Q:Unit->Shared->Prop} (I:Inv X Ab σ H s) (hN:X.N.Nodup) (hi:X.N[i]?=some x) (hx:Loc X.env.scope x) (r:RelV v u)
  (h:∀ s',Inv X Ab (σ.set i (some v)) H s'->(∃ a,Heap.SameBut a s.heap s'.heap/\(a=X.env.locals\/X.env.cells.lookup x=some a))->Q () s') (hf:X.fn x=true\/X.env.scope.names.lookup x=some .local:=by first | exact .inl rfl | exact .inr rfl | assumption):wpAny M A (storeName X.env x u) Q E s:=by
 obtain ⟨m,hn,hl⟩:=id I.loc;have hcls:(X.env.scope.kind == .class || (X.env.scope.kind == .module && X.env.locals != X.env.globals))=false:=by rw [I.ok.kind];rfl
 have hiσ:i<σ.length:=by rw [I.len];exact (A4.mp hi).1
 have cne:=I.cne;have tracked:∀ {a:Addr} {h':Heap},(∃ o,s.heap.get? a=some o/\H a=none)->Heap.SameBut a s.heap h'->HOk X.prog X.w H h':=fun {a h'} ha hs b ob e=>by
  obtain ⟨_,_,hfree⟩:=ha;refine (I.hok b ob e).stay (fun c w' hc q=>(hs.2 c ?_).trans q) (fun _ q=>q) fun _ _ q=>q;rintro rfl;rcases hc with rfl | hc
  ·rw [hfree] at e;cases e
  ·rw [hfree] at hc;cases hc
 rcases hx with hk | hk
 ·refine wpAny_storeName_local hk hn (fun h' hn' hs=>?_) hcls;obtain ⟨oL,_,_,hoL,_⟩:=id hn;refine h _ ⟨I.ok,I.os,I.bare,⟨fun b o e n hb hx=>?_,fun b o e n hb hx=>?_,I.base.free,fun b o e hx=>?_,I.base.tups,I.base.frzs,I.base.tbls⟩,⟨_,hn',fun j y v' e1 e2 e3=>?_⟩,fun y c e=>?_,I.free,I.freeC,fun p hp=>?_,tracked ⟨oL,hoL,I.free⟩ hs,by simpa using I.len⟩ ⟨_,hs,.inl rfl⟩
  ·exact (hs.2 b (C2 (D6 (A9 e) I.ok.above))).trans (I.base.keep b o e n hb hx)
  ·obtain ⟨sl,e1⟩:=I.base.slot b o e n hb hx;exact ⟨sl,(hs.2 b (C2 (D6 (A9 e) I.ok.above))).trans e1⟩
  ·obtain ⟨o',e1⟩:=I.base.there b o e hx;exact ⟨o',(hs.2 b (C2 (D6 (A9 e) I.ok.above))).trans e1⟩
  ·by_cases hj:j=i
   ·subst hj;rw [hi] at e1;cases e1;rw [W3 hiσ] at e2;cases e2;exact ⟨u,r,.inl ⟨hk,by simp⟩⟩
   ·rw [l6 (F2 hj)] at e2;obtain ⟨u',r',q⟩:=hl j y v' e1 e2 e3;refine ⟨u',r',?_⟩;rcases q with ⟨k,e⟩ | ⟨k,c,e,z⟩
    ·refine .inl ⟨k,?_⟩;have:y ≠ x:=fun e=>hj (qQQ hN e1 (e ▸ hi));simp [this,e]
    ·exact .inr ⟨k,c,e,z.sameBut hs (cne y c e)⟩
  ·obtain ⟨w',z⟩:=I.cell y c e;exact ⟨w',z.sameBut hs (cne y c e)⟩
  ·obtain ⟨e,n,ne,nf,d⟩:=I.pin p hp;exact ⟨(hs.2 p.1 ne).trans e,n,ne,nf,d⟩
 ·have hfn:X.fn x=true:=by
   rcases hf with z | z
   ·exact z
   ·rw [z] at hk;cases hk
  obtain ⟨c,hc⟩:=I.ok.has x (.inl hk);obtain ⟨w',z⟩:=I.cell x c hc;refine wpAny_storeName_cell I.ok.kind hk hc z (fun h' hc' hs=>?_);obtain ⟨oc,hoc,hocd⟩:=id z;refine h { s with heap:=h' } ⟨I.ok,I.os,I.bare,⟨fun b o e n hb hx=>?_,fun b o e n hb hx=>?_,I.base.free,fun b o e hx=>?_,I.base.tups,I.base.frzs,I.base.tbls⟩,⟨m,hn.sameBut hs (F2 (cne x c hc)),fun j y v' e1 e2 e3=>?_⟩,fun y c' e=>?_,I.free,I.freeC,fun p hp=>?_,tracked ⟨oc,hoc,I.freeC x c hc⟩ hs,by simpa using I.len⟩ ⟨c,hs,.inr hc⟩
  ·exact (hs.2 b (C2 (D6 (A9 e) (I.ok.cab x c hfn hc)))).trans (I.base.keep b o e n hb hx)
  ·obtain ⟨sl,e1⟩:=I.base.slot b o e n hb hx;exact ⟨sl,(hs.2 b (C2 (D6 (A9 e) (I.ok.cab x c hfn hc)))).trans e1⟩
  ·obtain ⟨o',e1⟩:=I.base.there b o e hx;exact ⟨o',(hs.2 b (C2 (D6 (A9 e) (I.ok.cab x c hfn hc)))).trans e1⟩
  ·by_cases hj:j=i
   ·subst hj;rw [hi] at e1;cases e1;rw [W3 hiσ] at e2;cases e2;exact ⟨u,r,.inr ⟨.inl hk,c,hc,hc'⟩⟩
   ·rw [l6 (F2 hj)] at e2;obtain ⟨u',r',q⟩:=hl j y v' e1 e2 e3;refine ⟨u',r',?_⟩;rcases q with q | ⟨k,c',e,z'⟩
    ·exact .inl q
    ·refine .inr ⟨k,c',e,z'.sameBut hs ?_⟩;rintro rfl;exact hj (qQQ hN e1 (I.ok.inj _ _ _ e hc ▸ hi))
  ·by_cases hcc:c'=c
   ·subst hcc;exact ⟨_,hc'⟩
   ·obtain ⟨w2,z2⟩:=I.cell y c' e;exact ⟨w2,z2.sameBut hs hcc⟩
  ·obtain ⟨e,n,ne,nf,d⟩:=I.pin p hp;refine ⟨(hs.2 p.1 ?_).trans e,n,ne,nf,d⟩;intro q;rw [q,hoc] at e;have q':oc=p.2:=D7 e;exact d w' (by rw [<- q'];exact hocd)
theorem qPW {M:Model} {i:Nat} {x:Str} {v:V} {u:Value} {Q:Unit->Shared->Prop} (I:Inv X Ab σ H s) (hN:X.N.Nodup) (hi:X.N[i]?=some x) (hx:Loc X.env.scope x) (r:RelV v u)
  (h:∀ s',Inv X Ab (σ.set i (some v)) H s'->Q () s') (hf:X.fn x=true\/X.env.scope.names.lookup x=some .local:=by first | exact .inl rfl | exact .inr rfl | assumption):wpAny M A (storeName X.env x u) Q E s:=
 qMW I hN hi hx r (fun s' I' _=>h s' I') hf
theorem Inv.call' {ch:List Addr} (I:Inv X Ab σ H s) (ho:s'.os=s.os) (u:Un (frs X.stack) ch H H' s.heap s'.heap) (hok:HOk X.prog X.w H' s'.heap) (hg:AllBare s'.gens)
  (hch:∀ b ∈ ch,(b ∈ X.ex\/X.s₀.heap.objs.size<=b)/\b ≠ X.env.locals/\(∀ x c,X.env.cells.lookup x=some c->c ≠ b)/\∀ p ∈ X.pn++Ab,p.1 ≠ b):Inv X Ab σ H' s':=by
 obtain ⟨h',g',d',t',o'⟩:=s';have e:o'=s.os:=ho;subst e;exact I.call (g':=g') (t':=t') (d':=d') u hok hg hch
end
abbrev XK:=Value->Option Addr->Hp->Prop
abbrev St:=List (Option V)
abbrev VK:=V->Hp->Prop
abbrev TE:=St->Hp->VK->Prop
abbrev TT:=St->Hp->(Bool->Hp->Prop)->Prop
abbrev TA:=St->Hp->(List V->Hp->Prop)->Prop
structure Ends where
 nx:St->Hp->Prop
 rt:VK
 bk:St->Hp->Prop:=fun _ _=>False
 ct:St->Hp->Prop:=fun _ _=>False
abbrev TS:=Ends->St->Hp->Prop
def EP (X:Cx) (Ab:Aa2) (σ:St) (Q:VK) (u:Value) (s':Shared):Prop:=∃ v H',Inv X Ab σ H' s'/\RelV v u/\Q v H'
def TP (X:Cx) (Ab:Aa2) (σ:St) (Q:Bool->Hp->Prop) (b:Bool) (s':Shared):Prop:=∃ H',Inv X Ab σ H' s'/\Q b H'
def AP (X:Cx) (Ab:Aa2) (σ:St) (Q:List V->Hp->Prop) (us:List Value) (s':Shared):Prop:=∃ vs H',Inv X Ab σ H' s'/\Vals vs us/\Q vs H'
def SP (X:Cx) (Ab:Aa2) (D:Ends) (f:Flow) (s':Shared):Prop:=
 match f with
 | .next=>∃ σ' H',Inv X Ab σ' H' s'/\D.nx σ' H'
 | .brk=>∃ σ' H',Inv X Ab σ' H' s'/\D.bk σ' H'
 | .cont=>∃ σ' H',Inv X Ab σ' H' s'/\D.ct σ' H'
 | .ret u=>∃ v σ' H',Inv X Ab σ' H' s'/\RelV v u/\D.rt v H'
def PE (X:Cx) (e:Expr) (t:TE):Prop:=
 ∀ (Ab:Aa2) (s:Shared) (σ:St) (H:Hp) (Q:VK),Inv X Ab σ H s->t σ H Q->wpAny (model X.prog X.w) X.A (eval e X.env) (EP X Ab σ Q) X.xe s
def PT (X:Cx) (e:Expr) (t:TT):Prop:=
 ∀ (Ab:Aa2) (s:Shared) (σ:St) (H:Hp) (Q:Bool->Hp->Prop),Inv X Ab σ H s->t σ H Q->wpAny (model X.prog X.w) X.A (isTrue e X.env (eval e X.env)) (TP X Ab σ Q) X.xe s
def PW (X:Cx) (e:Expr) (t:TT):Prop:=
 ∀ (whole:Sem Value) (Ab:Aa2) (s:Shared) (σ:St) (H:Hp) (Q:Bool->Hp->Prop),Inv X Ab σ H s->t σ H Q->wpAny (model X.prog X.w) X.A (isTrue e X.env whole) (TP X Ab σ Q) X.xe s
theorem PW.pt {X:Cx} {e:Expr} {t:TT} (h:PW X e t):PT X e t:=h _
def PA (X:Cx) (es:List Expr) (t:TA):Prop:=
 ∀ (pos:Pos) (Ab:Aa2) (s:Shared) (σ:St) (H:Hp) (Q:List V->Hp->Prop),Inv X Ab σ H s->t σ H Q->wpAny (model X.prog X.w) X.A (spliced (backTo pos (B35 es X.env))) (AP X Ab σ Q) X.xe s
def PS (X:Cx) (st:Stmt) (t:TS):Prop:=
 ∀ (Ab:Aa2) (s:Shared) (σ:St) (H:Hp) (D:Ends),Inv X Ab σ H s->t D σ H->wpAny (model X.prog X.w) X.A (exec st X.env) (SP X Ab D) X.xe s
def PSs (X:Cx) (st:List Stmt) (t:TS):Prop:=
 ∀ (Ab:Aa2) (s:Shared) (σ:St) (H:Hp) (D:Ends),Inv X Ab σ H s->t D σ H->wpAny (model X.prog X.w) X.A (execs st X.env) (SP X Ab D) X.xe s
theorem thn {α:Type} {t:Sem α} {Q Q':α->Shared->Prop} {M:Model} (h:wpAny M A t Q E s) (hQ:∀ a s,Q a s->Q' a s):wpAny M A t Q' E s:=B42 h hQ fun _ _ x=>x
section
variable {X:Cx}
theorem bin {a b:Expr} {ta tb:TE} (ha:PE X a ta) (hb:PE X b tb) {Ab:Aa2} {s:Shared} {σ:St} {H:Hp} {R:V->V->Hp->Prop} (I:Inv X Ab σ H s) (h:ta σ H fun x H1=>tb σ H1 fun y H2=>R x y H2)
  {α:Type} {Q:α->Shared->Prop} {f:Value->Value->Sem α}
  (hf:∀ v u s2 x y H2,Inv X Ab σ H2 s2->RelV x v->RelV y u->R x y H2->wpAny (model X.prog X.w) X.A (f v u) Q X.xe s2) :
  wpAny (model X.prog X.w) X.A (eval a X.env) (fun v s₁=>wpAny (model X.prog X.w) X.A (eval b X.env) (fun u s₂=>wpAny (model X.prog X.w) X.A (f v u) Q X.xe s₂) X.xe s₁) X.xe s:=by
 refine thn (ha Ab s σ H _ I h) fun v s1 ⟨x,H1,I1,r1,q1⟩=>?_;refine thn (hb Ab s1 σ H1 _ I1 q1) fun u s2 ⟨y,H2,I2,r2,q2⟩=>?_;exact hf v u s2 x y H2 I2 r1 r2 q2
def tVar (i:Nat):TE:=fun σ H Q=>∃ v,σ[i]?=some (some v)/\Q v H
def tC (v:V):TE:=fun _ H Q=>Q v H
theorem qbW {i:Nat} {x:Str} {pos:Pos} (hN:X.N[i]?=some x) (hv:Vis X.env.scope x) (hd:(x == ("__debug__" : Str))=false:=by decide) (hcd:(x == ("__classdict__" : Str))=false:=by decide):PE X (.Name x pos) (tVar i):=by
 intro Ab s σ H Q I h;obtain ⟨v,e,h⟩:=h;obtain ⟨m,hn,hl⟩:=I.loc;obtain ⟨u,r,l⟩:=hl i x v hN e hv;have fin:EP X Ab σ Q u s:=⟨v,H,I,r,h⟩;rcases l with ⟨hk,hm⟩ | ⟨hk,c,hc,hcell⟩
 ·exact wpAny_Name (wpAny_loadName_local I.ok.kind hk hn hm fin) hd
 ·rcases hk with hk | hk
  ·exact wpAny_Name (wpAny_loadName_cell I.ok.kind hk hc hcell fin) hd
  ·exact wpAny_Name (wpAny_loadName_free I.ok.kind hk hc hcell fin hcd) hd
theorem qA8 :PE X (.Constant (.int i) j pos) (tC (.int i)):=fun _ _ _ H _ I h=>wpAny_Constant_int ⟨.int i,H,I.tok _,⟨_,rfl⟩,h⟩
theorem qC3 :PE X (.Constant (.bool b) j pos) (tC (.bl b)):=fun _ _ _ H _ I h=>Constant_bool ⟨.bl b,H,I,rfl,h⟩
theorem qI2 :PE X (.Constant .none j pos) (tC .non):=fun _ _ _ H _ I h=>Constant_none ⟨.non,H,I,rfl,h⟩
theorem qBU :PE X (.Constant (.str x) j pos) (tC (.str x)):=fun _ _ _ H _ I h=>Calls.Constant_str ⟨.str x,H,I.tok _,⟨_,rfl⟩,h⟩
def Gl (X:Cx) (x:Str):Prop:=X.env.kindOf x=some .globalImplicit
theorem qa9 {Ab:Aa2} {σ:St} {H:Hp} {x:Str} {u:Value} {pos:Pos} {Q:Aa1} (I:Inv X Ab σ H s) (hg:Gl X x) (hm:X.mg x=some u) (h:Q u s)
  (hd:(x == ("__debug__" : Str))=false:=by decide):wpAny (model X.prog X.w) X.A (eval (.Name x pos) X.env) Q E s:=
 Calls.Name_function_global I.ok.kind hg (Calls.loadGlobal_global (by rw [I.ok.glob];exact I.mod.glob.keeps I.bk) hm h) hd
theorem qG4 {Ab:Aa2} {σ:St} {H:Hp} {x:Str} {u:Value} {pos:Pos} {Q:Aa1} (I:Inv X Ab σ H s) (hg:Gl X x) (hm:X.mg x=none) (hv:B33 x=some u) (h:Q u s)
  (hn:x ≠ "__name__":=by decide) (hd:(x == ("__debug__" : Str))=false:=by decide):wpAny (model X.prog X.w) X.A (eval (.Name x pos) X.env) Q E s:=by
 obtain ⟨mb,h1,h2⟩:=I.mod.blt;exact Calls.Name_function_global I.ok.kind hg (Calls.loadGlobal_builtin (by rw [I.ok.glob];exact I.mod.glob.keeps I.bk) hm (by rw [I.ok.blt];exact h1.keeps I.bk) ((h2 x hn).trans hv) h) hd
theorem qBN {x:Str} {v:V} {u:Value} {pos:Pos} (hg:Gl X x) (hm:X.mg x=none) (hv:B33 x=some u) (r:RelV v u) (hn:x ≠ "__name__":=by decide) (hd:(x == ("__debug__" : Str))=false:=by decide):PE X (.Name x pos) (tC v):=
 fun _ _ _ H _ I h=>qG4 I hg hm hv ⟨v,H,I,r,h⟩ hn hd
variable {a b:Expr} {ta tb:TE} {pos:Pos}
def PC (X:Cx) (op:CmpOp) (a b:Expr) (t:TE):Prop:=
 ∀ (Ab:Aa2) (s:Shared) (σ:St) (H:Hp) (Q:VK),Inv X Ab σ H s->t σ H Q->
  wpAny (model X.prog X.w) X.A (eval a X.env) (fun v s₁=>wpAny (model X.prog X.w) X.A (eval b X.env) (fun u s₂=>wpAny (model X.prog X.w) X.A (B46 op v u) (EP X Ab σ Q) X.xe s₂) X.xe s₁) X.xe s
theorem qQR (b:Expr) {op:CmpOp} (h:op ≠ .In) (h2:op ≠ .NotIn):B67 op b=false:=by
 have e1:(op == CmpOp.In)=false:=by cases op <;> first | rfl | exact absurd rfl h
 have e2:(op == CmpOp.NotIn)=false:=by cases op <;> first | rfl | exact absurd rfl h2
 cases b <;> simp [B67,e1,e2]
def tIsN (ta:TE):TE:=fun σ H Q=>ta σ H fun x H1=>Q (.bl (decide (x=.non))) H1
def qd1 (ta:TE):TE:=fun σ H Q=>ta σ H fun x H1=>Q (.bl (!decide (x=.non))) H1
theorem RelV.none_iff {x:V} {v:Value} (r:RelV x v):(v == L0)=decide (x=.non):=by
 cases x with
 | non=>cases r;rfl
 | bl _=>cases r;rfl
 | int _=>obtain ⟨t,rfl⟩:=r;rfl
 | str _=>obtain ⟨t,rfl⟩:=r;rfl
 | byt _=>obtain ⟨t,rfl⟩:=r;rfl
 | flt _=>obtain ⟨t,rfl⟩:=r;rfl
 | ref _=>cases r;rfl
 | ty _=>cases r;rfl
theorem qN9 (ha:PE X a ta):PC X .Is a (.Constant .none j pos') (tIsN ta):=by
 intro Ab s σ H Q I h;refine thn (ha Ab s σ H _ I h) fun v s1 ⟨x,H1,I1,r1,q1⟩=>?_;exact Constant_none (is_none_gen ⟨.bl _,H1,I1,by rw [r1.none_iff];rfl,q1⟩)
theorem qa0 (ha:PE X a ta):PC X .IsNot a (.Constant .none j pos') (qd1 ta):=by
 intro Ab s σ H Q I h;refine thn (ha Ab s σ H _ I h) fun v s1 ⟨x,H1,I1,r1,q1⟩=>?_;exact Constant_none (isnot_none_gen ⟨.bl _,H1,I1,by rw [r1.none_iff];rfl,q1⟩)
def tB (t:TE):TT:=fun σ H Q=>t σ H fun x H1=>∃ c,x=.bl c/\Q c H1
theorem qYN {op:CmpOp} {t:TE} (h:PC X op a b t) (h1:B67 op b=false:=by first | exact qQR _ (by decide) (by decide) | rfl):PE X (.Compare a [op] [b] pos) t:=fun Ab s σ H Q I hw=>wpAny_Compare1 (h Ab s σ H Q I hw) h1
theorem qDI {op:CmpOp} {t:TE} (h:PC X op a b t) (h1:B67 op b=false:=by first | exact qQR _ (by decide) (by decide) | rfl):PT X (.Compare a [op] [b] pos) (tB t):=by
 intro Ab s σ H Q I hw;refine wpAny_isTrue_Compare1 (thn (h Ab s σ H _ I hw) fun v s1 h1=>thn h1 fun u s2 h2=>thn h2 fun c s3 ⟨x,H1,I1,r1,q1⟩=>?_) h1;obtain ⟨d,rfl,q⟩:=q1;cases r1;exact B41 ⟨H1,I1,q⟩
theorem qBQ {e:Expr} {t:TE} (h:PE X e t) (he:∀ whole,isTrue e X.env whole=(do let v <- whole;standAt e.pos;B71 [v] (truthy v)):=by intro _;rfl):PT X e (tB t):=by
 intro Ab s σ H Q I hw;refine isTrue_plain (thn (h Ab s σ H _ I hw) fun v s1 ⟨x,H1,I1,r1,q1⟩=>?_) (he _);obtain ⟨d,rfl,q⟩:=q1;cases r1;exact B41 ⟨H1,I1,q⟩
variable {tA tB':TT} {rest:List Expr}
def tAnd (t u:TT):TT:=fun σ H Q=>t σ H fun c H1=>if c=true then u σ H1 Q else Q false H1
def tOr (t u:TT):TT:=fun σ H Q=>t σ H fun c H1=>if c=true then Q true H1 else u σ H1 Q
def tNot (t:TT):TT:=fun σ H Q=>t σ H fun c H1=>Q (!c) H1
theorem qTF (ha:PT X a tA):PW X (.BoolOp .And [a] pos) tA:=by
 intro wh Ab s σ H Q I h;refine isTrue_and (thn (ha Ab s σ H Q I h) fun c s1 e=>?_);cases c with
 | true=>exact isTrue_and_nil e
 | false=>exact e
theorem qEP (ha:PT X a tA):PW X (.BoolOp .Or [a] pos) tA:=by
 intro wh Ab s σ H Q I h;refine isTrue_or (thn (ha Ab s σ H Q I h) fun c s1 e=>?_);cases c with
 | false=>exact isTrue_or_nil e
 | true=>exact e
theorem qYI (ha:PT X a tA) (hb:PW X (.BoolOp .And (b::rest) pos) tB'):PW X (.BoolOp .And (a::b::rest) pos) (tAnd tA tB'):=by
 intro wh Ab s σ H Q I h;refine isTrue_and (thn (ha Ab s σ H _ I h) fun c s1 ⟨H1,I1,q1⟩=>?_);cases c with
 | true=>exact hb wh Ab s1 σ H1 Q I1 q1
 | false=>exact ⟨H1,I1,q1⟩
theorem qGU (ha:PT X a tA) (hb:PW X (.BoolOp .Or (b::rest) pos) tB'):PW X (.BoolOp .Or (a::b::rest) pos) (tOr tA tB'):=by
 intro wh Ab s σ H Q I h;refine isTrue_or (thn (ha Ab s σ H _ I h) fun c s1 ⟨H1,I1,q1⟩=>?_);cases c with
 | true=>exact ⟨H1,I1,q1⟩
 | false=>exact hb wh Ab s1 σ H1 Q I1 q1
theorem qCG (ha:PT X a tA):PT X (.UnaryOp .Not a pos) (tNot tA):=by
 intro Ab s σ H Q I h;exact isTrue_not (ha Ab s σ H (fun c H1=>Q (!c) H1) I h)
def qd8 (ta tb:TE):TE:=fun σ H Q=>ta σ H fun x H1=>∃ c,x=.bl c/\if c=true then tb σ H1 Q else Q (.bl false) H1
def qd0 (ta:TE):TE:=fun σ H Q=>ta σ H fun x H1=>∃ c,x=.bl c/\Q (.bl (!c)) H1
theorem qJC {t:TE} (h:PE X a t):PE X (.BoolOp op [a] pos) t:=fun Ab s σ H Q I hw=>BoolOp_one (h Ab s σ H Q I hw)
theorem qI3 (ha:PE X a ta) (hb:PE X (.BoolOp .And (b::rest) pos) tb):PE X (.BoolOp .And (a::b::rest) pos) (qd8 ta tb):=by
 intro Ab s σ H Q I h;refine BoolOp_and (thn (ha Ab s σ H _ I h) fun v s1 ⟨x,H1,I1,r1,q1⟩=>?_);obtain ⟨c,rfl,q1⟩:=q1;cases r1;refine B41 ?_;cases c with
 | true=>exact hb Ab s1 σ H1 Q I1 q1
 | false=>exact ⟨.bl false,H1,I1,rfl,q1⟩
theorem qTQ (ha:PE X a ta):PE X (.UnaryOp .Not a pos) (qd0 ta):=by
 intro Ab s σ H Q I h;refine UnaryOp_ (thn (ha Ab s σ H _ I h) fun v s1 ⟨x,H1,I1,r1,q1⟩=>?_);obtain ⟨c,rfl,q1⟩:=q1;cases r1;exact not_of (B41 ⟨.bl (!c),H1,I1,rfl,q1⟩)
def tIf (t:TT) (ta tb:TE):TE:=fun σ H Q=>t σ H fun c H1=>if c=true then ta σ H1 Q else tb σ H1 Q
theorem qGW {c:Expr} (hc:PT X c tA) (ha:PE X a ta) (hb:PE X b tb):PE X (.IfExp c a b pos) (tIf tA ta tb):=by
 intro Ab s σ H Q I h;refine wpAny_IfExp (thn (hc Ab s σ H _ I h) fun d s1 ⟨H1,I1,q1⟩=>?_);cases d with
 | true=>exact ha Ab s1 σ H1 Q I1 q1
 | false=>exact hb Ab s1 σ H1 Q I1 q1
end
def SqL (K:Ab1) (H:Hp) (a:Addr) (xs:List V):Prop:=
 Rd H a (.lst xs)\/
  ∃ (o:Obj) (its:Array Value) (n:Nat),K.lookup a=some o/\o.cls=.type "list"/\o.dict=none/\o.data=.seq its n/\its.size<=B28/\Vals xs its.toList
def SqT (K:Ab1) (H:Hp) (a:Addr) (xs:List V):Prop:=
 Rd H a (.tup xs)\/
  ∃ (o:Obj) (its:Array Value) (n:Nat),K.lookup a=some o/\o.cls=.type "tuple"/\o.data=.seq its n/\its.size<=B28/\Vals xs its.toList
def absV:Value->Option V
 | .none=>some .non
 | .bool b=>some (.bl b)
 | .int i _=>some (.int i)
 | .str x _=>some (.str x)
 | .bytes b _=>some (.byt b)
 | .float b _=>some (.flt b)
 | .ref a=>some (.ref a)
 | .type n=>some (.ty n)
 | _=>none
theorem RelV.abs {x:V} {u:Value} (r:RelV x u):absV u=some x:=by
 cases x with
 | non=>cases r;rfl
 | bl _=>cases r;rfl
 | int _=>obtain ⟨t,rfl⟩:=r;rfl
 | str _=>obtain ⟨t,rfl⟩:=r;rfl
 | byt _=>obtain ⟨t,rfl⟩:=r;rfl
 | flt _=>obtain ⟨t,rfl⟩:=r;rfl
 | ref _=>cases r;rfl
 | ty _=>cases r;rfl
theorem RelV.inj {x y:V} {u:Value} (r:RelV x u) (q:RelV y u):x=y:=D7 (r.abs.symm.trans q.abs)
theorem Vals.inj:∀ {xs ys:List V} {us:List Value},Vals xs us->Vals ys us->xs=ys
 | _,_,_,.nil,.nil=>rfl
 | _,_,_,.cons r t,.cons r' t'=>by rw [r.inj r',Vals.inj t t']
section
variable {X:Cx} {Ab:Aa2} {σ:St} {H:Hp} {s:Shared} {a:Addr} {xs ys:List V}
theorem Ab2 {K:Ab1} (h:H a=some (.lst xs)):SqL K H a xs:=.inl (.inl h)
theorem Ac0 {K:Ab1} (h:H a=some (.tup xs)):SqT K H a xs:=.inl (.inl h)
theorem Inv.list (I:Inv X Ab σ H s) (h:SqL X.K H a xs):∃ its:List Value,Vals xs its/\PlainL s.heap a its.toArray/\xs.length<=B28:=by
 rcases h with h | ⟨o,its,n,hk,hc,hd,hs,hz,r⟩
 ·obtain ⟨z,its,n,r,e⟩:=h.ok I.hok;exact ⟨its,r,⟨_,n,e,rfl,rfl,rfl⟩,z⟩
 ·refine ⟨its.toList,r,⟨o,n,I.kIn a o hk,hc,hd,by simpa using hs⟩,?_⟩
  have e:=r.length;simp only [C6] at e
  lia
theorem Inv.tuple (I:Inv X Ab σ H s) (h:SqT X.K H a xs):∃ its:List Value,Vals xs its/\IsTup s.heap a its.toArray/\xs.length<=B28:=by
 rcases h with h | ⟨o,its,n,hk,hc,hs,hz,r⟩
 ·obtain ⟨z,its,r,p⟩:=h.ok I.hok;exact ⟨its,r,p,z⟩
 ·refine ⟨its.toList,r,⟨o,I.kIn a o hk,hc,n,by simpa using hs⟩,?_⟩
  have e:=r.length;simp only [C6] at e
  lia
theorem Inv.list_inj (I:Inv X Ab σ H s) (h:SqL X.K H a xs) (h':SqL X.K H a ys):xs=ys:=by
 obtain ⟨its,r,⟨o,n,e,_,_,d⟩,_⟩:=I.list h;obtain ⟨its',r',⟨o',n',e',_,_,d'⟩,_⟩:=I.list h';rw [e] at e';cases e';rw [d] at d'
 injection d' with d1 _
 have:its=its':=by simpa using congrArg A73 d1
 subst this;exact r.inj r'
theorem Inv.tuple_inj (I:Inv X Ab σ H s) (h:SqT X.K H a xs) (h':SqT X.K H a ys):xs=ys:=by
 obtain ⟨its,r,⟨o,e,_,n,d⟩,_⟩:=I.tuple h;obtain ⟨its',r',⟨o',e',_,n',d'⟩,_⟩:=I.tuple h';rw [e] at e';cases e';rw [d] at d'
 injection d' with d1 _
 have:its=its':=by simpa using congrArg A73 d1
 subst this;exact r.inj r'
end
abbrev Cx.wish (X:Cx) (E:Aa1):Cx:={ X with xe:=E }
abbrev Cx.nox (X:Cx):Cx:=X.wish fun _ _=>False
theorem Cx.Ok.wish {X:Cx} (ok:X.Ok) (E:Aa1):(X.wish E).Ok:=
 ⟨ok.mod,ok.kind,ok.glob,ok.blt,ok.above,ok.inj,ok.has,ok.cab,ok.hd,ok.frames,ok.stk,ok.exf,ok.bs,ok.bsz,ok.noex,ok.exfs,ok.funs,ok.frf⟩
theorem Cx.Ok.unwish {X:Cx} (ok:(X.wish E).Ok):X.Ok:=
 ⟨ok.mod,ok.kind,ok.glob,ok.blt,ok.above,ok.inj,ok.has,ok.cab,ok.hd,ok.frames,ok.stk,ok.exf,ok.bs,ok.bsz,ok.noex,ok.exfs,ok.funs,ok.frf⟩
section
variable {X:Cx} {Ab:Aa2} {σ:St} {H:Hp} {s:Shared} {E:Aa1}
theorem Inv.wish (I:Inv X Ab σ H s) (E:Aa1):Inv (X.wish E) Ab σ H s:=⟨I.ok.wish E,I.os,I.bare,I.base,I.loc,I.cell,I.free,I.freeC,I.pin,I.hok,I.len⟩
theorem Inv.unwish (I:Inv (X.wish E) Ab σ H s):Inv X Ab σ H s:=⟨I.ok.unwish,I.os,I.bare,I.base,I.loc,I.cell,I.free,I.freeC,I.pin,I.hok,I.len⟩
theorem SP.unwish {D:Ends} {f:Flow} (h:SP (X.wish E) Ab D f s'):SP X Ab D f s':=by
 cases f with
 | next=>obtain ⟨σ',H',I,q⟩:=h;exact ⟨σ',H',I.unwish,q⟩
 | brk=>obtain ⟨σ',H',I,q⟩:=h;exact ⟨σ',H',I.unwish,q⟩
 | cont=>obtain ⟨σ',H',I,q⟩:=h;exact ⟨σ',H',I.unwish,q⟩
 | ret u=>obtain ⟨v,σ',H',I,r,q⟩:=h;exact ⟨v,σ',H',I.unwish,r,q⟩
theorem PSs.nox {st:List Stmt} {t:TS} (h:PSs X.nox st t):PSs X st t:=fun Ab s σ H D I hw=>
 B42 (h Ab s σ H D (I.wish _) hw) (fun _ _ q=>q.unwish) fun _ _ z=>W2 z
end
section
variable {X:Cx} {st:Stmt} {rest:List Stmt} {t u:TS} {e:Expr} {te:TE} {pos:Pos}
def qd2:TS:=fun D σ H=>D.nx σ H
def tSeq (t u:TS):TS:=fun D σ H=>t { D with nx:=u D } σ H
theorem qAI:PSs X [] qd2:=fun _ _ σ H _ I h=>C07 ⟨σ,H,I,h⟩
theorem qA4 (h1:PS X st t) (h2:PSs X rest u):PSs X (st::rest) (tSeq t u):=by
 intro Ab s σ H D I h;refine wpAny_execs_cons (thn (h1 Ab s σ H { D with nx:=u D } I h) fun f s1 q=>?_);cases f with
 | next=>
  obtain ⟨σ',H',I',q⟩:=q;exact h2 Ab s1 σ' H' D I' q
 | ret v=>exact q
 | brk=>exact q
 | cont=>exact q
theorem qA5 (h1:PS X st t):PSs X [st] t:=by
 intro Ab s σ H D I h;refine wpAny_execs_cons (thn (h1 Ab s σ H D I h) fun f s1 q=>?_);cases f with
 | next=>exact C07 q
 | ret v=>exact q
 | brk=>exact q
 | cont=>exact q
theorem Inv.quiet {Ab:Aa2} {σ:St} {H:Hp} (I:Inv X Ab σ H s):interactive X.env=false:=by simp [interactive,I.ok.kind]
def qd5 (te:TE):TS:=fun D σ H=>te σ H fun _ H1=>D.nx σ H1
theorem qF2 (he:PE X e te) (hs:swapsWith e none pos.line X.env=pure false:=by rfl):PS X (.Expr e pos) (qd5 te):=by
 intro Ab s σ H D I h;exact wpAny_Expr_any (thn (he Ab s σ H _ I h) fun v s1 ⟨x,H1,I1,r1,q1⟩=>⟨σ,H1,I1,q1⟩) I.quiet hs
def tRet (te:TE):TS:=fun D σ H=>te σ H D.rt
theorem qAE (he:PE X e te):PS X (.Return (some e) pos) (tRet te):=by
 intro Ab s σ H D I h;exact wpAny_Return_some (thn (he Ab s σ H _ I h) fun v s1 ⟨x,H1,I1,r1,q1⟩=>⟨x,σ,H1,I1,r1,q1⟩)
def tIfS (c:TT) (t u:TS):TS:=fun D σ H=>c σ H fun b H1=>if b=true then t D σ H1 else u D σ H1
theorem qB5 {c:Expr} {a b:List Stmt} {tc:TT} (hc:PT X c tc) (ha:PSs X a t) (hb:PSs X b u):PS X (.If c a b pos) (tIfS tc t u):=by
 intro Ab s σ H D I h;refine wpAny_If (thn (hc Ab s σ H _ I h) fun d s1 ⟨H1,I1,q1⟩=>?_);cases d with
 | true=>exact ha Ab s1 σ H1 D I1 q1
 | false=>exact hb Ab s1 σ H1 D I1 q1
end
abbrev TG:=V->St->Hp->(St->Hp->Prop)->Prop
abbrev TGs:=List V->St->Hp->(St->Hp->Prop)->Prop
def PG (X:Cx) (target:Expr) (t:TG):Prop:=
 ∀ (Ab:Aa2) (s:Shared) (σ:St) (H:Hp) (v:V) (u:Value) (Q:St->Hp->Prop),Inv X Ab σ H s->RelV v u->t v σ H Q->
  wpAny (model X.prog X.w) X.A (assign target X.env u) (fun _ s'=>∃ σ' H',Inv X Ab σ' H' s'/\Q σ' H') X.xe s
def PGs (X:Cx) (ts:List Expr) (t:TGs):Prop:=
 ∀ (Ab:Aa2) (s:Shared) (σ:St) (H:Hp) (vs:List V) (us:List Value) (Q:St->Hp->Prop),Inv X Ab σ H s->Vals vs us->t vs σ H Q->
  wpAny (model X.prog X.w) X.A (assignInOrder ((B81 ts X.env).map (·.2)) us) (fun _ s'=>∃ σ' H',Inv X Ab σ' H' s'/\Q σ' H') X.xe s
abbrev TSet:=V->V->V->Hp->(Hp->Prop)->Prop
def PSet (X:Cx) (t:TSet):Prop:=
 ∀ (Ab:Aa2) (s:Shared) (σ:St) (H:Hp) (o i v:V) (ov iv u:Value) (Q:Hp->Prop),Inv X Ab σ H s->RelV o ov->RelV i iv->RelV v u->t o i v H Q->
  wpAny (model X.prog X.w) X.A (setItem ov iv u) (fun _ s'=>∃ H',Inv X Ab σ H' s'/\Q H') X.xe s
section
variable {X:Cx} {pos:Pos}
def qUV (i:Nat):TG:=fun v σ H Q=>Q (σ.set i (some v)) H
theorem qAY {i:Nat} {x:Str} (hN:X.N.Nodup) (hi:X.N[i]?=some x) (hx:Loc X.env.scope x) (hf:X.fn x=true\/X.env.scope.names.lookup x=some .local:=by first | exact .inl rfl | exact .inr rfl | assumption):PG X (.Name x pos) (qUV i):=by
 intro Ab s σ H v u Q I r h;exact wpAny_assign_Name (qPW I hN hi hx r (fun s' I'=>⟨_,H,I',h⟩) hf)
def gNil:TGs:=fun vs σ H Q=>vs=[]/\Q σ H
def qe0 (t:TG) (u:TGs):TGs:=fun vs σ H Q=>∃ v r,vs=v::r/\t v σ H fun σ' H'=>u r σ' H' Q
theorem qE8:PGs X [] gNil:=by
 intro Ab s σ H vs us Q I r h;obtain ⟨e,h⟩:=h;subst e;cases r;exact assignInOrder_nil ⟨σ,H,I,h⟩
theorem qB8 {e:Expr} {es:List Expr} {t:TG} {u:TGs} (h1:PG X e t) (h2:PGs X es u)
  (hs:(B81 (e::es) X.env).map (·.2)=assign e X.env::(B81 es X.env).map (·.2):=by rfl):PGs X (e::es) (qe0 t u):=by
 intro Ab s σ H vs us Q I r h;obtain ⟨v,vr,e1,h⟩:=h;subst e1;cases r with
 | cons r rr=>
  rw [hs];refine assignInOrder_cons (thn (h1 Ab s σ H _ _ _ I r h) fun _ s1 ⟨σ1,H1,I1,q1⟩=>?_);exact h2 Ab s1 σ1 H1 _ _ Q I1 rr q1
def gTup (K:Ab1) (n:Nat) (t:TGs):TG:=fun v σ H Q=>∃ a xs,v=.ref a/\SqT K H a xs/\xs.length=n/\t xs σ H Q
theorem qQJ {es:List Expr} {k:Nat} {t:TGs} {n:Nat} (hc:X.calm=true) (h:PGs X es t)
  (hn:(B81 es X.env).length=n:=by rfl) (hst:(B81 es X.env).findIdx? (·.1)=none:=by rfl):PG X (.Tuple es k pos) (gTup X.K n t):=by
 intro Ab s σ H v u Q I r hw;obtain ⟨a,xs,e1,hq,hl,hw⟩:=hw;subst e1;cases r;obtain ⟨its,rv,ht,hz⟩:=I.tuple hq;refine assign_Tuple_tuple (I.ok.hd hc) ht (by simp [hn,<- hl,rv.length]) hst fun h' hx=>?_
 have I1:Inv X Ab σ H { s with heap:=h' }:=I.kept (t':=s.toks) fun b o e=>hx b o (C2 (A9 e)) e;exact h Ab _ σ H xs _ Q I1 (by simpa using rv) hw
def gSub (to ti:TE) (t:TSet):TG:=fun v σ H Q=>to σ H fun o H1=>ti σ H1 fun i H2=>t o i v H2 fun H3=>Q σ H3
theorem qTO {o i:Expr} {to ti:TE} {t:TSet} (ho:PE X o to) (hi:PE X i ti) (hs:PSet X t)
  (ha:∀ v,assign (.Subscript o i pos) X.env v=(do
   let ov <- B71 [v] (eval o X.env)
   let iv <- B71 [v,ov] (eval i X.env)
   standAt pos
   B71 [v,ov,iv] (setItem ov iv v)
   release [v,ov,iv] []):=by intro _;rfl):PG X (.Subscript o i pos) (gSub to ti t):=by
 intro Ab s σ H v u Q I r h;rw [ha];refine B26 (B34 (thn (ho Ab s σ H _ I h) fun ov s1 ⟨x,H1,I1,r1,q1⟩=>?_));refine B26 (B34 (thn (hi Ab s1 σ H1 _ I1 q1) fun iv s2 ⟨y,H2,I2,r2,q2⟩=>?_));refine B26 (B98 (B26 (B34 (thn (hs Ab s2 σ H2 x y v ov iv u _ I2 r1 r2 r q2) fun _ s3 ⟨H3,I3,q3⟩=>?_))));exact wpAny_release ⟨σ,H3,I3,q3⟩
def tAsg (te:TE) (g:TG):TS:=fun D σ H=>te σ H fun x H1=>g x σ H1 D.nx
theorem qQG {tg e:Expr} {te:TE} {g:TG} (he:PE X e te) (hg:PG X tg g) (hs:swapsWithSole [tg] e pos.line X.env=pure false:=by rfl) (hw:swappedStores [tg] e X.env=pure none:=by rfl)
  (h1:(B81 [tg] X.env).map (·.2)=[assign tg X.env]:=by rfl):PS X (.Assign [tg] e pos) (tAsg te g):=by
 intro Ab s σ H D I h;refine wpAny_Assign_stores (thn (he Ab s σ H _ I h) fun v s1 ⟨x,H1,I1,r1,q1⟩=>?_) hs hw;rw [h1];exact thn (hg Ab s1 σ H1 x v _ I1 r1 q1) fun _ s2 q=>q
theorem qAM {i:Nat} {x:Str} {e:Expr} {te:TE} {pos':Pos} (hN:X.N.Nodup) (hi:X.N[i]?=some x) (hx:Loc X.env.scope x) (he:PE X e te) (hs:swapsWith e (some (.Name x pos')) pos.line X.env=pure false:=by rfl) (hf:X.fn x=true\/X.env.scope.names.lookup x=some .local:=by first | exact .inl rfl | exact .inr rfl | assumption) :
  PS X (.Assign [.Name x pos'] e pos) (tAsg te (qUV i)):=by
 intro Ab s σ H D I h;refine wpAny_Assign_Name (thn (he Ab s σ H _ I h) fun v s1 ⟨y,H1,I1,r1,q1⟩=>?_) hs;exact qPW I1 hN hi hx r1 (fun s2 I2=>⟨_,H1,I2,q1⟩) hf
def qb9 (c:TT) (tb:TS):TS:=fun D σ H=>∃ W:Nat->St->Hp->Prop,(∃ m,W m σ H)/\∀ m σ H,W m σ H->
 c σ H fun b H1=>if b=true then ∃ N:St->Hp->Prop,(∀ σ' H',N σ' H'->∃ m',m'<m/\W m' σ' H')/\tb { D with nx:=N,ct:=N,bk:=D.nx } σ H1 else D.nx σ H1
theorem qIP {c:Expr} {body:List Stmt} {tc:TT} {tb:TS} (hp:PassesOwn (model X.prog X.w) X.A X.env X.xe) (hc:PT X c tc) (hb:PSs X body tb):PS X (.While c body [] pos) (qb9 tc tb):=by
 intro Ab s σ H D I h;obtain ⟨W,⟨m0,w0⟩,turn⟩:=h;refine wpAny_While (codeAny_whileLoop (fun n s'=>∃ σ' H',Inv X Ab σ' H' s'/\W n σ' H') ?_ m0 ⟨σ,H,I,w0⟩);rintro n s1 ⟨σ1,H1,I1,w1⟩;refine B63 hp (thn (hc Ab s1 σ1 H1 _ I1 (turn n σ1 H1 w1)) fun b s2 ⟨H2,I2,q2⟩=>?_);cases b with
 | true=>
  obtain ⟨N,hN,q2⟩:=q2;rw [if_pos rfl];refine B63 hp (thn (hb Ab s2 σ1 H2 _ I2 q2) fun f s3 q3=>?_);cases f with
  | next=>
   obtain ⟨σ3,H3,I3,n3⟩:=q3;obtain ⟨m',hm,w3⟩:=hN σ3 H3 n3;exact ⟨m',hm,σ3,H3,I3,w3⟩
  | cont=>
   obtain ⟨σ3,H3,I3,n3⟩:=q3;obtain ⟨m',hm,w3⟩:=hN σ3 H3 n3;exact ⟨m',hm,σ3,H3,I3,w3⟩
  | brk=>exact q3
  | ret v=>exact q3
 | false=>
  rw [if_neg B4];exact C07 ⟨σ1,H2,I2,q2⟩
end
structure It where
 go:Nat->Hp->Prop
 yld:Nat->Hp->V->Hp->Prop
 stop:Nat->Hp->Prop
def FpOk (X:Cx) (Ab:Aa2) (H:Hp) (b:Addr):Prop:=
 H b=none/\b ≠ X.env.locals/\b ∉ X.fs/\(b ∈ X.ex\/X.s₀.heap.objs.size<=b)/\(∀ x c,X.env.cells.lookup x=some c->c ≠ b)/\∀ p ∈ X.pn++Ab,p.1 ≠ b
theorem Inv.fpOk {X:Cx} {Ab:Aa2} {σ:St} {H H':Hp} {b:Addr} (I:Inv X Ab σ H s) (hb:s.heap.objs.size<=b) (hn:H' b=none):FpOk X Ab H' b:=by
 refine ⟨hn,R9 (D6 I.lt hb),I.nofs hb,.inr (F6 I.sz hb),fun x c e z=>?_,fun p hp z=>?_⟩
 ·obtain ⟨v,q⟩:=I.cell x c e;exact absurd (D6 q.lt (by rw [z];exact hb)) (Q0 _)
 ·exact absurd (D6 (A9 (I.pin p hp).1) (by rw [z];exact hb)) (Q0 _)
structure Turn (P:B30) (w:World) (K:Ab1) (tg:Expr) (J:It) (fp:List Addr) (it:Addr) (tn:Nat->Heap->Prop):Prop where
 mem:it ∈ fp
 obj:∀ i h,tn i h->∀ b ∈ fp,∃ o,h.get? b=some o/\∀ v,o.data ≠ .cell v
 keep:∀ i h h',tn i h->(∀ b ∈ fp,∀ o,h.get? b=some o->h'.get? b=some o)->tn i h'
 item:∀ (X:Cx),X.prog=P->X.w=w->X.K=K->X.calm=true->∀ (i:Nat) (Ab:Aa2) (s:Shared) (σ:St) (H:Hp) (E:Aa1),Inv X Ab σ H s->(∀ b ∈ fp,FpOk X Ab H b)->tn i s.heap->J.go i H->
  wpAny (model P w) X.A (pyNext (.ref it)) (fun r s1=>∃ u,r=some u/\
   wpAny (model P w) X.A (C08 tg (.ref it) u) (fun _ s2=>∃ x H',Inv X Ab σ H' s2/\RelV x u/\J.yld i H x H'/\tn (i+1) s2.heap/\∀ b ∈ fp,H' b=none) E s1) E s
 done:∀ (X:Cx),X.prog=P->X.w=w->X.K=K->X.calm=true->∀ (i:Nat) (Ab:Aa2) (s:Shared) (σ:St) (H:Hp) (E:Aa1),Inv X Ab σ H s->(∀ b ∈ fp,FpOk X Ab H b)->tn i s.heap->J.stop i H->
  wpAny (model P w) X.A (pyNext (.ref it)) (fun r s1=>r=none/\Inv X Ab σ H s1) E s
 self:∀ (A:Around) (i:Nat) (s:Shared) (Q:Aa1) (E:Aa1),tn i s.heap->Q (.ref it) s->wpAny (model P w) A (pyIter (.ref it)) Q E s
abbrev TI:=St->Hp->(It->Hp->Prop)->Prop
def PIE (X:Cx) (Ab:Aa2) (σ:St) (tg:Expr) (R:It->Hp->Prop) (itv:Value) (s2:Shared):Prop:=
 ∃ (it:Addr) (fp:List Addr) (tn:Nat->Heap->Prop) (J:It) (H':Hp),itv=.ref it/\Inv X Ab σ H' s2/\Turn X.prog X.w X.K tg J fp it tn/\tn 0 s2.heap/\(∀ b ∈ fp,FpOk X Ab H' b)/\R J H'
def PI (X:Cx) (tg iter:Expr) (wi:TI):Prop:=
 ∀ (Ab:Aa2) (s:Shared) (σ:St) (H:Hp) (R:It->Hp->Prop),Inv X Ab σ H s->wi σ H R->
  wpAny (model X.prog X.w) X.A (eval iter X.env) (fun v s1=>wpAny (model X.prog X.w) X.A (pyIter v) (PIE X Ab σ tg R) X.xe s1) X.xe s
theorem qSA {M:Model} {tg:Expr} {it:Addr} {u:Value} {o:Obj} {n:String} {vs:Array Value} {Q:Unit->Shared->Prop} (ho:s.heap.get? it=some o) (hc:o.cls=.type n) (hd:o.data=.fields vs)
  (hn:["enumerate","zip","dict_itemiterator","dict_reverseitemiterator","odict_iterator","itertools.zip_longest","itertools.pairwise"].contains n=false) (hQ:Q () s):wpAny M A (C08 tg (.ref it) u) Q E s:=by
 unfold C08;cases tg <;> first
  | exact B27 hQ
  | (cases u <;> first
    | exact B27 hQ
    | (refine B26 (wpAny_load ho ?_)
       rw [hc,hd];show wpAny M A (if (["enumerate","zip","dict_itemiterator","dict_reverseitemiterator","odict_iterator","itertools.zip_longest","itertools.pairwise"].contains n && vs[0]? == some (rawInt _))=true then _ else _) Q E s
       rw [if_neg (by intro h;rw [hn,t7] at h;cases h)]
       exact B27 hQ))
def Itl (K:Ab1) (a:Addr):It:=
 ⟨fun i H=>∃ xs x,SqL K H a xs/\xs[i]?=some x,fun i H x H'=>H'=H/\∀ xs,SqL K H a xs->xs[i]?=some x,fun i H=>∃ xs,SqL K H a xs/\xs.length<=i⟩
def Itt (K:Ab1) (a:Addr):It:=
 ⟨fun i H=>∃ xs x,SqT K H a xs/\xs[i]?=some x,fun i H x H'=>H'=H/\∀ xs,SqT K H a xs->xs[i]?=some x,fun i H=>∃ xs,SqT K H a xs/\xs.length<=i⟩
def Itr (lo:Int) (n:Nat):It:=⟨fun i _=>i<n,fun i H x H'=>H'=H/\x=.int (lo+i),fun i _=>n<=i⟩
theorem qMS {K:Ab1} {tg:Expr} (a it:Addr):Turn P w K tg (Itl K a) [it] it (fun i h=>h.IsListIter it a i) where
 mem:=by simp
 obj:=fun i h st b hb=>by
  have e:b=it:=by simpa using hb
  subst e;obtain ⟨o,e,c,d⟩:=st;exact ⟨o,e,fun v z=>by rw [d] at z;cases z⟩
 keep:=fun i h h' st k=>st.at fun o e=>k it (by simp) o e
 item:=by
  intro X hP hw hK hc i Ab s σ H E I hf st hg;subst hP hw hK;obtain ⟨xs,x,hq,hx⟩:=hg;obtain ⟨its,rv,p,hz⟩:=I.list hq;obtain ⟨u,hu,ru⟩:=rv.get hx;obtain ⟨f0,f1,f2,f3,f4,f5⟩:=hf it (by simp)
  refine B96 st p.isList (x:=u) (by simpa using hu) fun h' st' sb=>?_
  have I1:Inv X Ab σ H { s with heap:=h' }:=I.turned (t':=s.toks) (fun b o hb e=>(sb.2 b hb).trans e) f0 f1 f3 f4 f5;obtain ⟨o,e,c,d⟩:=id st';exact ⟨u,rfl,qSA (s:={ s with heap:=h' }) e c d (by decide) ⟨x,H,I1,ru,⟨rfl,fun ys hy=>by rw [I.list_inj hy hq];exact hx⟩,st',fun b hb=>(hf b hb).1⟩⟩
 done:=by
  intro X hP hw hK hc i Ab s σ H E I hf st hg;subst hP hw hK;obtain ⟨xs,hq,hx⟩:=hg;obtain ⟨its,rv,p,hz⟩:=I.list hq;obtain ⟨f0,f1,f2,f3,f4,f5⟩:=hf it (by simp)
  have hl:=rv.length;exact C03 (I.ok.hd hc) st p.isList (by simp;lia) fun h' eb=>⟨rfl,I.turned (t':=s.toks) (fun b o hb e=>eb b o hb e) f0 f1 f3 f4 f5⟩
 self:=fun _ _ _ _ _ st h=>wpAny_pyIter_listiter st h
theorem qKP {K:Ab1} {tg:Expr} (a it:Addr):Turn P w K tg (Itt K a) [it] it (fun i h=>h.IsTupleIter it a i) where
 mem:=by simp
 obj:=fun i h st b hb=>by
  have e:b=it:=by simpa using hb
  subst e;obtain ⟨o,e,c,d⟩:=st;exact ⟨o,e,fun v z=>by rw [d] at z;cases z⟩
 keep:=fun i h h' st k=>st.at fun o e=>k it (by simp) o e
 item:=by
  intro X hP hw hK hc i Ab s σ H E I hf st hg;subst hP hw hK;obtain ⟨xs,x,hq,hx⟩:=hg;obtain ⟨its,rv,p,hz⟩:=I.tuple hq;obtain ⟨u,hu,ru⟩:=rv.get hx;obtain ⟨f0,f1,f2,f3,f4,f5⟩:=hf it (by simp)
  refine wpAny_pyNext_tuple_item st (show s.heap.IsTuple a its.toArray from p) (x:=u) (by simpa using hu) fun h' st' sb=>?_
  have I1:Inv X Ab σ H { s with heap:=h' }:=I.turned (t':=s.toks) (fun b o hb e=>(sb.2 b hb).trans e) f0 f1 f3 f4 f5;obtain ⟨o,e,c,d⟩:=id st';exact ⟨u,rfl,qSA (s:={ s with heap:=h' }) e c d (by decide) ⟨x,H,I1,ru,⟨rfl,fun ys hy=>by rw [I.tuple_inj hy hq];exact hx⟩,st',fun b hb=>(hf b hb).1⟩⟩
 done:=by
  intro X hP hw hK hc i Ab s σ H E I hf st hg;subst hP hw hK;obtain ⟨xs,hq,hx⟩:=hg;obtain ⟨its,rv,p,hz⟩:=I.tuple hq;obtain ⟨f0,f1,f2,f3,f4,f5⟩:=hf it (by simp)
  have hl:=rv.length;exact wpAny_pyNext_tuple_end (I.ok.hd hc) st (show s.heap.IsTuple a its.toArray from p) (by simp;lia) fun h' eb=>⟨rfl,I.turned (t':=s.toks) (fun b o hb e=>eb b o hb e) f0 f1 f3 f4 f5⟩
 self:=fun _ _ _ _ _ st h=>wpAny_pyIter_tupleiter st h
theorem qRJ {K:Ab1} {tg:Expr} (it:Addr) (lo:Int) (n:Nat):Turn P w K tg (Itr lo n) [it] it (fun i h=>IsRangeIter h it (lo+(i:Nat) * 1) ((n:Int) - (i:Nat)) 1) where
 mem:=by simp
 obj:=fun i h st b hb=>by
  have e:b=it:=by simpa using hb
  subst e;exact ⟨_,st,fun v z=>by
   have z':A05 _=u9 v:=z;cases z'⟩
 keep:=fun i h h' st k=>k it (by simp) _ st
 item:=by
  intro X hP hw hK hc i Ab s σ H E I hf st hg;subst hP hw hK;obtain ⟨f0,f1,f2,f3,f4,f5⟩:=hf it (by simp)
  have W:=Walks.range (prog:=X.prog) (w:=X.w) (I.ok.hd hc) it lo 1 n;refine W.item i s _ _ hg st fun v h' tk hv st' kk=>?_;obtain ⟨t,rfl⟩:=hv;have I1:Inv X Ab σ H { s with heap:=h',toks:=tk }:=I.turned (fun b o hb e=>kk b o (by simpa using hb) e) f0 f1 f3 f4 f5
  refine ⟨_,rfl,qSA (s:={ s with heap:=h',toks:=tk }) (n:="range_iterator") st' rfl rfl (by decide) ⟨.int (lo+i),H,I1,⟨t,?_⟩,⟨rfl,rfl⟩,st',fun b hb=>(hf b hb).1⟩⟩
  rw [Int.mul_one]
 done:=by
  intro X hP hw hK hc i Ab s σ H E I hf st hg;subst hP hw hK;obtain ⟨f0,f1,f2,f3,f4,f5⟩:=hf it (by simp)
  exact wpAny_pyNext_range_end (I.ok.hd hc) st (by have:n<=i:=hg;lia) fun h' eb=>⟨rfl,I.turned (t':=s.toks) (fun b o hb e=>eb b o hb e) f0 f1 f3 f4 f5⟩
 self:=fun _ _ _ _ _ st h=>wpAny_pyIter_rangeiter st h
section
variable {X:Cx} {tg:Expr}
def qdX (K:Ab1) (tl:TE):TI:=fun σ H R=>tl σ H fun x H1=>∃ a,x=.ref a/\(∃ xs,SqL K H1 a xs)/\R (Itl K a) H1
def iTup (K:Ab1) (tl:TE):TI:=fun σ H R=>tl σ H fun x H1=>∃ a,x=.ref a/\(∃ xs,SqT K H1 a xs)/\R (Itt K a) H1
theorem qCA {l:Expr} {tl:TE} (hl:PE X l tl):PI X tg l (qdX X.K tl):=by
 intro Ab s σ H R I h;refine thn (hl Ab s σ H _ I h) fun v s1 ⟨x,H1,I1,r1,q1⟩=>?_;obtain ⟨a,e,⟨xs,hq⟩,q⟩:=q1;subst e;cases r1;obtain ⟨its,rv,p,hz⟩:=I1.list hq;refine B51 p.isList ?_;refine ⟨s1.heap.objs.size,[s1.heap.objs.size],_,_,H1,rfl,I1.kept (t':=s1.toks) fun b o e=>A3 _ e,qMS a _,⟨_,A8 _ rfl,rfl,rfl⟩,fun b hb=>?_,q⟩;have e:b=s1.heap.objs.size:=by simpa using hb
 subst e;exact I1.fpOk (A6 _) (I1.hok.fresh (A6 _))
theorem qCX {l:Expr} {tl:TE} (hl:PE X l tl):PI X tg l (iTup X.K tl):=by
 intro Ab s σ H R I h;refine thn (hl Ab s σ H _ I h) fun v s1 ⟨x,H1,I1,r1,q1⟩=>?_;obtain ⟨a,e,⟨xs,hq⟩,q⟩:=q1;subst e;cases r1;obtain ⟨its,rv,p,hz⟩:=I1.tuple hq;refine wpAny_pyIter_tuple (show s1.heap.IsTuple a its.toArray from p) ?_;refine ⟨s1.heap.objs.size,[s1.heap.objs.size],_,_,H1,rfl,I1.kept (t':=s1.toks) fun b o e=>A3 _ e,qKP a _,⟨_,A8 _ rfl,rfl,rfl⟩,fun b hb=>?_,q⟩;have e:b=s1.heap.objs.size:=by simpa using hb
 subst e;exact I1.fpOk (A6 _) (I1.hok.fresh (A6 _))
theorem range_it {Ab:Aa2} {σ:St} {H:Hp} {R:It->Hp->Prop} {lo hi:Int} {t u v:Tok} {tk:Nat} (I:Inv X Ab σ H s) (h1 : -(2 ^ 62)<=lo) (h2:lo<2 ^ 62) (h3 : -(2 ^ 62)<=hi) (h4:hi<2 ^ 62)
  (q:R (Itr lo (hi - lo).toNat) H):wpAny (model X.prog X.w) X.A (pyIter (.ref s.heap.objs.size)) (PIE X Ab σ tg R) E { s with heap:=s.heap.push { cls:=.type "range",data:=.fields #[.int lo t,.int hi u,.int 1 v] },toks:=tk }:=by
 refine wpAny_pyIter_range (B22 ..) (small_one h1 h2 h3 h4) ?_;have I1:Inv X Ab σ H { s with heap:=s.heap.push { cls:=.type "range",data:=.fields #[.int lo t,.int hi u,.int 1 v] },toks:=tk }:=I.kept fun b o e=>A3 _ e;refine ⟨(s.heap.push { cls:=.type "range",data:=.fields #[.int lo t,.int hi u,.int 1 v] }).objs.size,[(s.heap.push { cls:=.type "range",data:=.fields #[.int lo t,.int hi u,.int 1 v] }).objs.size],_,_,H,rfl,
  I1.kept (t':=tk) fun b o e=>A3 _ e,qRJ _ lo (hi - lo).toNat,?_,fun b hb=>?_,q⟩
 ·have e1:lo+((0:Nat):Int) * 1=lo:=by simp
  have e2:(((hi - lo).toNat:Nat):Int) - ((0:Nat):Int)=Q1 lo hi 1:=by rw [rangeSize_one];split <;> lia
  show IsRangeIter _ _ (lo+((0:Nat):Int) * 1) ((((hi - lo).toNat:Nat):Int) - ((0:Nat):Int)) 1;rw [e1,e2];exact A8 _ rfl
 ·have e:b=(s.heap.push { cls:=.type "range",data:=.fields #[.int lo t,.int hi u,.int 1 v] }).objs.size:=by simpa using hb
  subst e;exact I1.fpOk (A6 _) (I1.hok.fresh (A6 _))
def qdW (ta:TA):TI:=fun σ H R=>ta σ H fun vs H1=>∃ j:Int,vs=[.int j]/\-(2 ^ 62)<=j/\j<2 ^ 62/\R (Itr 0 j.toNat) H1
theorem qBC {a:Expr} {ta:TA} {p pos:Pos} (hg:Gl X "range") (hm:X.mg "range" = none) (ha:PA X [a] ta) (hs:B35 [a] X.env=[(false,eval a X.env)]:=by rfl):PI X tg (.Call (.Name "range" p) [a] [] pos) (qdW ta):=by
 intro Ab s σ H R I h;refine Call_ (qG4 I hg hm boot_range (G4 (thn (ha pos Ab s σ H _ I h) fun us s1 ⟨vs,H1,I1,r1,q1⟩=>?_) hs rfl));obtain ⟨j,e,q1,q2,q⟩:=q1;subst e;cases r1 with
 | cons r rr=>
  cases rr;obtain ⟨t,rfl⟩:=r;exact call_range_1 (range_it I1 (by lia) (by lia) q1 q2 (by simpa using q))
def tFor (wi:TI) (g:TG) (tb:TS):TS:=fun D σ H=>wi σ H fun J H1=>∃ W:Nat->Nat->St->Hp->Prop,(∃ m,W 0 m σ H1)/\∀ i m σ H,W i m σ H->
 (J.stop i H/\D.nx σ H)\/(J.go i H/\∃ N:St->Hp->Prop,(∀ σ' H',N σ' H'->∃ m',m'<m/\W (i+1) m' σ' H')/\∀ x H',J.yld i H x H'->g x σ H' fun σ2 H2=>tb { D with nx:=N,ct:=N,bk:=D.nx } σ2 H2)
def qN8 (fp:List Addr) (h:Heap):Aa2:=fp.filterMap fun b=>(h.get? b).map fun o=>(b,o)
theorem qFS {fp:List Addr} {h:Heap} {b:Addr} {o:Obj} (hb:b ∈ fp) (e:h.get? b=some o):(b,o) ∈ qN8 fp h:=a9.mpr ⟨b,hb,by rw [e];rfl⟩
theorem qU1 {fp:List Addr} {h:Heap} {p:Addr × Obj} (hp:p ∈ qN8 fp h):p.1 ∈ fp/\h.get? p.1=some p.2:=by
 obtain ⟨b,hb,e⟩:=a9.mp hp;cases q:h.get? b with
 | none=>rw [q] at e;cases e
 | some o=>
  rw [q] at e;have e':(b,o)=p:=D7 e;subst e';exact ⟨hb,q⟩
theorem Inv.pinned {Ab:Aa2} {σ:St} {H:Hp} {fp:List Addr} (I:Inv X Ab σ H s) (hf:∀ b ∈ fp,FpOk X Ab H b) (ho:∀ b ∈ fp,∃ o,s.heap.get? b=some o/\∀ v,o.data ≠ .cell v):Inv X (Ab++qN8 fp s.heap) σ H s:=
 I.pins_of fun p hp=>(B3.mp hp).elim (fun z=>I.pin p (F7 _ z)) fun z=>by
  obtain ⟨hb,e⟩:=qU1 z;obtain ⟨f0,f1,f2,_⟩:=hf p.1 hb;obtain ⟨o,e',d⟩:=ho p.1 hb;rw [e] at e';cases e';exact ⟨e,f0,f1,f2,d⟩
theorem Inv.unpinned {Ab pl:Aa2} {σ:St} {H:Hp} (I:Inv X (Ab++pl) σ H s):Inv X Ab σ H s:=I.pins_of fun p hp=>I.pin p (F7 _ (k9 _ hp))
theorem qBT {iter:Expr} {body:List Stmt} {wi:TI} {g:TG} {tb:TS} {pos:Pos} (hp:PassesOwn (model X.prog X.w) X.A X.env X.xe) (hc:X.calm=true) (hi:PI X tg iter wi) (hg:PG X tg g) (hb:PSs X body tb)
  (hs:∀ x,B95 iter X.env x=pure x:=by intro _;rfl):PS X (.For tg iter body [] pos) (tFor wi g tb):=by
 intro Ab s σ H D I h;refine wpAny_For (thn (hi Ab s σ H _ I h) fun v s1 h1=>thn h1 fun itv s2 h2=>?_) hs;obtain ⟨it,fp,tn,J,H2,e,I2,T,st2,f2,W,⟨m0,w0⟩,turn⟩:=h2;subst e
 -- what stays true of the iterator's objects through the loop
 have stat:∀ {H':Hp},(∀ b ∈ fp,H' b=none)->∀ b ∈ fp,FpOk X Ab H' b:=fun hn b hb=>⟨hn b hb,(f2 b hb).2⟩;refine codeAny_forLoop_any (fun n s'=>∃ i σ' H',Inv X Ab σ' H' s'/\tn i s'.heap/\(∀ b ∈ fp,H' b=none)/\W i n σ' H') ?_ m0 ⟨0,σ,H2,I2,st2,fun b hb=>(f2 b hb).1,w0⟩;rintro n s3 ⟨i,σ3,H3,I3,st3,fr3,w3⟩;rcases turn i n σ3 H3 w3 with ⟨stop,qn⟩ | ⟨go,N,hN,step⟩
 ·refine B63 hp (thn (T.done X rfl rfl rfl hc i Ab s3 σ3 H3 X.xe I3 (stat fr3) st3 stop) fun r s4 ⟨hr,I4⟩=>?_);subst hr;exact C07 ⟨σ3,H3,I4,qn⟩
 ·refine B63 hp (thn (T.item X rfl rfl rfl hc i Ab s3 σ3 H3 X.xe I3 (stat fr3) st3 go) fun r s4 ⟨u,hr,h4⟩=>?_);subst hr;refine B63 hp (thn h4 fun _ s5 ⟨x,H5,I5,r5,y5,st5,fr5⟩=>?_);have I5':=I5.pinned (stat fr5) (T.obj _ _ st5);refine B63 hp (thn (hg _ s5 σ3 H5 x u _ I5' r5 (step x H5 y5)) fun _ s6 ⟨σ6,H6,I6,q6⟩=>?_);refine B63 hp (thn (hb _ s6 σ6 H6 _ I6 q6) fun f s7 q7=>?_);have again:∀ {σ7:St} {H7:Hp},Inv X (Ab++qN8 fp s5.heap) σ7 H7 s7->N σ7 H7->∃ m,m<n/\∃ i σ' H',Inv X Ab σ' H' s7/\tn i s7.heap/\(∀ b ∈ fp,H' b=none)/\W i m σ' H':=fun {σ7 H7} I7 n7=>by
   obtain ⟨m',hm,w7⟩:=hN σ7 H7 n7;refine ⟨m',hm,i+1,σ7,H7,I7.unpinned,T.keep _ _ _ st5 fun b hb o e=>(I7.pin (b,o) (F7 _ (F7 _ (qFS hb e)))).1,fun b hb=>?_,w7⟩;obtain ⟨o,e,d⟩:=T.obj _ _ st5 b hb;exact (I7.pin (b,o) (F7 _ (F7 _ (qFS hb e)))).2.1
  cases f with
  | next=>obtain ⟨σ7,H7,I7,n7⟩:=q7;exact again I7 n7
  | cont=>obtain ⟨σ7,H7,I7,n7⟩:=q7;exact again I7 n7
  | brk=>obtain ⟨σ7,H7,I7,q7⟩:=q7;exact ⟨σ7,H7,I7.unpinned,q7⟩
  | ret v=>obtain ⟨x7,σ7,H7,I7,r7,q7⟩:=q7;exact ⟨x7,σ7,H7,I7.unpinned,r7,q7⟩
end
abbrev ForG (I:It) (g:TG) (tb:TS) (D:Ends) (σ:St) (H:Hp):Prop:=∃ W:Nat->Nat->St->Hp->Prop,(∃ m,W 0 m σ H)/\∀ i m σ H,W i m σ H->(I.stop i H/\D.nx σ H)\/(I.go i H/\∃ N:St->Hp->Prop,(∀ σ' H',N σ' H'->∃ m',m'<m/\W (i+1) m' σ' H')/\∀ x H',I.yld i H x H'->g x σ H' fun σ2 H2=>tb { D with nx:=N,ct:=N,bk:=D.nx } σ2 H2)
theorem qFX {K:Ab1} {a:Addr} {xs:List V} {g:TG} {tb:TS} {D:Ends} {σ:St} {H:Hp} (Pv:Nat->St->Hp->Prop) (h0:Pv 0 σ H) (hl:∀ i σ H,i<=xs.length->Pv i σ H->SqL K H a xs)
  (hs:∀ i x σ H,xs[i]?=some x->Pv i σ H->g x σ H fun σ2 H2=>tb { D with nx:=Pv (i+1),ct:=Pv (i+1),bk:=D.nx } σ2 H2) (hd:∀ σ H,Pv xs.length σ H->D.nx σ H) :
  ForG (Itl K a) g tb D σ H:=by
 refine ⟨fun i m σ H=>m=xs.length - i/\i<=xs.length/\Pv i σ H,⟨xs.length,by simp,E5 _,h0⟩,?_⟩
 rintro i m σ H ⟨rfl,hi,p⟩;have q:=hl i σ H hi p;by_cases hlt:i<xs.length
 ·refine .inr ⟨⟨xs,xs[i],q,by simp [hlt]⟩,Pv (i+1),fun σ' H' p'=>⟨xs.length - (i+1),by lia,rfl,hlt,p'⟩,fun x H' y=>?_⟩
  obtain ⟨e,y⟩:=y;subst e;exact hs i x σ _ (y xs q) p
 ·have e:i=xs.length:=by lia
  subst e;exact .inl ⟨⟨xs,q,A6 _⟩,hd σ H p⟩
theorem qGF {K:Ab1} {a:Addr} {xs:List V} {g:TG} {tb:TS} {D:Ends} {σ:St} {H:Hp} (Pv:Nat->St->Hp->Prop) (h0:Pv 0 σ H) (hl:∀ i σ H,i<=xs.length->Pv i σ H->SqT K H a xs)
  (hs:∀ i x σ H,xs[i]?=some x->Pv i σ H->g x σ H fun σ2 H2=>tb { D with nx:=Pv (i+1),ct:=Pv (i+1),bk:=D.nx } σ2 H2) (hd:∀ σ H,Pv xs.length σ H->D.nx σ H) :
  ForG (Itt K a) g tb D σ H:=by
 refine ⟨fun i m σ H=>m=xs.length - i/\i<=xs.length/\Pv i σ H,⟨xs.length,by simp,E5 _,h0⟩,?_⟩
 rintro i m σ H ⟨rfl,hi,p⟩;have q:=hl i σ H hi p;by_cases hlt:i<xs.length
 ·refine .inr ⟨⟨xs,xs[i],q,by simp [hlt]⟩,Pv (i+1),fun σ' H' p'=>⟨xs.length - (i+1),by lia,rfl,hlt,p'⟩,fun x H' y=>?_⟩
  obtain ⟨e,y⟩:=y;subst e;exact hs i x σ _ (y xs q) p
 ·have e:i=xs.length:=by lia
  subst e;exact .inl ⟨⟨xs,q,A6 _⟩,hd σ H p⟩
theorem qF9 {lo:Int} {n:Nat} {g:TG} {tb:TS} {D:Ends} {σ:St} {H:Hp} (Pv:Nat->St->Hp->Prop) (h0:Pv 0 σ H)
  (hs:∀ i σ H,i<n->Pv i σ H->g (.int (lo+i)) σ H fun σ2 H2=>tb { D with nx:=Pv (i+1),ct:=Pv (i+1),bk:=D.nx } σ2 H2) (hd:∀ σ H,Pv n σ H->D.nx σ H) :
  ForG (Itr lo n) g tb D σ H:=by
 refine ⟨fun i m σ H=>m=n - i/\i<=n/\Pv i σ H,⟨n,by simp,E5 _,h0⟩,?_⟩
 rintro i m σ H ⟨rfl,hi,p⟩;by_cases hlt:i<n
 ·refine .inr ⟨hlt,Pv (i+1),fun σ' H' p'=>⟨n - (i+1),by lia,rfl,hlt,p'⟩,fun x H' y=>?_⟩
  obtain ⟨e,y⟩:=y;subst e y;exact hs i σ _ hlt p
 ·have e:i=n:=by lia
  subst e;exact .inl ⟨A6 _,hd σ H p⟩
abbrev R2:=V->V->Hp->VK->Prop
def OpR (X:Cx) (f:Value->Value->Sem Value) (r:R2):Prop:=
 ∀ (Ab:Aa2) (s:Shared) (σ:St) (H:Hp) (x y:V) (v u:Value) (Q:VK),Inv X Ab σ H s->RelV x v->RelV y u->r x y H Q->
  wpAny (model X.prog X.w) X.A (f v u) (EP X Ab σ Q) X.xe s
def UnR (X:Cx) (f:Value->Sem Value) (r:V->Hp->VK->Prop):Prop:=
 ∀ (Ab:Aa2) (s:Shared) (σ:St) (H:Hp) (x:V) (v:Value) (Q:VK),Inv X Ab σ H s->RelV x v->r x H Q->
  wpAny (model X.prog X.w) X.A (f v) (EP X Ab σ Q) X.xe s
def qCL (X:Cx) (f:Value) (r:List V->Hp->VK->Prop):Prop:=
 ∀ (Ab:Aa2) (s:Shared) (σ:St) (H:Hp) (xs:List V) (us:List Value) (Q:VK),Inv X Ab σ H s->Vals xs us->r xs H Q->
  wpAny (model X.prog X.w) X.A (call f us) (EP X Ab σ Q) X.xe s
def TruR (X:Cx) (r:V->Hp->(Bool->Hp->Prop)->Prop):Prop:=
 ∀ (Ab:Aa2) (s:Shared) (σ:St) (H:Hp) (x:V) (v:Value) (Q:Bool->Hp->Prop),Inv X Ab σ H s->RelV x v->r x H Q->
  wpAny (model X.prog X.w) X.A (truthy v) (TP X Ab σ Q) X.xe s
def tOp (r:R2) (ta tb:TE):TE:=fun σ H Q=>ta σ H fun x H1=>tb σ H1 fun y H2=>r x y H2 Q
def tUn (r:V->Hp->VK->Prop) (ta:TE):TE:=fun σ H Q=>ta σ H fun x H1=>r x H1 Q
def rI (C:Int->Int->Prop) (g:Int->Int->V):R2:=fun x y H Q=>∃ i j,x=.int i/\y=.int j/\C i j/\Q (g i j) H
def rI0 (g:Int->Int->V):R2:=fun x y H Q=>∃ i j,x=.int i/\y=.int j/\Q (g i j) H
def rU (g:Int->V):V->Hp->VK->Prop:=fun x H Q=>∃ i,x=.int i/\Q (g i) H
section
variable {X:Cx} {a b c:Expr} {ta tb tc:TE} {pos:Pos}
theorem binT (ha:PE X a ta) (hb:PE X b tb) {Ab:Aa2} {s:Shared} {σ:St} {H:Hp} {R:V->V->Hp->Prop} (I:Inv X Ab σ H s)
  (h:ta σ H fun x H1=>tb σ H1 fun y H2=>R x y H2) {Q:Aa1} {f:Value->Value->Sem Value}
  (hf:∀ v u s2 x y H2,Inv X Ab σ H2 s2->RelV x v->RelV y u->R x y H2->wpAny (model X.prog X.w) X.A (f v u) Q X.xe s2) :
  wpAny (model X.prog X.w) X.A (eval a X.env) (fun v s₁=>wpAny (model X.prog X.w) X.A (eval b X.env) (fun u s₂=>wpAny (model X.prog X.w) X.A (f v u) Q X.xe s₂) X.xe s₁) X.xe s:=by
 refine thn (ha Ab s σ H _ I h) fun v s1 ⟨x,H1,I1,r1,q1⟩=>?_;refine thn (hb Ab s1 σ H1 _ I1 q1) fun u s2 ⟨y,H2,I2,r2,q2⟩=>?_;exact hf v u s2 x y H2 I2 r1 r2 q2
theorem qAP {op:Operator} {r:R2} (ho:OpR X (B55 op) r) (ha:PE X a ta) (hb:PE X b tb):PE X (.BinOp a op b pos) (tOp r ta tb):=by
 intro Ab s σ H Q I h;exact wpAny_BinOp (binT ha hb I h fun v u s2 x y H2 I2 rx ry q=>ho Ab s2 σ H2 x y v u Q I2 rx ry q)
theorem qX1 {op:UnaryOp} {r:V->Hp->VK->Prop} (ho:UnR X (unaryOp op) r) (ha:PE X a ta):PE X (.UnaryOp op a pos) (tUn r ta):=by
 intro Ab s σ H Q I h;exact UnaryOp_ (thn (ha Ab s σ H _ I h) fun v s1 ⟨x,H1,I1,r1,q1⟩=>ho Ab s1 σ H1 x v Q I1 r1 q1)
theorem opI {f:Value->Value->Sem Value} {C:Int->Int->Prop} {g:Int->Int->Int} 
  (rule:∀ (i j:Int) (t u:Tok) (s:Shared) (Q:Aa1) (E:Aa1),C i j->Q (.int (g i j) s.toks) { s with toks:=s.toks+1 }->wpAny (model X.prog X.w) X.A (f (.int i t) (.int j u)) Q E s) :
  OpR X f (rI C fun i j=>.int (g i j)):=by
 intro Ab s σ H x y v u Q I rx ry h;obtain ⟨i,j,rfl,rfl,hc,q⟩:=h;obtain ⟨t,rfl⟩:=rx;obtain ⟨t',rfl⟩:=ry;exact rule i j t t' s _ _ hc ⟨.int (g i j),H,I.tok _,⟨_,rfl⟩,q⟩
theorem opI0 {f:Value->Value->Sem Value} {g:Int->Int->Int} 
  (rule:∀ (i j:Int) (t u:Tok) (s:Shared) (Q:Aa1) (E:Aa1),Q (.int (g i j) s.toks) { s with toks:=s.toks+1 }->wpAny (model X.prog X.w) X.A (f (.int i t) (.int j u)) Q E s) :
  OpR X f (rI0 fun i j=>.int (g i j)):=by
 intro Ab s σ H x y v u Q I rx ry h;obtain ⟨i,j,rfl,rfl,q⟩:=h;obtain ⟨t,rfl⟩:=rx;obtain ⟨t',rfl⟩:=ry;exact rule i j t t' s _ _ ⟨.int (g i j),H,I.tok _,⟨_,rfl⟩,q⟩
theorem opB0 {f:Value->Value->Sem Value} {g:Int->Int->Bool} 
  (rule:∀ (i j:Int) (t u:Tok) (s:Shared) (Q:Aa1) (E:Aa1),Q (.bool (g i j)) s->wpAny (model X.prog X.w) X.A (f (.int i t) (.int j u)) Q E s) :
  OpR X f (rI0 fun i j=>.bl (g i j)):=by
 intro Ab s σ H x y v u Q I rx ry h;obtain ⟨i,j,rfl,rfl,q⟩:=h;obtain ⟨t,rfl⟩:=rx;obtain ⟨t',rfl⟩:=ry;exact rule i j t t' s _ _ ⟨.bl (g i j),H,I,rfl,q⟩
def CDiv (i j:Int):Prop:=0<j/\j<1073741824
def CPow (i j:Int):Prop:=0<=j/\j<=1000000/\i.natAbs<2 ^ 64
def CMul (i j:Int):Prop:=(-(2 ^ 64)<i/\i<2 ^ 64)\/(-(2 ^ 64)<j/\j<2 ^ 64)
theorem CMul.ok {i j:Int} (h:CMul i j):IntMulOk i j:=by
 rcases h with ⟨h1,h2⟩ | ⟨h1,h2⟩
 ·exact .of_left (intBits_le_64 h1 h2)
 ·exact .of_right (intBits_le_64 h1 h2)
theorem qRI (k:Nat):(0:Int)<=2 ^ k:=by
 rw [two_pow_cast];exact W5 _
theorem qD6:OpR X (B55 .Add) (rI0 fun i j=>.int (i+j)):=opI0 fun _ _ _ _ _ _ _ q=>add_int q
theorem qCY:OpR X (B55 .Sub) (rI0 fun i j=>.int (i - j)):=opI0 fun _ _ _ _ _ _ _ q=>sub_int q
theorem qJD:OpR X (B55 .Mult) (rI CMul fun i j=>.int (i * j)):=opI fun _ _ _ _ _ _ _ hc q=>mul_int q hc.ok
theorem qOT:OpR X (B55 .FloorDiv) (rI CDiv fun i j=>.int (i / j)):=opI fun i j _ _ _ _ _ hc q=>by
 have h1:(0:Int)<j:=hc.1;have h2:j<1073741824:=hc.2;exact floordiv_int (by lia) (by rw [X8 i (by lia)];exact q) (.inl (c6 (by lia)))
theorem qJE:OpR X (B55 .Mod) (rI (fun _ j=>0<j) fun i j=>.int (i % j)):=opI fun i j _ _ _ _ _ hc q=>by
 have h1:(0:Int)<j:=hc;exact mod_int' (by lia) (by rw [o6 i (by lia)];exact q)
theorem qc0:OpR X (B55 .Pow) (rI CPow fun i j=>.int (i ^ j.toNat)):=opI fun _ _ _ _ _ _ _ hc q=>pow_int_small hc.1 hc.2.1 hc.2.2 q
theorem qQO:OpR X (B55 .LShift) (rI CPow fun i j=>.int (i * 2 ^ j.toNat)):=opI fun _ _ _ _ _ _ _ hc q=>lshift_int_small hc.1 hc.2.1 hc.2.2 q
theorem qYR:OpR X (B55 .RShift) (rI (fun _ j=>0<=j) fun i j=>.int (i / 2 ^ j.toNat)):=opI fun i j _ _ _ _ _ hc q=>
 rshift_int hc (by rw [X8 i (qRI _)];exact q)
theorem qQP:OpR X (B55 .BitAnd) (rI0 fun i j=>.int (T9 i j)):=opI0 fun _ _ _ _ _ _ _ q=>and_int q
theorem qdL:OpR X (B55 .BitOr) (rI0 fun i j=>.int (A47 i j)):=opI0 fun _ _ _ _ _ _ _ q=>or_int q
theorem unI {f:Value->Sem Value} {g:Int->Int} 
  (rule:∀ (i:Int) (t:Tok) (s:Shared) (Q:Aa1) (E:Aa1),Q (.int (g i) s.toks) { s with toks:=s.toks+1 }->wpAny (model X.prog X.w) X.A (f (.int i t)) Q E s) :
  UnR X f (rU fun i=>.int (g i)):=by
 intro Ab s σ H x v Q I rx h;obtain ⟨i,rfl,q⟩:=h;obtain ⟨t,rfl⟩:=rx;exact rule i t s _ _ ⟨.int (g i),H,I.tok _,⟨_,rfl⟩,q⟩
theorem qPU:UnR X (unaryOp .USub) (rU fun i=>.int (-i)):=unI fun _ _ _ _ _ q=>neg_int q
end
def scal:V->V->Bool
 | .non,.non=>true | .non,.int _=>true | .int _,.non=>true | .non,.bl _=>true | .bl _,.non=>true | .non,.str _=>true | .str _,.non=>true
 | .int _,.int _=>true | .bl _,.bl _=>true | .str _,.str _=>true | .byt _,.byt _=>true
 | .int _,.str _=>true | .str _,.int _=>true | .bl _,.str _=>true | .str _,.bl _=>true
 | _,_=>false
def rEq:R2:=fun x y H Q=>scal x y=true/\Q (.bl (decide (x=y))) H
def rNe:R2:=fun x y H Q=>scal x y=true/\Q (.bl (!decide (x=y))) H
theorem qVF {i j:Int} :decide (V.int i=V.int j)=(i == j):=by
 rw [J4];simp
theorem qZ2 {i j:Bool} :decide (V.bl i=V.bl j)=(i == j):=by
 rw [J4];simp
theorem qVE {i j:Str} :decide (V.str i=V.str j)=(i == j):=by
 rw [J4];simp
theorem qVG {i j:Array UInt8} :decide (V.byt i=V.byt j)=(i.toList == j.toList):=by
 rw [J4];cases i;cases j;simp
section
variable {X:Cx} {a b c:Expr} {ta tb tc:TE} {pos:Pos}
theorem qB9 {Ab:Aa2} {σ:St} {H:Hp} {Q:VK} {k k':Bool} (I:Inv X Ab σ H s) (q:Q (.bl k) H) (e:k=k'):EP X Ab σ Q (.bool k') s:=by
 subst e;exact ⟨.bl k,H,I,rfl,q⟩
theorem qGA:OpR X (B46 .Eq) rEq:=by
 intro Ab s σ H x y v u Q I rx ry h;obtain ⟨hs,q⟩:=h;cases x with
 | non=>
  cases rx;cases y with
  | non=>cases ry;exact PySem.EqNone.eq_none_none (qB9 I q (by simp))
  | bl j=>cases ry;exact PySem.EqNone.eq_none_bool (qB9 I q (by simp))
  | int j=>obtain ⟨t',rfl⟩:=ry;exact PySem.EqNone.eq_none_int (qB9 I q (by simp))
  | str j=>obtain ⟨t',rfl⟩:=ry;exact PySem.EqNone.eq_none_str (qB9 I q (by simp))
  | _=>exact absurd (show false=true from hs) B4
 | bl i=>
  cases rx;cases y with
  | non=>cases ry;exact PySem.EqNone.eq_bool_none (qB9 I q (by simp))
  | bl j=>cases ry;exact eq_bool (qB9 I q qZ2)
  | str j=>obtain ⟨t',rfl⟩:=ry;exact PySem.EqMixed.eq_bool_str (qB9 I q (by simp))
  | _=>exact absurd (show false=true from hs) B4
 | int i=>
  obtain ⟨t,rfl⟩:=rx;cases y with
  | non=>cases ry;exact PySem.EqNone.eq_int_none (qB9 I q (by simp))
  | int j=>obtain ⟨t',rfl⟩:=ry;exact eq_int (qB9 I q qVF)
  | str j=>obtain ⟨t',rfl⟩:=ry;exact PySem.EqMixed.eq_int_str (qB9 I q (by simp))
  | _=>exact absurd (show false=true from hs) B4
 | str i=>
  obtain ⟨t,rfl⟩:=rx;cases y with
  | non=>cases ry;exact PySem.EqNone.eq_str_none (qB9 I q (by simp))
  | bl j=>cases ry;exact PySem.EqMixed.eq_str_bool (qB9 I q (by simp))
  | int j=>obtain ⟨t',rfl⟩:=ry;exact PySem.EqMixed.eq_str_int (qB9 I q (by simp))
  | str j=>obtain ⟨t',rfl⟩:=ry;exact eq_str (qB9 I q qVE)
  | _=>exact absurd (show false=true from hs) B4
 | byt i=>
  obtain ⟨t,rfl⟩:=rx;cases y with
  | byt j=>obtain ⟨t',rfl⟩:=ry;exact PySem.W.eq_bytes (qB9 I q qVG)
  | _=>exact absurd (show false=true from hs) B4
 | _=>cases y <;> exact absurd (show false=true from hs) B4
theorem qRX:OpR X (B46 .NotEq) rNe:=by
 intro Ab s σ H x y v u Q I rx ry h;obtain ⟨hs,q⟩:=h;cases x with
 | non=>
  cases rx;cases y with
  | non=>cases ry;exact PySem.EqNone.ne_none_none (qB9 I q (by simp))
  | bl j=>cases ry;exact PySem.EqNone.ne_none_bool (qB9 I q (by simp))
  | int j=>obtain ⟨t',rfl⟩:=ry;exact PySem.EqNone.ne_none_int (qB9 I q (by simp))
  | str j=>obtain ⟨t',rfl⟩:=ry;exact PySem.EqNone.ne_none_str (qB9 I q (by simp))
  | _=>exact absurd (show false=true from hs) B4
 | bl i=>
  cases rx;cases y with
  | non=>cases ry;exact PySem.EqNone.ne_bool_none (qB9 I q (by simp))
  | bl j=>cases ry;exact ne_bool (qB9 I q (congrArg not qZ2))
  | str j=>obtain ⟨t',rfl⟩:=ry;exact PySem.EqMixed.ne_bool_str (qB9 I q (by simp))
  | _=>exact absurd (show false=true from hs) B4
 | int i=>
  obtain ⟨t,rfl⟩:=rx;cases y with
  | non=>cases ry;exact PySem.EqNone.ne_int_none (qB9 I q (by simp))
  | int j=>obtain ⟨t',rfl⟩:=ry;exact ne_int (qB9 I q (congrArg not qVF))
  | str j=>obtain ⟨t',rfl⟩:=ry;exact PySem.EqMixed.ne_int_str (qB9 I q (by simp))
  | _=>exact absurd (show false=true from hs) B4
 | str i=>
  obtain ⟨t,rfl⟩:=rx;cases y with
  | non=>cases ry;exact PySem.EqNone.ne_str_none (qB9 I q (by simp))
  | bl j=>cases ry;exact PySem.EqMixed.ne_str_bool (qB9 I q (by simp))
  | int j=>obtain ⟨t',rfl⟩:=ry;exact PySem.EqMixed.ne_str_int (qB9 I q (by simp))
  | str j=>obtain ⟨t',rfl⟩:=ry;exact ne_str (qB9 I q (congrArg not qVE))
  | _=>exact absurd (show false=true from hs) B4
 | byt i=>
  obtain ⟨t,rfl⟩:=rx;cases y with
  | byt j=>obtain ⟨t',rfl⟩:=ry;exact PySem.W.ne_bytes (qB9 I q (congrArg not qVG))
  | _=>exact absurd (show false=true from hs) B4
 | _=>cases y <;> exact absurd (show false=true from hs) B4
theorem qLZ:OpR X (B46 .Lt) (rI0 fun i j=>.bl (decide (i<j))):=opB0 fun _ _ _ _ _ _ _ q=>lt_int q
theorem qa2:OpR X (B46 .LtE) (rI0 fun i j=>.bl (decide (i<=j))):=opB0 fun _ _ _ _ _ _ _ q=>le_int q
theorem qTX:OpR X (B46 .Gt) (rI0 fun i j=>.bl (decide (j<i))):=opB0 fun _ _ _ _ _ _ _ q=>gt_int q
theorem qTY:OpR X (B46 .GtE) (rI0 fun i j=>.bl (decide (j<=i))):=opB0 fun _ _ _ _ _ _ _ q=>ge_int q
theorem qAS (b:Expr) {op:CmpOp} (h:op ≠ .In:=by decide) (h2:op ≠ .NotIn:=by decide):B67 op b=false:=by
 have e1:(op == CmpOp.In)=false:=by cases op <;> first | rfl | exact absurd rfl h
 have e2:(op == CmpOp.NotIn)=false:=by cases op <;> first | rfl | exact absurd rfl h2
 cases b <;> simp [B67,e1,e2]
theorem qCC {op:CmpOp} {r:R2} (ho:OpR X (B46 op) r) (ha:PE X a ta) (hb:PE X b tb) (hm:B67 op b=false):PE X (.Compare a [op] [b] pos) (tOp r ta tb):=by
 intro Ab s σ H Q I h;exact wpAny_Compare1 (binT ha hb I h fun v u s2 x y H2 I2 rx ry q=>ho Ab s2 σ H2 x y v u Q I2 rx ry q) hm
def qbA (t:TE):TT:=fun σ H Q=>t σ H fun x H'=>∃ k,x=.bl k/\Q k H'
theorem qAN {op:CmpOp} {r:R2} (ho:OpR X (B46 op) r) (ha:PE X a ta) (hb:PE X b tb) (hm:B67 op b=false):PT X (.Compare a [op] [b] pos) (qbA (tOp r ta tb)):=by
 intro Ab s σ H Q I h;refine wpAny_isTrue_Compare1 (thn (ha Ab s σ H _ I h) fun v s1 ⟨x,H1,I1,r1,q1⟩=>thn (hb Ab s1 σ H1 _ I1 q1) fun u s2 ⟨y,H2,I2,r2,q2⟩=>
  thn (ho Ab s2 σ H2 x y v u _ I2 r1 r2 q2) fun c s3 ⟨z,H3,I3,r3,k,e,q3⟩=>?_) hm
 subst e;cases r3;exact B41 ⟨H3,I3,q3⟩
def qYB (r r':R2) (ta tb tc:TE):TE:=fun σ H Q=>ta σ H fun x H1=>tb σ H1 fun y H2=>r x y H2 fun z H3=>∃ k,z=.bl k/\
 (if k=true then tc σ H3 fun w' H4=>r' y w' H4 Q else Q (.bl false) H3)
theorem qX4 {op op':CmpOp} {r r':R2} (ho:OpR X (B46 op) r) (ho':OpR X (B46 op') r') (ha:PE X a ta) (hb:PE X b tb) (hc:PE X c tc)
  (hm:lastMarks [op,op'] [b,c]=false:=by with_unfolding_all rfl):PE X (.Compare a [op,op'] [b,c] pos) (qYB r r' ta tb tc):=by
 intro Ab s σ H Q I h;refine Compare_chain (thn (ha Ab s σ H _ I h) fun v s1 ⟨x,H1,I1,r1,q1⟩=>chain_link (thn (hb Ab s1 σ H1 _ I1 q1) fun u s2 ⟨y,H2,I2,r2,q2⟩=>
  thn (ho Ab s2 σ H2 x y v u _ I2 r1 r2 q2) fun d s3 ⟨z,H3,I3,r3,k,e,q3⟩=>?_)) hm
 subst e;cases r3;refine B41 ?_;cases k with
 | false=>exact ite_ff ⟨.bl false,H3,I3,rfl,q3⟩
 | true=>exact ite_tt (chain_last (thn (hc Ab s3 σ H3 _ I3 q3) fun w' s4 ⟨z',H4,I4,r4,q4⟩=>ho' Ab s4 σ H4 y z' u w' Q I4 r2 r4 q4))
theorem qWV {op op':CmpOp} {r r':R2} (ho:OpR X (B46 op) r) (ho':OpR X (B46 op') r') (ha:PE X a ta) (hb:PE X b tb) (hc:PE X c tc)
  (hm:lastMarks [op,op'] [b,c]=false:=by with_unfolding_all rfl):PT X (.Compare a [op,op'] [b,c] pos) (qbA (qYB r r' ta tb tc)):=by
 intro Ab s σ H Q I h;refine isTrue_chain (thn (ha Ab s σ H _ I h) fun v s1 ⟨x,H1,I1,r1,q1⟩=>test_link (thn (hb Ab s1 σ H1 _ I1 q1) fun u s2 ⟨y,H2,I2,r2,q2⟩=>
  thn (ho Ab s2 σ H2 x y v u _ I2 r1 r2 q2) fun d s3 ⟨z,H3,I3,r3,k,e,q3⟩=>?_)) hm
 subst e;cases r3;refine B41 ?_;cases k with
 | false=>
  obtain ⟨k',e',q'⟩:=q3;cases e';exact ite_ff ⟨H3,I3,q'⟩
 | true=>
  refine ite_tt (test_last (thn (hc Ab s3 σ H3 _ I3 q3) fun w' s4 ⟨z',H4,I4,r4,q4⟩=>thn (ho' Ab s4 σ H4 y z' u w' _ I4 r2 r4 q4) fun d' s5 ⟨z2,H5,I5,r5,k2,e2,q5⟩=>?_));subst e2;cases r5;exact B41 ⟨H5,I5,q5⟩
def TruV (K:Ab1) (x:V) (H:Hp) (k:Bool):Prop:=
 match x with
 | .non=>k=false
 | .bl b=>k=b
 | .int i=>k=(i != 0)
 | .str y=>y.length<=B28/\k=((y.length:Int) != 0)
 | .byt y=>y.size<=B28/\k=((y.size:Int) != 0)
 | .ref p=>(∃ xs,SqL K H p xs/\k=!xs.isEmpty)\/(∃ xs,SqT K H p xs/\k=!xs.isEmpty)\/∃ Af,H p=some (.dK Af)/\k=!Af.isEmpty
 | _=>False
theorem qS9 {κ:Type} {Af:List (κ × V)} {vs:List (κ × Value)} (r:KV Af vs):(!vs.isEmpty)=!Af.isEmpty:=by
 cases r <;> rfl
theorem qL3 {xs:List V} {its:List Value} (r:Vals xs its):(!its.toArray.isEmpty)=!xs.isEmpty:=by
 cases r <;> simp
theorem qNF:(B28:Nat)<2 ^ 63:=by rw [B39];decide
theorem qb8:TruR X (fun x H Q=>∃ k,TruV X.K x H k/\Q k H):=by
 intro Ab s σ H x v Q I rx h;obtain ⟨k,e,q⟩:=h;have hl:=qNF;have hs:B28=16777216:=B39;cases x with
 | non=>
  cases rx;have e':k=false:=e;subst e';exact truthy_none ⟨H,I,q⟩
 | bl b=>
  cases rx;have e':k=b:=e;subst e';exact B41 ⟨H,I,q⟩
 | int i=>
  obtain ⟨t,rfl⟩:=rx;have e':k=(i != 0):=e;subst e';exact PySem.P.truthy_int ⟨H,I,q⟩
 | str y=>
  obtain ⟨t,rfl⟩:=rx;obtain ⟨hy,e'⟩:y.length<=B28/\k=((y.length:Int) != 0):=e;subst e';exact PySem.P.truthy_str (by lia) ⟨H,I.tok _,q⟩
 | byt y=>
  obtain ⟨t,rfl⟩:=rx;obtain ⟨hy,e'⟩:y.size<=B28/\k=((y.size:Int) != 0):=e;subst e';exact PySem.W.truthy_bytes (by lia) ⟨H,I.tok _,q⟩
 | ref p=>
  cases rx;have e':(∃ xs,SqL X.K H p xs/\k=!xs.isEmpty)\/(∃ xs,SqT X.K H p xs/\k=!xs.isEmpty)\/∃ Af,H p=some (.dK Af)/\k=!Af.isEmpty:=e;rcases e' with ⟨xs,hx,e'⟩ | ⟨xs,hx,e'⟩ | ⟨Af,hx,e'⟩
  ·subst e';obtain ⟨its,r,pl,hz⟩:=I.list hx;have hlen:=r.length;exact wpAny_truthy_list pl.isList (by simp only [C0];lia) ⟨H,I.tok _,by rw [qL3 r];exact q⟩
  ·subst e';obtain ⟨its,r,pl,hz⟩:=I.tuple hx;have hlen:=r.length;exact truthy_tuple pl (by simp only [C0];lia) ⟨H,I.tok _,by rw [qL3 r];exact q⟩
  ·subst e';obtain ⟨hz,hS,vs,r,m⟩:Af.length<=B28/\(p == B52)=false/\∃ vs,KV Af vs/\s.heap.DictOf (qB0 X.prog X.w) p vs:=I.hok p _ hx;have hlen:Af.length=vs.length:=B7 r;exact wpAny_truthy_dict hS m (by lia) ⟨H,I.tok _,by rw [qS9 r];exact q⟩
 | _=>exact (show False from e).elim
theorem qWU (ha:PE X a ta) (he:∀ whole,isTrue a X.env whole=(do let v <- whole;standAt a.pos;B71 [v] (truthy v))) :
  PT X a (fun σ H Q=>ta σ H fun x H'=>∃ k,TruV X.K x H' k/\Q k H'):=by
 intro Ab s σ H Q I h;exact isTrue_plain (thn (ha Ab s σ H _ I h) fun v s1 ⟨x,H1,I1,r1,q1⟩=>qb8 Ab s1 σ H1 x v Q I1 r1 q1) (he _)
theorem qDS {x:V} {us:List Value} (r:Vals [x] us):∃ u,us=[u]/\RelV x u:=by
 cases r with
 | cons r1 r2=>cases r2;exact ⟨_,rfl,r1⟩
theorem qKC {x y:V} {us:List Value} (r:Vals [x,y] us):∃ u w',us=[u,w']/\RelV x u/\RelV y w':=by
 cases r with
 | cons r1 r2=>
  cases r2 with
  | cons r3 r4=>cases r4;exact ⟨_,_,rfl,r1,r3⟩
theorem qVR (hc:X.calm=true):qCL X (.builtin "max") (fun xs H Q=>∃ i j,xs=[.int i,.int j]/\Q (.int (if j > i then j else i)) H):=by
 intro Ab s σ H xs us Q I r h;obtain ⟨i,j,rfl,q⟩:=h;obtain ⟨u,w',rfl,⟨t,rfl⟩,⟨t',rfl⟩⟩:=qKC r;refine max_two_ints (I.ok.hd hc) fun h' tk k=>⟨_,H,I.kept k,?_,q⟩;by_cases hj:j > i
 ·rw [if_pos hj,if_pos hj];exact ⟨_,rfl⟩
 ·rw [if_neg hj,if_neg hj];exact ⟨_,rfl⟩
theorem qK4 (hc:X.calm=true):qCL X (.builtin "min") (fun xs H Q=>∃ i j,xs=[.int i,.int j]/\Q (.int (if j<i then j else i)) H):=by
 intro Ab s σ H xs us Q I r h;obtain ⟨i,j,rfl,q⟩:=h;obtain ⟨u,w',rfl,⟨t,rfl⟩,⟨t',rfl⟩⟩:=qKC r;refine min_two_ints (I.ok.hd hc) fun h' tk k=>⟨_,H,I.kept k,?_,q⟩;by_cases hj:j<i
 ·rw [if_pos hj,if_pos hj];exact ⟨_,rfl⟩
 ·rw [if_neg hj,if_neg hj];exact ⟨_,rfl⟩
theorem qHG:qCL X (.type "int") (fun xs H Q=>(∃ i,xs=[.int i]/\Q (.int i) H)\/∃ k,xs=[.bl k]/\Q (.int (if k then 1 else 0)) H):=by
 intro Ab s σ H xs us Q I r h;rcases h with ⟨i,rfl,q⟩ | ⟨k,rfl,q⟩
 ·obtain ⟨u,rfl,t,rfl⟩:=qDS r;exact call_int_int ⟨.int i,H,I,⟨_,rfl⟩,q⟩
 ·obtain ⟨u,rfl,r1⟩:=qDS r;cases r1;exact call_int_bool ⟨.int (if k then 1 else 0),H,I.tok _,⟨_,rfl⟩,q⟩
theorem qPL:qCL X (.builtin "divmod") (fun xs H Q=>∃ i j,xs=[.int i,.int j]/\CDiv i j/\∀ p,H p=none->Q (.ref p) (Ag H p (.tup [.int (i / j),.int (i % j)]))):=by
 intro Ab s σ H xs us Q I r h;obtain ⟨i,j,rfl,⟨h1,h2⟩,q⟩:=h;obtain ⟨u,w',rfl,⟨t,rfl⟩,⟨t',rfl⟩⟩:=qKC r;refine divmod_int (by lia) ?_ (.inl (c6 (by lia)))
 rw [X8 i (by lia),o6 i (by lia)]
 have hn:H s.heap.objs.size=none:=I.hok.fresh (A6 _);refine ⟨.ref s.heap.objs.size,_,?_,rfl,q _ hn⟩;refine I.laid (fun b o e=>A3 _ e) (A6 _) ⟨by simp only [E2,L5];rw [B39];decide,[.int (i / j) s.toks,.int (i % j) (s.toks+1)],.cons ⟨_,rfl⟩ (.cons ⟨_,rfl⟩ .nil),?_⟩
 exact ⟨_,A8 s.heap rfl,rfl,0,rfl⟩
end
structure ObjM (h:Heap) (x dx C:Addr) (mA:Ab0):Prop where
 obj:h.get? x=some (A12 C dx)
 ns:h.Ns1 dx mA
 ne:dx ≠ x
theorem qU7 {h:Heap} {dx:Addr} {mA:Ab0} (n:h.Ns1 dx mA):∃ od,h.get? dx=some od/\∀ name,A36 name od=some (mA name):=by
 obtain ⟨o,es,ep,ho,hd,hk,_,hm⟩:=n;refine ⟨o,ho,fun name=>?_⟩;have e:=hm name;unfold nsFind findBy at e;rw [<- Array.find?_toList] at e;unfold A36;rw [hd];dsimp only
 split
 ·rename_i y q
  rw [q] at e;exact congrArg some e
 ·rename_i q
  rw [q] at e;have a:es.toList.any (·.refKey)=false:=by
   rw [A61];intro y hy;obtain ⟨z,t,hkey⟩:=hk y (Array.mem_toList_iff.mp hy);simp [DictEntry.refKey,hkey]
  have a':¬ es.toList.any (·.refKey)=true:=by rw [a];exact B4
  rw [if_neg a'];exact congrArg some e
theorem ObjM.look {h:Heap} {x dx C:Addr} {mA:Ab0} (I:ObjM h x dx C mA):∃ od,PySem.W.InstAt h x (A12 C dx) C (some od)/\∀ name,A36 name od=some (mA name):=
 let ⟨od,ho,hl⟩:=qU7 I.ns
 ⟨od,⟨I.obj,rfl,rfl,ho⟩,hl⟩
section
variable {prog:B30} {w:World} {A:Around} {E:Aa1} {s:Shared} {K:Ab1} {x dx C f:Addr} {mA:Ab0} {name:Str} {v:Value}
end
def putF (f:Str) (v:V):List (Str × V)->List (Str × V)
 | []=>[(f,v)]
 | (g,x)::r=>if g=f then (g,v)::r else (g,x)::putF f v r
theorem RelO.some_of {v:V} {o:Option Value} (r:RelO (some v) o):∃ u,o=some u/\RelV v u:=by
 cases o with
 | none=>exact (show False from r).elim
 | some u=>exact ⟨u,rfl,r⟩
section
variable {P:B30} {w:World} {H H':Hp} {h h':Heap} {a C dx:Addr} {fs fs':List (Str × V)}
theorem qaE (hok:HOk P w H h) (e:H a=some (.ins C dx fs)):∃ mA,ObjM h a dx C mA/\(∀ f,RelO (fs.lookup f) (mA f))/\PySem.Within mA (fs.map (·.1))/\fs.length<=1000/\H dx=some (.own a):=by
 obtain ⟨d,z,ne,ob,mA,n,r,q⟩:=(show ObjOk P w H h a (.ins C dx fs) from hok a _ e);exact ⟨mA,⟨ob,n,ne⟩,r,q,z,d⟩
end
structure Cls (K:Ab1) (C:Addr):Prop where
 pg:A77 K C P2=true
 hd:A62 K C=true
 po:PySem.W.plainOver K C=true
 sa:O5 K (.ref C) "__setattr__" = some (some (.builtin "object.__setattr__"))
theorem Cls.get {K:Ab1} {C:Addr} (c:Cls K C) (f:Str):A77 K C f=true:=c.pg
def qRD (K:Ab1) (C:Addr) (f:Str):Prop:=O5 K (.ref C) f=some none
structure Con (K:Ab1) (C:Addr) (f:Str) (v:V) (u:Value):Prop where
 at_:O5 K (.ref C) f=some (some u)
 rel:RelV v u
 get:w5 K u "__get__" = some none
 cp:PySem.W.copiedNames.contains f=false
structure Meth (K:Ab1) (C:Addr) (m:Str) (f:Addr):Prop where
 at_:O5 K (.ref C) m=some (some (.ref f))
 fn:B18 K (.ref f)=true
 kp:N9 K (.ref f)=true
section
variable {X:Cx} {Ab:Aa2} {σ:St} {H:Hp} {s:Shared} {a C dx:Addr} {fs:List (Str × V)} {f:Str} {v:V} {A:Around} {E:Aa1}
end
section
variable {X:Cx} {o e value:Expr} {f:Str} {pos pos' tpos:Pos} {ta tv:TE}
end
section
variable {X:Cx} {Ab:Aa2} {σ:St} {H:Hp} {s:Shared} {A:Around} {E:Aa1} {Q:Aa1} {c:Value} {b:Bool}
inductive TyOf (K:Ab1) (H:Hp):V->Value->Prop where
 | non:TyOf K H .non (.type "NoneType")
 | bl (x:Bool):TyOf K H (.bl x) (.type "bool")
 | int (i:Int):TyOf K H (.int i) (.type "int")
 | str (x:Str):TyOf K H (.str x) (.type "str")
 | flt (x:UInt64):TyOf K H (.flt x) (.type "float")
 | lst {a:Addr} {xs:List V} (e:H a=some (.lst xs)):TyOf K H (.ref a) (.type "list")
 | frz {a:Addr} {o:Obj} {xs:List V} (e:H a=some (.frz o (.lst xs))):TyOf K H (.ref a) (.type "list")
 | tup {a:Addr} {xs:List V} (e:H a=some (.tup xs)):TyOf K H (.ref a) (.type "tuple")
 | dK {a:Addr} {Af:List (Key × V)} (e:H a=some (.dK Af)):TyOf K H (.ref a) (.type "dict")
 | dT {a:Addr} {Af:List (List Key × V)} (e:H a=some (.dT Af)):TyOf K H (.ref a) (.type "dict")
 | ins {a C dx:Addr} {fs:List (Str × V)} (e:H a=some (.ins C dx fs)) (cl:Cls K C) (ha:O5 K (.ref C) "__class__" = some (some (.builtin "object.__class__")))
   (hn:w5 K (.builtin "object.__class__") "__get__" = some (some (.builtin "getset_descriptor.__get__"))) (htk:A88 K (.builtin "object.__class__")=some true)
   (hm:A48 K C (.type "object")=some true):TyOf K H (.ref a) (.ref C)
theorem qUK {x:V} {u t:Value} (I:Inv X Ab σ H s) (rx:RelV x u) (ty:TyOf X.K H x t) (e:J8 X.K t c=some b) (h:∀ tk,Q (.bool b) { s with toks:=tk }) :
  wpAny (model X.prog X.w) A (call (.builtin "isinstance") [u,c]) Q E s:=by
 cases ty with
 | non=>cases (show u=L0 from rx);exact J5 PySem.W.kitx_none I.kIn U7 e (fun z=>nomatch z) h
 | bl y=>cases (show u=Q3 y from rx);exact J5 PySem.W.kitx_bool I.kIn U7 e (fun z=>nomatch z) h
 | int i=>obtain ⟨t,q⟩:=(show ∃ t,u=Q6 i t from rx);cases q;exact J5 PySem.W.kitx_int I.kIn U7 e (fun z=>nomatch z) h
 | str y=>obtain ⟨t,q⟩:=(show ∃ t,u=A87 y t from rx);cases q;exact J5 PySem.W.kitx_str I.kIn U7 e (fun z=>nomatch z) h
 | flt y=>obtain ⟨t,q⟩:=(show ∃ t,u=Value.float y t from rx);cases q;exact J5 PySem.W.kitx_float I.kIn U7 e (fun z=>nomatch z) h
 | @lst a xs ea=>
  cases (show u=C7 a from rx);obtain ⟨_,_,n,_,h1⟩:=(show ObjOk X.prog X.w H s.heap a (.lst xs) from I.hok a _ ea);exact J5 A63 I.kIn ⟨_,h1,rfl⟩ e (fun z=>nomatch z) h
 | @frz a ob xs ea=>
  cases (show u=C7 a from rx);obtain ⟨_,_,_,n,_,h1⟩:=(show ObjOk X.prog X.w H s.heap a (.frz ob (.lst xs)) from I.hok a _ ea);exact J5 A63 I.kIn ⟨_,h1,rfl⟩ e (fun z=>nomatch z) h
 | @tup a xs ea=>
  cases (show u=C7 a from rx);obtain ⟨_,_,_,p⟩:=(show ObjOk X.prog X.w H s.heap a (.tup xs) from I.hok a _ ea);obtain ⟨o,h1,h2,_⟩:=p;exact J5 A49 I.kIn ⟨o,h1,h2⟩ e (fun z=>nomatch z) h
 | @dK a Af ea=>
  cases (show u=C7 a from rx);obtain ⟨_,_,vs,_,p⟩:=(show ObjOk X.prog X.w H s.heap a (.dK Af) from I.hok a _ ea);obtain ⟨o,es,ep,h1,h2,_⟩:=p;exact J5 A64 I.kIn ⟨o,h1,h2.1⟩ e (fun z=>nomatch z) h
 | @dT a Af ea=>
  cases (show u=C7 a from rx);obtain ⟨_,_,xs,_,o,es,ep,h1,h2,_⟩:=(show ObjOk X.prog X.w H s.heap a (.dT Af) from I.hok a _ ea);exact J5 A64 I.kIn ⟨o,h1,h2.1⟩ e (fun z=>nomatch z) h
 | @ins a C dx fs ea cl ha hn htk hm=>
  cases (show u=C7 a from rx);obtain ⟨mA,O,_⟩:=qaE I.hok ea;obtain ⟨od,J,_⟩:=O.look;exact J5 (PySem.W.kitx_own (cl.get _) cl.hd ha hn htk hm) I.kIn J e (fun z=>nomatch z) h
end
structure Room (k:Nat) (A:Around):Prop where
 hd:A.handled=none
 dp:A.depth+3 * k+5<recursionLimit
 un:A.units+16 * k+200<cLine
 gd:A.guards=some []
theorem Room.mono {j k:Nat} (r:Room k A) (h:j<=k):Room j A:=⟨r.hd,by have:=r.dp;lia,by have:=r.un;lia,r.gd⟩
theorem Room.deeper {k:Nat} (r:Room (k+1) A) (env:Env):Room k (A.deeper env):=
 ⟨r.hd,by have:=r.dp;show A.depth+1+3 * k+5<_;lia,by have:=r.un;show A.units+3+16 * k+200<_;lia,r.gd⟩
theorem Room.in1 {k:Nat} (r:Room (k+1) A):Room k A.in1:=
 ⟨r.hd,by have:=r.dp;show A.depth+3 * k+5<_;lia,by have:=r.un;show A.units+1+16 * k+200<_;lia,r.gd⟩
theorem Room.depth {k:Nat} (r:Room k A):A.depth<recursionLimit:=by have:=r.dp;lia
theorem Room.units {k:Nat} (r:Room k A):A.units+64<cLine:=by have:=r.un;lia
theorem Room.units0 {k:Nat} (r:Room k A):A.units<cLine:=by have:=r.un;lia
def tNil:TA:=fun _ H Q=>Q [] H
def qMU (ta:TE) (tr:TA):TA:=fun σ H Q=>ta σ H fun x H1=>tr σ H1 fun xs H2=>Q (x::xs) H2
section
variable {X:Cx} {e:Expr} {es:List Expr} {te:TE} {t:TA} {pos:Pos}
theorem qA3:PA X [] tNil:=fun _ _ _ _ H Q I h=>Calls.spliced_nil ⟨[],H,I,.nil,h⟩
theorem qA0 (ha:PE X e te) (hr:PA X es t) (hs:B35 (e::es) X.env=(false,eval e X.env)::B35 es X.env:=by rfl):PA X (e::es) (qMU te t):=by
 intro pos Ab s σ H Q I h;rw [hs];show wpAny _ _ (spliced ((false,eval e X.env)::backTo pos (B35 es X.env))) _ _ s;refine Calls.spliced_cons (thn (ha Ab s σ H _ I h) fun u s1 ⟨x,H1,I1,r1,q1⟩=>?_);exact thn (hr pos Ab s1 σ H1 _ I1 q1) fun us s2 ⟨xs,H2,I2,r2,q2⟩=>⟨x::xs,H2,I2,.cons r1 r2,q2⟩
def tTup (t:TA):TE:=fun σ H Q=>t σ H fun xs H1=>xs.length<=B28/\∀ p,H1 p=none->Q (.ref p) (Ag H1 p (.tup xs))
def tLst (t:TA):TE:=fun σ H Q=>t σ H fun xs H1=>xs.length<=B28/\∀ p,H1 p=none->Q (.ref p) (Ag H1 p (.lst xs))
theorem qCH (h:PA X es t):PE X (.Tuple es x1 pos) (tTup t):=by
 intro Ab s σ H Q I hq;refine wpAny_Tuple_spliced (thn (h pos Ab s σ H _ I hq) fun us s1 ⟨xs,H1,I1,r,z,q⟩=>⟨by rw [<- r.length];exact z,?_⟩)
 have hf:H1 s1.heap.objs.size=none:=I1.hok.fresh (A6 _);refine ⟨.ref s1.heap.objs.size,Ag H1 s1.heap.objs.size (.tup xs),I1.laid (t':=s1.toks) (fun b u e=>A3 _ e) (A6 _) ?_,rfl,q _ hf⟩;exact ⟨z,us,r,⟨_,A8 _ rfl,rfl,_,rfl⟩⟩
theorem qBV (h:PA X es t):PE X (.List es pos) (tLst t):=by
 intro Ab s σ H Q I hq;refine wpAny_List_spliced (thn (h pos Ab s σ H _ I hq) fun us s1 ⟨xs,H1,I1,r,z,q⟩=>⟨by rw [<- r.length];exact z,?_⟩)
 have hf:H1 s1.heap.objs.size=none:=I1.hok.fresh (A6 _);refine ⟨.ref s1.heap.objs.size,Ag H1 s1.heap.objs.size (.lst xs),I1.laid (t':=s1.toks) (fun b u e=>A3 _ e) (A6 _) ?_,rfl,q _ hf⟩;exact ⟨z,us,0,r,A8 _ rfl⟩
end
abbrev Sp:=List V->Hp->VK->XK->Prop
abbrev CXT:=List Env->Hp->Shared->XK->Aa1
structure Env0 (P:B30) (w:World) (K:Ab1) (mg:Ab0) (base:Heap) (A:Around) (outer:List Env) (s:Shared) (H:Hp):Prop where
 frames:A.frames=some outer
 mod:Mod K mg base
 bs:∀ b o,base.get? b=some o->s.heap.get? b=some o/\H b=none
 bsz:base.objs.size<=s.heap.objs.size
 funs:s.heap.FunFrames base outer
 frf:∀ b ∈ frs outer,H b=none
 hok:HOk P w H s.heap
 bare:AllBare s.gens
def CE (outer:List Env) (P:B30) (w:World) (H:Hp) (s:Shared) (Q:VK) (u:Value) (s':Shared):Prop:=
 ∃ v H',s'.os=s.os/\AllBare s'.gens/\Un (frs outer) [] H H' s.heap s'.heap/\HOk P w H' s'.heap/\RelV v u/\Q v H'
def CR (CX:CXT) (outer:List Env) (P:B30) (w:World) (H:Hp) (s:Shared) (Q:VK) (E:XK) (r:Result) (s':Shared):Prop:=
 match r with
 | .ok (.ret u)=>CE outer P w H s Q u s'
 | .ok _=>False
 | .error e=>CX outer H s E e s'
structure FnOk (P:B30) (w:World) (K:Ab1) (mg:Ab0) (base:Heap) (CX:CXT) (k:Nat) (f:Addr) (fd:B49) (ps:List Str) (sp:Sp):Prop where
 len:∀ vs H Q E,sp vs H Q E->vs.length=ps.length
 run:∀ (A:Around) (outer:List Env) (s:Shared) (H:Hp) (args:Args) (us:List Value) (vs:List V) (Q:VK) (E:XK),Room k A->Env0 P w K mg base A outer s H->BindsTo s fd args (ps.zip us)->Vals vs us->sp vs H Q E->
  B64 (model P w) A (.call (.ref f) args) (CR CX outer P w H s Q E) s
section
variable {X:Cx} {Ab:Aa2} {σ:St} {H:Hp} {s s':Shared}
theorem Inv.env0 (I:Inv X Ab σ H s):Env0 X.prog X.w X.K X.mg X.base X.A X.stack s H:=
 ⟨I.ok.frames,I.ok.mod,I.bs,F6 I.ok.bsz I.sz,I.stack,I.stkFree,I.hok,I.bare⟩
theorem Inv.after {Q:VK} {u:Value} (I:Inv X Ab σ H s) (h:CE X.stack X.prog X.w H s Q u s'):EP X Ab σ Q u s':=by
 obtain ⟨v,H',os,bare,un,hok,r,q⟩:=h;obtain ⟨hh,g,d,t,os'⟩:=s';obtain rfl:os'=s.os:=os;exact ⟨v,H',I.call (h':=hh) (g':=g) (d':=d) (t':=t) (ch:=[]) un hok bare (fun b z=>absurd z (by simp)),r,q⟩
end
def qbE (sp:Sp) (dvs:List V) (E:XK) (t:TA):TE:=fun σ H Q=>t σ H fun vs H1=>sp (vs++dvs) H1 Q E
def Binds (K:Ab1) (fd:B49) (ps:List Str) (ds:List Value):Prop:=
 ∀ (s:Shared) (us:List Value),K.In s.heap->(us++ds).length=ps.length->BindsTo s fd ⟨us,[]⟩ (ps.zip (us++ds))
theorem Binds.all {K:Ab1} {fd:B49} {ps:List Str} (h:∀ us:List Value,us.length=ps.length->B89 fd ⟨us,[]⟩=pure (ps.zip us)):Binds K fd ps []:=fun s us _ hl=>by
 rw [W7] at hl ⊢;exact .of_eq (h us hl)
def qW5 (CX:CXT) (X:Cx) (E:XK):Prop:=∀ (Ab:Aa2) (σ:St) (H:Hp) (s:Shared) (e:Value) (s':Shared),Inv X Ab σ H s->CX X.stack H s E e s'->X.xe e s'
section
variable {X:Cx} {CX:CXT} {k:Nat} {f C:Addr} {fd:B49} {ps:List Str} {sp:Sp} {dvs:List V} {ds:List Value} {E:XK} {x m:Str} {p pos apos:Pos} {e o:Expr} {es:List Expr} {ta:TE} {t:TA}
theorem qbO {Ab:Aa2} {σ:St} {H:Hp} {Q:VK} {us:List Value} {vs:List V} (F:FnOk X.prog X.w X.K X.mg X.base CX k f fd ps sp) (hr:Room k X.A) (hb:Binds X.K fd ps ds) (hd:Vals dvs ds) (hx:qW5 CX X E)
  (I:Inv X Ab σ H s) (r:Vals vs us) (h:sp (vs++dvs) H Q E):wpAny (model X.prog X.w) X.A (call (.ref f) us) (EP X Ab σ Q) X.xe s:=by
 have r2:Vals (vs++dvs) (us++ds):=r.append hd;have hl:(us++ds).length=ps.length:=by rw [<- r2.length];exact F.len _ _ _ _ h
 refine wpAny_call (B73 (F.run X.A X.stack s H ⟨us,[]⟩ (us++ds) (vs++dvs) Q E hr I.env0 (hb s us I.kIn hl) r2 h) fun r s' hq=>?_);cases r with
 | error e=>exact hx Ab σ H s e s' I hq
 | ok fl=>
  cases fl with
  | ret u=>exact I.after hq
  | next=>exact W2 hq
  | brk=>exact W2 hq
  | cont=>exact W2 hq
theorem qTT (F:FnOk X.prog X.w X.K X.mg X.base CX k f fd ps sp) (hr:Room k X.A) (hg:Gl X x) (hm:X.mg x=some (.ref f)) (hk:N9 X.K (.ref f)=true) (hb:Binds X.K fd ps ds) (hd:Vals dvs ds) (hx:qW5 CX X E)
  (ha:PA X (e::es) t) (hdb:(x == ("__debug__" : Str))=false:=by decide) (he:B35 (e::es) X.env=(false,eval e X.env)::B35 es X.env:=by rfl) (hpl:(backTo pos (B35 es X.env)).any (·.1)=false:=by rfl) :
  PE X (.Call (.Name x p) (e::es) [] pos) (qbE sp dvs E t):=by
 intro Ab s σ H Q I h;refine B90 (qa9 I hg hm ?_ hdb);refine PySem.W.callWith_K (h₀:=X.base) I.ok.mod.kin hk (thn (ha pos Ab s σ H _ I h) fun us s1 ⟨vs,H1,I1,r,q⟩=>⟨I1.kIn,?_⟩) he hpl;exact qbO F hr hb hd hx I1 r q
structure Mk (K:Ab1) (C f:Addr):Prop where
 makes:PySem.W.makesIn K C=true
 init:O5 K (.ref C) "__init__" = some (some (.ref f))
 fn:B18 K (.ref f)=true
 kp:N9 K (.ref C)=true
end
def PK (X:Cx) (kws:List B91) (t:TA):Prop:=
 ∀ (pos:Pos) (Ab:Aa2) (s:Shared) (σ:St) (H:Hp) (Q:List V->Hp->Prop),Inv X Ab σ H s->t σ H Q->wpAny (model X.prog X.w) X.A (evalAll ((backToKw pos (B97 kws X.env)).map (·.2))) (AP X Ab σ Q) X.xe s
section
variable {X:Cx} {CX:CXT} {k:Nat} {f C:Addr} {fd:B49} {ps ks:List Str} {sp:Sp} {E:XK} {x m:Str} {p pos apos kpos:Pos} {e o:Expr} {es:List Expr} {kws:List B91} {te ta:TE} {t tk:TA} {nm:Option Str}
theorem qbT:PK X [] tNil:=fun _ _ _ _ H Q I h=>wpAny_evalAll_nil ⟨[],H,I,.nil,h⟩
theorem qTJ (ha:PE X e te) (hr:PK X kws t):PK X (⟨nm,e,kpos⟩::kws) (qMU te t):=by
 intro pos Ab s σ H Q I h;show wpAny _ _ (evalAll ((do let v <- eval e X.env;standAt pos;pure v)::(backToKw pos (B97 kws X.env)).map (·.2))) _ _ s
 refine wpAny_evalAll_cons (B26 (thn (ha Ab s σ H _ I h) fun u s1 ⟨x,H1,I1,r1,q1⟩=>B26 (B98 (B27 ?_))));exact thn (hr pos Ab s1 σ H1 _ I1 q1) fun us s2 ⟨xs,H2,I2,r2,q2⟩=>⟨x::xs,H2,I2,.cons r1 r2,q2⟩
structure KBinds (K:Ab1) (fd:B49) (ps ks:List Str) (g:List Value->List Value->List Value) (gV:List V->List V->List V):Prop where
 to:∀ (s:Shared) (us ws:List Value),K.In s.heap->(g us ws).length=ps.length->BindsTo s fd ⟨us,ks.zip ws⟩ (ps.zip (g us ws))
 rel:∀ {vs:List V} {us:List Value} {zs:List V} {ws:List Value},Vals vs us->Vals zs ws->Vals (gV vs zs) (g us ws)
variable {g:List Value->List Value->List Value} {gV:List V->List V->List V}
end
structure FnScope (N P:List Str) (sc:Scope):Prop where
 kind:sc.kind=.function
 co:sc.isCoroutine=false
 gen:sc.isGenerator=false
 nd:N.Nodup
 pre:N.take P.length=P
 par:∀ x ∈ P,sc.names.lookup x=some .local\/sc.names.lookup x=some .cell
 nofree:∀ y ∈ sc.names,y.2 ≠ .free
theorem qO3 {kindOf:Str->Option B82} {x:Str} :∀ {binds:List (Str × Value)} {m:Ab0},(∀ v,(x,v) ∉ binds)->bindL kindOf binds m x=m x
 | [],_,_=>rfl
 | (n,v)::r,m,h=>by
  unfold bindL;rw [qO3 fun w hw=>h w (C3 _ hw)]
  split
  ·have:x ≠ n:=by rintro rfl;exact h v F4
   simp [this]
  ·rfl
theorem qO5 {kindOf:Str->Option B82} {x:Str} :∀ {binds:List (Str × Value)} {m:Ab0},(∀ v,(x,v) ∉ binds)->bindC kindOf binds m x=m x
 | [],_,_=>rfl
 | (n,v)::r,m,h=>by
  unfold bindC;rw [qO5 fun w hw=>h w (C3 _ hw)]
  split
  ·rfl
  ·have:x ≠ n:=by rintro rfl;exact h v F4
   simp [this]
theorem qO4 {kindOf:Str->Option B82} {x:Str} {v:Value} :∀ {P:List Str} {vs:List Value} {i:Nat} {m:Ab0},P.Nodup->P[i]?=some x->vs[i]?=some v->kindOf x=some .local->
  bindL kindOf (P.zip vs) m x=some v
 | [],_,_,_,_,h,_,_=>by simp at h
 | _::_,[],_,_,_,_,h,_=>by simp at h
 | p::P,w::vs,0,m,nd,h1,h2,hk=>by
  simp at h1 h2;subst h1;subst h2;show bindL kindOf ((p,w)::P.zip vs) m p=_;unfold bindL;rw [qO3 fun v hv=>(U8.mp nd).1 (A13 hv).1,if_pos hk];simp
 | p::P,w::vs,i+1,m,nd,h1,h2,hk=>by
  show bindL kindOf ((p,w)::P.zip vs) m x=_;unfold bindL;exact qO4 (i:=i) (U8.mp nd).2 (by simpa using h1) (by simpa using h2) hk
theorem qO6 {kindOf:Str->Option B82} {x:Str} {v:Value} :∀ {P:List Str} {vs:List Value} {i:Nat} {m:Ab0},P.Nodup->P[i]?=some x->vs[i]?=some v->kindOf x ≠ some .local->
  bindC kindOf (P.zip vs) m x=some v
 | [],_,_,_,_,h,_,_=>by simp at h
 | _::_,[],_,_,_,_,h,_=>by simp at h
 | p::P,w::vs,0,m,nd,h1,h2,hk=>by
  simp at h1 h2;subst h1;subst h2;show bindC kindOf ((p,w)::P.zip vs) m p=_;unfold bindC;rw [qO5 fun v hv=>(U8.mp nd).1 (A13 hv).1,if_neg hk];simp
 | p::P,w::vs,i+1,m,nd,h1,h2,hk=>by
  show bindC kindOf ((p,w)::P.zip vs) m x=_;unfold bindC;exact qO6 (i:=i) (U8.mp nd).2 (by simpa using h1) (by simpa using h2) hk
def start (N:List Str) (vs:List V):St:=vs.map some++D2 (N.length - vs.length) none
def cxOf (CX:CXT) (P:B30) (w:World) (K:Ab1) (mg:Ab0) (base:Heap) (N:List Str) (qual:Str) (scope:Scope) (f:Addr) (cd:Value) (A:Around) (outer:List Env) (s:Shared) (H:Hp) (E:XK):Cx where
 prog:=P
 w:=w
 K:=K
 mg:=mg
 base:=base
 A:=A.deeper (envOfC qual scope s.heap.objs.size f cd)
 N:=N
 s₀:=s
 H₀:=H
 env:=envOfC qual scope s.heap.objs.size f cd
 outer:=outer
 stack:=envOfC qual scope s.heap.objs.size f cd::outer
 ex:=[]
 calm:=true
 fn:=fun _=>true
 pn:=[]
 xe:=fun e s'=>wpAny (model P w) (A.deeper (envOfC qual scope s.heap.objs.size f cd)) (leaving (envOfC qual scope s.heap.objs.size f cd) e) (fun _ s''=>CX outer H s E e s'') (fun e' s''=>CX outer H s E e' s'') s'
theorem qR8 {sc:Scope} {n:Nat} {x:Str} (h:sc.names.lookup x=some .cell):∃ c,(cellsFrom n sc.names []).lookup x=some c:=by
 have q:=A10 sc.names n [] (.inl h);exact Z5.mp q
theorem qUL {CX:CXT} {K:Ab1} {mg:Ab0} {base:Heap} {N ps:List Str} {qual:Str} {scope:Scope} {f:Addr} {cd:Value} {outer:List Env} {H:Hp} {E:XK} {us:List Value} {vs:List V} 
  (S:FnScope N ps scope) (hd:A.handled=none) (e0:Env0 P w K mg base A outer s H) (hl:vs.length=ps.length) (r:Vals vs us)
  (x:InCallC s s.heap.objs.size (bindL (envOfC qual scope s.heap.objs.size f cd).kindOf (ps.zip us) fun _=>none) (cellsFrom (s.heap.objs.size+1) scope.names []) (bindC (envOfC qual scope s.heap.objs.size f cd).kindOf (ps.zip us) fun _=>none) s1) :
  Inv (cxOf CX P w K mg base N qual scope f cd A outer s H E) [] (start N vs) H s1:=by
 have hpl:ps.length<=N.length:=by have:=congrArg V5 S.pre;rw [C5] at this;lia
 obtain ⟨h1,tk,rfl,hk⟩:=x.done;have noA:∀ b:Addr,b ∉ (cxOf CX P w K mg base N qual scope f cd A outer s H E).ex:=fun b z=>absurd (show b ∈ ([]:List Addr) from z) (by simp)
 refine ⟨⟨e0.mod,S.kind,rfl,rfl,A6 _,fun y z c h1 h2=>?_,fun y hy=>?_,fun y c _ h=>?_,fun _=>hd,A25 e0.frames,.inr ⟨rfl,rfl⟩,fun b z=>absurd z (noA b),e0.bs,e0.bsz,fun b _ _=>noA b,fun b z=>absurd z (noA b),e0.funs,e0.frf⟩,
  rfl,e0.bare,Un.kept hk,⟨_,x.toInCall.ns,fun i y v h1 h2 h3=>?_⟩,fun y c h=>⟨_,x.cell y c h⟩,e0.hok.fresh (A6 _),fun y c h=>?_,fun p hp=>absurd (show p ∈ ([]:Aa2) from hp) (by simp),e0.hok.kept hk,?_⟩
 ·exact name_of_addr x.apart (G8 h1) (G8 h2)
 ·have hy:scope.names.lookup y=some .cell\/scope.names.lookup y=some .free:=hy;rcases hy with hy | hy
  ·exact qR8 hy
  ·exact absurd rfl (S.nofree _ (G8 hy))
 ·exact R8 (x.above y c (G8 h))
 ·have hi:i<vs.length:=by
   unfold start at h2;by_cases hi:i<vs.length
   ·exact hi
   ·rw [G0 (by simpa using hi)] at h2
    rw [List.getElem?_replicate] at h2
    split at h2 <;> cases h2
  have ha:vs[i]?=some v:=by
   unfold start at h2;rw [J3 (by simpa using hi),B6] at h2
   cases e:vs[i]? with
   | none=>rw [e] at h2;cases h2
   | some a=>rw [e] at h2;cases h2;rfl
  obtain ⟨u,hu,rv⟩:=r.get ha;have hp:ps[i]?=some y:=by
   rw [<- S.pre,Z6 (by lia)];exact h1
  have ndP:ps.Nodup:=by rw [<- S.pre];exact S.nd.sublist (X6 _ _)
  refine ⟨u,rv,?_⟩;rcases S.par y (B5 hp) with k | k
  ·exact .inl ⟨k,qO4 ndP hp hu k⟩
  ·obtain ⟨c,e⟩:=qR8 (n:=s.heap.objs.size+1) k;refine .inr ⟨.inl k,c,e,?_⟩;have q:=x.cell y c e;rw [qO6 ndP hp hu (by show scope.names.lookup y ≠ _;rw [k];decide)] at q
   exact q
 ·exact e0.hok.fresh (R8 (x.above y c (G8 h)))
 ·unfold start;show _=N.length;rw [B0,A0,L8]
  lia
theorem qcM {CX:CXT} {K:Ab1} {mg:Ab0} {base:Heap} {k:Nat} {f:Addr} {name qual:Str} {params:B59} {body:List Stmt} {scope:Scope} {dV kV doc pm cdv ct oc:Value} {an od:Option Addr} 
  {osl:Array (Option Value)} {N ps:List Str} {sp:Sp} (lk:K.lookup f=some ⟨oc,od,.func (Q2 name qual params body scope dV kV doc pm an cdv ct),osl⟩) (hcd:i8 K cdv qual=true) (S:FnScope N ps scope)
  (len:∀ vs H Q E,sp vs H Q E->vs.length=ps.length)
  (hbody:∀ (A:Around) (outer:List Env) (s:Shared) (H:Hp) (vs:List V) (Q:VK) (E:XK),Room k (A.deeper (envOfC qual scope s.heap.objs.size f cdv))->sp vs H Q E->
   ∃ t,PSs (cxOf CX P w K mg base N qual scope f cdv A outer s H E) body t/\t { nx:=fun _ H'=>Q .non H',rt:=Q } (start N vs) H) :
  FnOk P w K mg base CX (k+1) f (Q2 name qual params body scope dV kV doc pm an cdv ct) ps sp:=by
 refine ⟨len,fun A outer s H args us vs Q E hr e0 hb r hsp=>?_⟩;have hl:=len _ _ _ _ hsp;have KX:K.In s.heap:=e0.mod.kin.keeps fun b o e=>(e0.bs b o e).1;have lim:s.heap.NoLimit:=e0.mod.nolimit.keeps fun b o e=>(e0.bs b o e).1;have hkind:∀ y ∈ ps.zip us,scope.names.lookup y.1=some .local\/(scope.names.lookup y.1=some .cell/\((cellsFrom (s.heap.objs.size+1) scope.names []).lookup y.1).isSome=true):=fun ⟨n,v⟩ hy=>by
  rcases S.par n (A13 hy).1 with q | q
  ·exact .inl q
  ·exact .inr ⟨q,A10 _ _ _ (.inl q)⟩
 refine codeAny_call_function hr.depth (KX _ _ lk) rfl S.co S.gen rfl (PySem.W.codeRec_of KX hcd) (hb _ _ _ _ ?_);refine wpAny_newFunctionEnv_cells S.kind hkind fun env he s1 x=>?_;subst he;refine ⟨lim.keeps x.toInCall.keep,codeAny_func ?_⟩;obtain ⟨t,ht,hq⟩:=hbody A outer s H vs Q E (hr.deeper _) hsp;have I:Inv (cxOf CX P w K mg base N qual scope f cdv A outer s H E) [] (start N vs) H s1:=qUL S hr.hd e0 hl r x;refine B42 (ht [] s1 (start N vs) H _ I hq) (fun fl s' hs=>?_) fun e s' hs=>hs;have fin:∀ {σ':St} {H':Hp} {v:V} {u:Value},Inv (cxOf CX P w K mg base N qual scope f cdv A outer s H E) [] σ' H' s'->RelV v u->Q v H'->CE outer P w H s Q u s':=
  fun {σ' H' v u} J rv q=>⟨v,H',J.os,J.bare,J.base,J.hok,rv,q⟩
 cases fl with
 | ret u=>
  obtain ⟨v,σ',H',J,rv,q⟩:=hs;exact fin J rv q
 | next=>
  obtain ⟨σ',H',J,q⟩:=hs;exact fin (v:=V.non) (u:=L0) J rfl q
 | brk=>
  obtain ⟨_,_,_,q⟩:=hs;exact W2 q
 | cont=>
  obtain ⟨_,_,_,q⟩:=hs;exact W2 q
section
variable {X:Cx} {x:Str} {p pos:Pos} {e:Expr} {es:List Expr} {t:TA} {id T:String} {r:List V->Hp->VK->Prop}
def tCB (r:List V->Hp->VK->Prop) (t:TA):TE:=fun σ H Q=>t σ H fun vs H1=>r vs H1 Q
theorem qA7 (hc:qCL X (.builtin id) r) (hg:Gl X x) (hm:X.mg x=none) (hv:B33 x=some (.builtin id)) (ha:PA X (e::es) t) (hn:x ≠ "__name__":=by decide) (hdb:(x == ("__debug__" : Str))=false:=by decide)
  (he:B35 (e::es) X.env=(false,eval e X.env)::B35 es X.env:=by rfl) (hpl:(backTo pos (B35 es X.env)).any (·.1)=false:=by rfl):PE X (.Call (.Name x p) (e::es) [] pos) (tCB r t):=by
 intro Ab s σ H Q I h;refine B90 (qG4 I hg hm hv ?_ hn hdb);exact PyProof.Rows.callWith_builtin1 (thn (ha pos Ab s σ H _ I h) fun us s1 ⟨vs,H1,I1,r1,q1⟩=>hc Ab s1 σ H1 vs us Q I1 r1 q1) he hpl
theorem qAG (hc:qCL X (.type T) r) (hg:Gl X x) (hm:X.mg x=none) (hv:B33 x=some (.type T)) (ha:PA X (e::es) t) (hn:x ≠ "__name__":=by decide) (hdb:(x == ("__debug__" : Str))=false:=by decide)
  (he:B35 (e::es) X.env=(false,eval e X.env)::B35 es X.env:=by rfl) (hpl:(backTo pos (B35 es X.env)).any (·.1)=false:=by rfl):PE X (.Call (.Name x p) (e::es) [] pos) (tCB r t):=by
 intro Ab s σ H Q I h;refine B90 (qG4 I hg hm hv ?_ hn hdb);exact G4 (thn (ha pos Ab s σ H _ I h) fun us s1 ⟨vs,H1,I1,r1,q1⟩=>hc Ab s1 σ H1 vs us Q I1 r1 q1) he hpl
end
end L2
namespace HT
open PySem PyProof.Rows
def lexLt:List Int->List Int->Bool
 | [],[]=>false
 | [],_::_=>true
 | _::_,[]=>false
 | x::xs,y::ys=>if x=y then lexLt xs ys else decide (x<y)
theorem lexLt_cons (x y:Int) (xs ys:List Int):lexLt (x::xs) (y::ys)=if x=y then lexLt xs ys else decide (x<y):=rfl
theorem qM2:lexLt [] []=false:=rfl
theorem qKE (y:Int) (ys:List Int):lexLt [] (y::ys)=true:=rfl
theorem qKF (x:Int) (xs:List Int):lexLt (x::xs) []=false:=rfl
theorem eqAt_int (A:Around) (s:Shared) (a:Int) (t:Tok) (c:Int) (u:Tok):∃ e,SeqAt.EqAt A s (.int a t) (.int c u) e/\(e=true ↔ a=c):=
 ⟨(a == c),p6 a t c u,by simp⟩
theorem rcLt_int (A:Around) (s:Shared) (a:Int) (t:Tok) (c:Int) (u:Tok) (prog:B30) (w:World) (E:Aa1) (Q:Aa1) (h:Q (.bool (decide (a<c))) s) :
  wpAny (model prog w) A (richCompare .Lt (.int a t) (.int c u)) Q E s:=
 (PyProof.Rows.lt_int h:wpAny (model prog w) A (B46 .Lt (.int a t) (.int c u)) Q E s)
section
open PySem.SeqAt
open PySem.AutoSeq1 (wpAny_loadPart')
open PySem.MeetsSeq PySem.MeetsSeq2 PySem.MeetsSeq3
theorem tuple_lt_ints (l b:Addr) (items items2:Array Value) (n n2:Nat) (dd dd2:Option Addr) (sl sl2:Array (Option Value)) (ns ms:List Int) (hi:B38 items.toList ns) (hj:B38 items2.toList ms) :
  Meets (Builtin.«tuple.__lt__» ⟨[.ref l,.ref b],[]⟩)
   (fun _ R s=>s.heap.get? l=some { cls:=.type "tuple",dict:=dd,data:=.seq items n,slots:=sl }/\s.heap.get? b=some { cls:=.type "tuple",dict:=dd2,data:=.seq items2 n2,slots:=sl2 }/\
    R (.ok (.ret (.bool (lexLt ns ms)))) s):=
 .of_wp fun prog w A R s h=>by
  obtain ⟨hp,g,d,tk,os⟩:=s;obtain ⟨hl,hb,h⟩:=h;have f2:=w6;have z1:items.size=ns.length:=by rw [<- hi.length];simp
  have z2:items2.size=ms.length:=by rw [<- hj.length];simp
  wp_walk using C09 hl,C09 hb,wpAny_forIn_list _ (fun rest b s'=>b.1=none/\s'=⟨hp,g,d,tk,os⟩/\∃ (vs ws:List Value) (ns' ms':List Int),rest=vs.zip ws/\
   B38 vs ns'/\B38 ws ms'/\ns'.length+items2.size=ms'.length+items.size/\R (.ok (.ret (.bool (lexLt ns' ms')))) ⟨hp,g,d,tk,os⟩) _
  case turn=>
   rintro ⟨y,x⟩ rest b s' ⟨hb',rfl,vs,ws,ns',ms',hz,hvi,hwi,hlen,hR⟩;cases hvi with
   | nil=>rw [List.zip_nil_left] at hz;cases hz
   | cons a t hvi'=>
    cases hwi with
    | nil=>rw [List.zip_nil_right] at hz;cases hz
    | cons c u hwi'=>
     rw [p7] at hz
     injection hz with hyx hrest
     injection hyx with hy hx
     subst hy hx;rw [lexLt_cons] at hR;simp only [E2] at hlen;obtain ⟨e,he,hiff⟩:=eqAt_int A.in1 ⟨hp,g,d,tk,os⟩ a t c u;refine B26 (he prog w _ _ ?_);cases e with
     | true=>
      rw [if_pos (hiff.mp rfl)] at hR
      wp_walk
      exact ⟨rfl,rfl,_,_,_,_,hrest,hvi',hwi',by lia,hR⟩
     | false=>
      rw [if_neg (fun q=>absurd (hiff.mpr q) B4)] at hR;have hri:=rcLt_int A.in1 ⟨hp,g,d,tk,os⟩ a t c u prog w
      wp_walk using hri
      exact ⟨_,rfl,by simpa using hR⟩
  case fin=>
   rintro ⟨b1,b2⟩ s' ⟨hb',rfl,vs,ws,ns',ms',hz,hvi,hwi,hlen,hR⟩;simp only at hb';subst hb';have hv:lexLt ns' ms'=decide (items.size<items2.size):=by
    cases hvi with
    | nil=>
     cases hwi with
     | nil=>
      simp only [L5] at hlen;rw [qM2];exact (decide_eq_false (by lia)).symm
     | cons c u hw=>
      simp only [L5,E2] at hlen;rw [qKE];exact (decide_eq_true (by lia)).symm
    | cons a t hv=>
     cases hwi with
     | nil=>
      simp only [L5,E2] at hlen;rw [qKF];exact (decide_eq_false (by lia)).symm
     | cons c u hw=>
      rw [p7] at hz;cases hz
   rw [hv] at hR
   wp_walk
   exact ⟨_,rfl,by simpa [i3] using hR⟩
  case h=>
   exact ⟨rfl,rfl,items.toList,items2.toList,ns,ms,rfl,hi,hj,by lia,h⟩
end
section
variable {prog:B30} {w:World} {A:Around} {E:Aa1} {s:Shared}
theorem lt_tupInts {l b:Addr} {items items2:Array Value} {ns ms:List Int} {Q:Aa1} (hl:IsTup s.heap l items) (hb:IsTup s.heap b items2) (hi:B38 items.toList ns) (hj:B38 items2.toList ms)
  (hu:A.units<cLine) (h:Q (.bool (lexLt ns ms)) s):wpAny (model prog w) A (B46 .Lt (.ref l) (.ref b)) Q E s:=by
 obtain ⟨⟨cls,dd,data,sl⟩,ho,hc,n,hd⟩:=id hl;obtain ⟨⟨cls2,dd2,data2,sl2⟩,ho2,hc2,n2,hd2⟩:=id hb;simp only at hc hd hc2 hd2;subst hc hd hc2 hd2;exact richCompare_meets_room (op:=.Lt) ⟨_,ho,rfl⟩ ⟨_,ho2,rfl⟩ W8 c9 (b7 _ _) (tuple_lt_ints l b items items2 n n2 dd dd2 sl sl2 ns ms hi hj)
  ⟨ho,ho2,show Q3 (lexLt ns ms) ≠ A26/\Q (.bool (lexLt ns ms)) s from ⟨(fun x=>nomatch x),h⟩⟩ hu
theorem cat_tup {t b:Addr} {vs ws:List Value} {Q:Aa1} (ht:IsTup s.heap t vs.toArray) (hb:IsTup s.heap b ws.toArray) (hv:vs ≠ [])
  (h1:ws=[]->Q (.ref t) s) (h2:ws ≠ []->Q (.ref s.heap.objs.size) { s with heap:=s.heap.push { cls:=.type "tuple",data:=.seq (vs++ws).toArray } })
  (hsz:vs.length+ws.length<=B28):wpAny (model prog w) A (B55 .Add (.ref t) (.ref b)) Q E s:=by
 obtain ⟨⟨cls,dd,data,sl⟩,ho,hc,n,hd⟩:=id ht;obtain ⟨⟨cls2,dd2,data2,sl2⟩,ho2,hc2,n2,hd2⟩:=id hb;simp only at hc hd hc2 hd2;subst hc hd hc2 hd2;have e:vs.toArray++ws.toArray=(vs++ws).toArray:=by simp
 by_cases hw:ws=[]
 ·exact concat_meets ⟨_,ho,rfl⟩ ⟨_,ho2,rfl⟩ noFill_tuple_add seq_tuple_add d0 b8 (Z7 _ _)
   (tuple_addW1 t b vs.toArray ws.toArray n n2 dd dd2 sl sl2 (by simpa using hv) (by simp [hw])) ⟨ho,ho2,h1 hw⟩
 ·refine concat_meets ⟨_,ho,rfl⟩ ⟨_,ho2,rfl⟩ noFill_tuple_add seq_tuple_add d0 b8 (Z7 _ _)
   (tuple_addW2 t b vs.toArray ws.toArray n n2 dd dd2 sl sl2 (by simpa using hv) (by simpa using hw) (by rw [C0,C0];exact hsz)) ⟨ho,ho2,?_⟩
  rw [e];exact h2 hw
def sIx (n d:Nat):Option Int->Nat
 | none=>d
 | some v=>if v<0 then (v+(n:Int)).toNat else min v.toNat n
theorem sIx_none (n d:Nat):sIx n d none=d:=rfl
theorem sIx_nat (n d k:Nat):sIx n d (some (k:Int))=min k n:=by
 show (if (k:Int)<0 then ((k:Int)+(n:Int)).toNat else min (k:Int).toNat n)=min k n
 rw [if_neg (by lia),E1]
theorem qbN (n d:Nat) (hd:d<=n) (o:Option Int):sIx n d o<=n:=by
 cases o with
 | none=>exact hd
 | some v=>
  show (if v<0 then (v+(n:Int)).toNat else min v.toNat n)<=n
  by_cases hv:v<0
  ·rw [if_pos hv];lia
  ·rw [if_neg hv];exact Nat.min_le_right _ _
theorem qVL (v:Int) (n d:Nat):(if v<0 then max (v+(n:Int)) 0 else min v (n:Int))=((sIx n d (some v):Nat):Int):=by
 show (if v<0 then max (v+(n:Int)) 0 else min v (n:Int))=(((if v<0 then (v+(n:Int)).toNat else min v.toNat n):Nat):Int)
 by_cases hv:v<0
 ·simp only [if_pos hv];lia
 ·simp only [if_neg hv];lia
theorem qSO (lo hi:Option Int) (n:Nat):Y3 lo hi 1 (n:Int)=(((sIx n 0 lo:Nat):Int),((sIx n n hi:Nat):Int)):=by
 have h1:¬ ((1:Int)<0):=by lia
 unfold Y3;simp only [h1,if_false];refine Prod.ext ?_ ?_
 ·cases lo with
  | none=>rfl
  | some v=>exact qVL v n 0
 ·cases hi with
  | none=>rfl
  | some v=>exact qVL v n n
theorem qRU (i j:Nat):U0 (i:Int) (j:Int) 1=j - i:=by
 unfold U0;have h1:(1:Int) > 0:=by lia
 simp only [h1,if_true,Int.ediv_one]
 split <;> lia
theorem qKR {v:Value} {o:Option Int} {Q:Option Int->Shared->Prop} (p:IsPart v o) (h:Q o s):wpAny (model prog w) A (Builtin.Slice.slicePartIndex v) Q E s:=by
 cases p with
 | none=>exact slicePart_none h
 | int i t=>exact slicePart_int h
theorem qEO {sl:Addr} {vl vu:Value} {lo hi:Option Int} {n:Nat} {Q:Int × Int × Nat->Shared->Prop} (hs:s.heap.IsSliceOf sl vl vu .none) (pl:IsPart vl lo) (pu:IsPart vu hi)
  (h:Q (((sIx n 0 lo:Nat):Int),1,sIx n n hi - sIx n 0 lo) s):wpAny (model prog w) A (o8 (.ref sl) (pure (n:Int))) Q E s:=by
 obtain ⟨os,hos,hcs,hds⟩:=id hs;unfold o8 Builtin.Slice.sliceFields;refine B26 (B26 (B45 hos hds (x:=vl) rfl (B26 (B45 hos hds (x:=vu) rfl (B26 (B45 hos hds (x:=.none) rfl (B27 ?_)))))));refine B26 (slicePart_none ?_);show wpAny _ _ (if ((1:Int) == 0)=true then _ else _) _ _ s
 rw [if_neg (by decide)]
 refine B26 (qKR pl (B26 (qKR pu (B26 (B27 ?_)))));show wpAny _ _ (match Y3 lo hi 1 (n:Int) with | (lo,hi)=>pure (lo,(1:Int),U0 lo hi 1)) _ _ s
 rw [qSO lo hi n];show wpAny _ _ (pure (((sIx n 0 lo:Nat):Int),(1:Int),U0 ((sIx n 0 lo:Nat):Int) ((sIx n n hi:Nat):Int) 1)) _ _ s;rw [qRU];exact B27 h
theorem qWX (xs:Array Value) (i k:Nat):((G2 k).filterMap fun (m:Nat)=>xs[((i:Int)+(m:Int) * 1).toNat]?).toArray=((xs.toList.drop i).take k).toArray:=by
 have e:(fun (m:Nat)=>xs[((i:Int)+(m:Int) * 1).toNat]?)=fun m=>xs[i+m]?:=by
  funext m
  have:((i:Int)+(m:Int) * 1).toNat=i+m:=by lia
  rw [this]
 rw [e];have:=pick_run xs i k;rw [List.filterMap_map] at this;have e2:((fun x=>xs[x]?) ∘ fun x=>i+x)=fun m=>xs[i+m]?:=rfl;rw [e2] at this;rw [this]
theorem getItem_tuple_cut {t sl:Addr} {items:Array Value} {vl vu:Value} {lo hi:Option Int} {Q:Aa1} (ht:IsTup s.heap t items) (hs:s.heap.IsSliceOf sl vl vu .none) (pl:IsPart vl lo) (pu:IsPart vu hi)
  (hw:¬ (sIx items.size 0 lo=0/\sIx items.size items.size hi=items.size))
  (h:Q (.ref s.heap.objs.size) { s with heap:=s.heap.push { cls:=.type "tuple",data:=.seq ((items.toList.drop (sIx items.size 0 lo)).take (sIx items.size items.size hi - sIx items.size 0 lo)).toArray } })
  (hsz:items.size<=B28):wpAny (model prog w) A (B92 (.ref t) (.ref sl)) Q E s:=by
 have htake:sizeOk (.seq ((items.toList.drop (sIx items.size 0 lo)).take (sIx items.size items.size hi - sIx items.size 0 lo)).toArray):=by
  show ((items.toList.drop (sIx items.size 0 lo)).take (sIx items.size items.size hi - sIx items.size 0 lo)).toArray.size<=B28;rw [C0,C5,G3,C6]
  lia
 have hj:sIx items.size items.size hi<=items.size:=qbN _ _ (A6 _) hi;obtain ⟨os,hos,hcs,hds⟩:=id hs;have hTs:s.TypeIs (.ref sl) "slice":=⟨os,hos,hcs⟩;unfold B92
 try with_reducible refine B34 ?_
 first | refine B26 (B27 ?_) | skip
 refine B26 (wpAny_sequenceKey ht.typeIs (by decide) ?_)
 refine B26 (wpAny_callSpecial?_slot (name:=D4 "__getitem__") ht.typeIs G5
  (B37 G5 ht.typeIs entry_tuple_getitem ?_ (args_tuple_getitem _ _)))
 show wpAny _ _ (X9 (.ref t) >>= _) _ _ s;refine B26 (tupleItemsOf_ ht ?_);refine B26 (B62 hTs ?_);rw [if_pos (by decide)]
 refine B26 (qEO hs pl pu ?_);have hno:¬ ((((sIx items.size 0 lo:Nat):Int) == 0 && (1:Int) == 1 && (sIx items.size items.size hi - sIx items.size 0 lo) == items.size)=true):=by
  intro q;rw [J2,J2] at q;have q1:((sIx items.size 0 lo:Nat):Int)=0:=eq_of_beq q.1.1;have q2:sIx items.size items.size hi - sIx items.size 0 lo=items.size:=eq_of_beq q.2;exact hw ⟨by lia,by lia⟩
 show wpAny _ _ (if (((sIx items.size 0 lo:Nat):Int) == 0 && (1:Int) == 1 && (sIx items.size items.size hi - sIx items.size 0 lo) == items.size)=true then _ else _) _ _ s
 rw [if_neg hno,qWX]
 first
  | exact B26 (m:=L9 _) (B36 (B27 ⟨_,rfl,B27 h⟩) htake)
  | exact B26 (m:=L9 _) (B36 (B26 (B27 (B27 ⟨_,rfl,B27 h⟩))) htake)
  | exact B26 (B26 (m:=L9 _) (B36 (B27 (B27 ⟨_,rfl,B27 h⟩)) htake))
  | exact B26 (B26 (m:=L9 _) (B36 (B27 ⟨_,rfl,B27 h⟩) htake))
end
end HT
namespace L2
open PySem PySem.Spec PyProof.Rows
abbrev TO:=St->Hp->(Option Int->Hp->Prop)->Prop
def PO (X:Cx) (e:Option Expr) (t:TO):Prop:=
 ∀ (Ab:Aa2) (s:Shared) (σ:St) (H:Hp) (Q:Option Int->Hp->Prop),Inv X Ab σ H s->t σ H Q->
  wpAny (model X.prog X.w) X.A (evalPart e X.env) (fun u s'=>∃ o H',Inv X Ab σ H' s'/\IsPart u o/\Q o H') X.xe s
def qZI:TO:=fun _ H Q=>Q none H
def qcZ (t:TE):TO:=fun σ H Q=>t σ H fun x H1=>∃ i,x=.int i/\Q (some i) H1
theorem qFT {ns:List Int} :∀ {us:List Value},Vals (ns.map V.int) us->B38 us ns:=by
 induction ns with
 | nil=>intro us r;rw [p8] at r;cases r;exact .nil
 | cons n ns ih=>
  intro us r;rw [D0] at r;cases r with
  | cons r1 r2=>
   obtain ⟨t,e⟩:=r1;subst e;exact .cons n t (ih r2)
section
variable {X:Cx} {e:Expr} {te:TE} {lo hi:Option Expr} {tl th:TO} {pos p2:Pos}
theorem qJ9:PO X none qZI:=by
 intro Ab s σ H Q I h;rw [evalPart_none];exact B27 ⟨none,H,I,.none,h⟩
theorem qJ8 (h:PE X e te):PO X (some e) (qcZ te):=by
 intro Ab s σ H Q I hw;rw [evalPart_some];refine thn (h Ab s σ H _ I hw) fun u s1 ⟨x,H1,I1,r1,q1⟩=>?_;obtain ⟨i,rfl,q⟩:=q1;obtain ⟨t,rfl⟩:=r1;exact ⟨some i,H1,I1,.int i t,q⟩
def SlR (X:Cx) (r:V->Option Int->Option Int->Hp->VK->Prop):Prop:=
 ∀ (Ab:Aa2) (s:Shared) (σ:St) (H:Hp) (x:V) (v vl vu:Value) (lo hi:Option Int) (sl:Addr) (Q:VK),Inv X Ab σ H s->RelV x v->s.heap.IsSliceOf sl vl vu .none->IsPart vl lo->IsPart vu hi->r x lo hi H Q->
  ∃ T id,typeLookup (.type T) "__getitem__" = pure (some (.builtin id))/\s.TypeIs v T/\wpAny (model X.prog X.w) X.A (B92 v (.ref sl)) (EP X Ab σ Q) X.xe s
def tSl (r:V->Option Int->Option Int->Hp->VK->Prop) (te:TE) (tl th:TO):TE:=fun σ H Q=>te σ H fun x H1=>tl σ H1 fun l H2=>th σ H2 fun u H3=>r x l u H3 Q
theorem qGV {r:V->Option Int->Option Int->Hp->VK->Prop} (hr:SlR X r) (he:PE X e te) (hl:PO X lo tl) (hu:PO X hi th):PE X (.Subscript e (.Slice lo hi none p2) pos) (tSl r te tl th):=by
 intro Ab s σ H Q I h;refine Subscript_ (thn (he Ab s σ H _ I h) fun v s1 ⟨x,H1,I1,r1,q1⟩=>?_);refine wpAny_Slice (thn (hl Ab s1 σ H1 _ I1 q1) fun vl s2 ⟨l,H2,I2,pl,q2⟩=>thn (hu Ab s2 σ H2 _ I2 q2) fun vu s3 ⟨u,H3,I3,pu,q3⟩=>?_);rw [evalPart_none];refine B27 ?_;have I4:Inv X Ab σ H3 { s3 with heap:=s3.heap.push { cls:=.type "slice",data:=.fields #[vl,vu,.none] } }:=I3.kept (t':=s3.toks) fun b ob q=>A3 _ q;obtain ⟨T,id,hT,ht,hg⟩:=hr Ab { s3 with heap:=s3.heap.push { cls:=.type "slice",data:=.fields #[vl,vu,.none] } } σ H3 x v vl vu l u s3.heap.objs.size Q I4 r1 (B25 ..) pl pu q3;show wpAny (model X.prog X.w) X.A (subscriptTail e (.Slice lo hi none p2) v (.ref s3.heap.objs.size)) (EP X Ab σ Q) X.xe { s3 with heap:=s3.heap.push { cls:=.type "slice",data:=.fields #[vl,vu,.none] } };exact tail_any (ops:=[.ref s3.heap.objs.size,v]) ht hT hg (by with_unfolding_all rfl)
def cutV (xs:List V) (lo hi:Option Int):List V:=(xs.drop (HT.sIx xs.length 0 lo)).take (HT.sIx xs.length xs.length hi - HT.sIx xs.length 0 lo)
theorem qK2 (xs:List V) (lo hi:Option Int):(cutV xs lo hi).length<=xs.length:=by
 unfold cutV;rw [C5,G3]
 lia
def rSlT (K:Ab1):V->Option Int->Option Int->Hp->VK->Prop:=fun x lo hi H Q=>∃ a xs,x=.ref a/\SqT K H a xs/\
 ¬ (HT.sIx xs.length 0 lo=0/\HT.sIx xs.length xs.length hi=xs.length)/\∀ p,H p=none->Q (.ref p) (Ag H p (.tup (cutV xs lo hi)))
theorem qbI:SlR X (rSlT X.K):=by
 intro Ab s σ H x v vl vu lo hi sl Q I rx hs pl pu h;obtain ⟨a,xs,rfl,hx,hw,q⟩:=h;cases rx;obtain ⟨its,r,ht,hz⟩:=I.tuple hx;have hlen:its.toArray.size=xs.length:=by rw [C0];exact r.length.symm
 refine ⟨"tuple",_,G5.lookup,ht.typeIs,?_⟩;refine HT.getItem_tuple_cut ht hs pl pu (by rw [hlen];exact hw) ?_ (by rw [hlen];exact hz)
 rw [hlen];refine ⟨.ref s.heap.objs.size,_,I.laid (t':=s.toks) (o:=.tup (cutV xs lo hi)) (fun b ob q=>A3 _ q) (A6 _) ?_,rfl,q _ (I.hok.fresh (A6 _))⟩;exact ⟨F6 (qK2 xs lo hi) hz,_,(r.drop (HT.sIx xs.length 0 lo)).take (HT.sIx xs.length xs.length hi - HT.sIx xs.length 0 lo),IsTup.new _ _⟩
def qdF (K:Ab1):R2:=fun x y H Q=>∃ a b xs ys,x=.ref a/\y=.ref b/\SqT K H a xs/\SqT K H b ys/\xs ≠ []/\xs.length+ys.length<=B28/\
 (ys=[]->Q (.ref a) H)/\(ys ≠ []->∀ p,H p=none->Q (.ref p) (Ag H p (.tup (xs++ys))))
theorem Vals.nil_iff {xs:List V} {us:List Value} (r:Vals xs us):us=[] ↔ xs=[]:=by
 cases r with
 | nil=>simp
 | cons _ _=>simp
theorem qa3:OpR X (B55 .Add) (qdF X.K):=by
 intro Ab s σ H x y v u Q I rx ry h;obtain ⟨a,b,xs,ys,rfl,rfl,ha,hb,hx,hz,q1,q2⟩:=h;cases rx;cases ry;obtain ⟨its,r1,p1,_⟩:=I.tuple ha;obtain ⟨its2,r2,p2,_⟩:=I.tuple hb;refine HT.cat_tup p1 p2 (fun z=>hx (r1.nil_iff.mp z)) (fun z=>⟨.ref a,H,I,rfl,q1 (r2.nil_iff.mp z)⟩) (fun z=>?_) (by rw [<- r1.length,<- r2.length];exact hz)
 refine ⟨.ref s.heap.objs.size,_,I.laid (t':=s.toks) (o:=.tup (xs++ys)) (fun b ob q=>A3 _ q) (A6 _) ?_,rfl,q2 (fun w=>z (r2.nil_iff.mpr w)) _ (I.hok.fresh (A6 _))⟩;exact ⟨by rw [B0];exact hz,_,r1.append r2,IsTup.new _ _⟩
end
def ixN (n:Nat) (i:Int):Option Nat:=if 0<=i then (if i<n then some i.toNat else none) else if -(n:Int)<=i then some (i+n).toNat else none
def atI {α:Type} (xs:List α) (i:Int):Option α:=(ixN xs.length i).bind fun j=>xs[j]?
theorem qUI {n:Nat} {i:Int} {j:Nat} (h:ixN n i=some j):seqIndex? i n=some j/\j<n/\-(n:Int)<=i/\i<n:=by
 unfold ixN at h;by_cases h0:0<=i
 ·rw [if_pos h0] at h;by_cases h1:i<n
  ·rw [if_pos h1] at h;have e:i.toNat=j:=D7 h;exact ⟨by rw [seqIndex_of h0 h1,e],by lia,by lia,h1⟩
  ·rw [if_neg h1] at h;cases h
 ·rw [if_neg h0] at h;by_cases h1 : -(n:Int)<=i
  ·rw [if_pos h1] at h;have e:(i+n).toNat=j:=D7 h;exact ⟨by rw [seqIndex_neg (by lia) h1,e],by lia,h1,by lia⟩
  ·rw [if_neg h1] at h;cases h
theorem qW2 {α:Type} {xs:List α} {i:Int} {v:α} (h:atI xs i=some v):∃ j,seqIndex? i xs.length=some j/\xs[j]?=some v/\j<xs.length/\-(xs.length:Int)<=i/\i<xs.length:=by
 unfold atI at h;cases e:ixN xs.length i with
 | none=>rw [e] at h;cases h
 | some j=>
  rw [e] at h;obtain ⟨h1,h2,h3,h4⟩:=qUI e;exact ⟨j,h1,h,h2,h3,h4⟩
theorem qW1 {α:Type} {xs:List α} {j:Nat} {v:α} (h:xs[j]?=some v):atI xs (j:Int)=some v:=by
 have hj:j<xs.length:=(A4.mp h).1;have e:ixN xs.length (j:Int)=some j:=by
  unfold ixN;rw [if_pos (by lia),if_pos (by lia)];simp
 unfold atI;rw [e];exact h
def qaY (b:Expr):Prop:=∀ o i,subscripted b false o i=operate [o,i] (B92 o i)
def IxR (X:Cx) (r:R2):Prop:=
 ∀ (value slice:Expr) (Ab:Aa2) (s:Shared) (σ:St) (H:Hp) (x y:V) (v u:Value) (Q:VK),Inv X Ab σ H s->RelV x v->RelV y u->r x y H Q->
  subscripted slice false v u=operate [v,u] (B92 v u)->wpAny (model X.prog X.w) X.A (subscriptTail value slice v u) (EP X Ab σ Q) X.xe s
def MtR (X:Cx) (id:String) (r:V->List V->Hp->VK->Prop):Prop:=
 ∀ (Ab:Aa2) (s:Shared) (σ:St) (H:Hp) (x:V) (xs:List V) (v:Value) (us:List Value) (Q:VK),Inv X Ab σ H s->RelV x v->Vals xs us->r x xs H Q->
  wpAny (model X.prog X.w) X.A (call (.builtin id) (v::us)) (EP X Ab σ Q) X.xe s
section
variable {X:Cx} {a b:Expr} {ta tb:TE} {pos:Pos}
theorem qBA {r:R2} (hr:IxR X r) (ha:PE X a ta) (hb:PE X b tb) (hs:qaY b):PE X (.Subscript a b pos) (tOp r ta tb):=by
 intro Ab s σ H Q I h;exact Subscript_ (binT ha hb I h fun v u s2 x y H2 I2 rx ry q=>hr a b Ab s2 σ H2 x y v u Q I2 rx ry q (hs _ _))
def rIxL (K:Ab1):R2:=fun x y H Q=>∃ p xs i v,x=.ref p/\y=.int i/\SqL K H p xs/\atI xs i=some v/\Q v H
def rIxT (K:Ab1):R2:=fun x y H Q=>∃ p xs i v,x=.ref p/\y=.int i/\SqT K H p xs/\atI xs i=some v/\Q v H
theorem qCU:IxR X (rIxL X.K):=by
 intro value slice Ab s σ H x y v u Q I rx ry h hs;obtain ⟨p,xs,i,z,rfl,rfl,hq,he,q⟩:=h;cases rx;obtain ⟨t,rfl⟩:=ry;obtain ⟨its,r,pl,hz⟩:=I.list hq;obtain ⟨j,h1,h2,h3,h4,h5⟩:=qW2 he;obtain ⟨w,ew,rw'⟩:=r.get h2;have hl:=r.length;have hn:=qNF;have fin:EP X Ab σ Q w s:=⟨z,H,I,rw',q⟩;by_cases h0:0<=i
 ·have hj:i.toNat=j:=by
   rw [seqIndex_of h0 h5] at h1;exact D7 h1
  exact item_listR pl.isList h0 (by lia) (by rw [hj];simpa using ew) fin hs
 ·have hj:(i+(its.toArray.size:Int)).toNat=j:=by
   rw [seqIndex_neg (by lia) h4] at h1
   rw [C0,<- hl];exact D7 h1
  exact subscriptTail_builtinR (x:=w) pl.isList.typeIs slot_list_getitem.lookup
   (wpAny_getItem_list_neg (Q:=fun r s'=>r=w/\EP X Ab σ Q r s') pl.isList (by lia) (by rw [C0] <;> lia) (by lia) (by rw [hj];simpa using ew) ⟨rfl,fin⟩) hs
theorem qBD:IxR X (rIxT X.K):=by
 intro value slice Ab s σ H x y v u Q I rx ry h hs;obtain ⟨p,xs,i,z,rfl,rfl,hq,he,q⟩:=h;cases rx;obtain ⟨t,rfl⟩:=ry;obtain ⟨its,r,pl,hz⟩:=I.tuple hq;obtain ⟨j,h1,h2,h3,h4,h5⟩:=qW2 he;obtain ⟨w,ew,rw'⟩:=r.get h2;have hl:=r.length;have hn:=qNF;have fin:EP X Ab σ Q w s:=⟨z,H,I,rw',q⟩;exact subscriptTail_builtinR (x:=w) pl.typeIs slot_tuple_getitem.lookup
  (getItem_tuple (j:=j) (Q:=fun r s'=>r=w/\EP X Ab σ Q r s') pl (by lia) (by lia) (by rw [C0,<- hl];exact h1) (by simpa using ew) ⟨rfl,fin⟩) hs
theorem qS2 (its:List Value) (n j:Nat) (u:Value):U9 (·.setIfInBounds j u) { cls:=.type "list",data:=.seq its.toArray n }={ cls:=.type "list",data:=.seq (its.set j u).toArray n }:=by
 simp [U9]
theorem Inv.lst {Ab:Aa2} {σ:St} {H:Hp} {p:Addr} {xs:List V} (I:Inv X Ab σ H s) (h:H p=some (.lst xs)) :
  ∃ (its:List Value) (n:Nat),Vals xs its/\s.heap.get? p=some { cls:=.type "list",data:=.seq its.toArray n }/\xs.length<=B28:=by
 obtain ⟨z,its,n,r,e⟩:=I.hok p _ h;exact ⟨its,n,r,e,z⟩
theorem Inv.lstUpd {Ab:Aa2} {σ:St} {H:Hp} {p:Addr} {xs ys:List V} {its its':List Value} {n n':Nat} {f:Obj->Obj} (I:Inv X Ab σ H s) (h:H p=some (.lst xs))
  (ho:s.heap.get? p=some { cls:=.type "list",data:=.seq its.toArray n }) (hf:f { cls:=.type "list",data:=.seq its.toArray n }={ cls:=.type "list",data:=.seq its'.toArray n' }) (r:Vals ys its') (hz:ys.length<=B28) (t:Nat) :
  Inv X Ab σ (Ag H p (.lst ys)) { s with heap:=s.heap.update p f,toks:=t }:=by
 have e:(s.heap.update p f).get? p=some { cls:=.type "list",data:=.seq its'.toArray n' }:=by
  rw [J6 f ho (by rw [hf] <;> rfl),hf]
 refine I.write (x:=p) (e:=p) (by rw [h];trivial) (.inl rfl) (fun b u hb q=>(F0 _ _ (F2 hb)).trans q) ⟨_,e⟩ ?_
 exact ⟨hz,its',n',r,e⟩
def qdE:V->V->V->Hp->(Hp->Prop)->Prop:=fun o i v H Q=>∃ p xs k j,o=.ref p/\i=.int k/\H p=some (.lst xs)/\ixN xs.length k=some j/\Q (Ag H p (.lst (xs.set j v)))
theorem qLO:PSet X qdE:=by
 intro Ab s σ H o i v ov iv u Q I ro ri rv h;obtain ⟨p,xs,k,j,rfl,rfl,hp,hj,q⟩:=h;cases ro;obtain ⟨t,rfl⟩:=ri;obtain ⟨its,n,r,ho,hz⟩:=I.lst hp;obtain ⟨h1,h2,h3,h4⟩:=qUI hj;have hl:=r.length;have hn:=qNF;have I':Inv X Ab σ (Ag H p (.lst (xs.set j v))) { s with heap:=s.heap.update p (U9 (·.setIfInBounds j u)) }:=
  I.lstUpd hp ho (qS2 its n j u) (r.set rv j) (by rw [A14];exact hz) s.toks
 by_cases h0:0<=k
 ·have hk:k.toNat=j:=by
   rw [seqIndex_of h0 h4] at h1;exact D7 h1
  exact PySem.W.ki_setAt ho h0 (by lia) (by rw [C0,<- hl];exact h4) (by rw [hk];exact ⟨_,I',q⟩)
 ·have hk:(k+(its.toArray.size:Int)).toNat=j:=by
   rw [seqIndex_neg (by lia) h3] at h1
   rw [C0,<- hl];exact D7 h1
  exact PySem.W.ki_setBack ho (by lia) (by rw [C0,<- hl];exact h3) (by lia) (by rw [hk];exact ⟨_,I',q⟩)
theorem qN1 (lo hi:Option Int) (n:Nat):(B85 lo hi none n).1=((HT.sIx n 0 lo:Nat):Int)/\(B85 lo hi none n).2.1=((HT.sIx n n hi:Nat):Int)/\(B85 lo hi none n).2.2=1:=by
 refine ⟨?_,?_,rfl⟩
 ·cases lo with
  | none=>simp [B85,HT.sIx]
  | some i=>
   simp only [B85,HT.sIx,A78,show (1:Int) > 0 by decide,if_true]
   by_cases h:i<0
   ·simp only [h,if_true] <;> lia
   ·simp only [h,if_false] <;> lia
 ·cases hi with
  | none=>simp [B85,HT.sIx]
  | some i=>
   simp only [B85,HT.sIx,A78,show (1:Int) > 0 by decide,if_true]
   by_cases h:i<0
   ·simp only [h,if_true] <;> lia
   ·simp only [h,if_false] <;> lia
theorem qLM (its:List Value) (lo hi:Option Int):slicePick its.toArray lo hi none=((its.drop (HT.sIx its.length 0 lo)).take (HT.sIx its.length its.length hi - HT.sIx its.length 0 lo)).toArray:=by
 obtain ⟨h1,h2,h3⟩:=qN1 lo hi its.toArray.size;unfold slicePick;rw [h1,h2,h3];simp only [sliceRange_one,pick_run,C0] <;> rfl
def rSlL (K:Ab1):V->Option Int->Option Int->Hp->VK->Prop:=fun x lo hi H Q=>∃ a xs,x=.ref a/\SqL K H a xs/\∀ p,H p=none->Q (.ref p) (Ag H p (.lst (cutV xs lo hi)))
theorem qLN:SlR X (rSlL X.K):=by
 intro Ab s σ H x v vl vu lo hi sl Q I rx hs pl pu h;obtain ⟨a,xs,rfl,hx,q⟩:=h;cases rx;obtain ⟨its,r,ht,hz⟩:=I.list hx;have hlen:=r.length;refine ⟨"list",_,slot_list_getitem.lookup,ht.isList.typeIs,?_⟩;refine wpAny_getItem_list_slice ht.isList hs pl pu .none (by simp) ?_ (by rw [C0] <;> lia)
 rw [qLM,<- hlen];refine ⟨.ref s.heap.objs.size,_,I.laid (t':=s.toks) (o:=.lst (cutV xs lo hi)) (fun b ob q=>A3 _ q) (A6 _) ?_,rfl,q _ (I.hok.fresh (A6 _))⟩;exact ⟨F6 (qK2 xs lo hi) hz,_,0,(r.drop (HT.sIx xs.length 0 lo)).take (HT.sIx xs.length xs.length hi - HT.sIx xs.length 0 lo),A8 _ rfl⟩
def qM4:V->Bool
 | .non=>true
 | .bl _=>true
 | .int _=>true
 | .str _=>true
 | _=>false
def eqV:V->V->Bool
 | .non,.non=>true
 | .bl a,.bl b=>a == b
 | .bl a,.int b=>(if a then 1 else 0) == b
 | .int a,.bl b=>a == (if b then 1 else 0)
 | .int a,.int b=>a == b
 | .str a,.str b=>a == b
 | _,_=>false
theorem qcO {y x:V} {u v:Value} (ry:RelV y u) (rx:RelV x v) (fy:qM4 y=true) (fx:qM4 x=true):SeqAt.EqAt A s u v (eqV y x):=by
 cases y with
 | non=>
  cases ry;cases x with
  | non=>cases rx;exact A89 _
  | bl b=>cases rx;exact SeqAt.EqAt.none_bool b
  | int b=>obtain ⟨t,rfl⟩:=rx;exact SeqAt.EqAt.none_int b t
  | str b=>obtain ⟨t,rfl⟩:=rx;exact SeqAt.EqAt.none_str b t
  | _=>exact absurd (show false=true from fx) B4
 | bl a=>
  cases ry;cases x with
  | non=>cases rx;exact SeqAt.EqAt.bool_none a
  | bl b=>cases rx;exact SeqAt.EqAt.bool_bool a b
  | int b=>obtain ⟨t,rfl⟩:=rx;exact SeqAt.EqAt.bool_int a b t
  | str b=>obtain ⟨t,rfl⟩:=rx;exact SeqAt.EqAt.bool_str a b t
  | _=>exact absurd (show false=true from fx) B4
 | int a=>
  obtain ⟨t',rfl⟩:=ry;cases x with
  | non=>cases rx;exact SeqAt.EqAt.int_none a t'
  | bl b=>cases rx;exact SeqAt.EqAt.int_bool a t' b
  | int b=>obtain ⟨t,rfl⟩:=rx;exact p6 a t' b t
  | str b=>obtain ⟨t,rfl⟩:=rx;exact A45 a t' b t
  | _=>exact absurd (show false=true from fx) B4
 | str a=>
  obtain ⟨t',rfl⟩:=ry;cases x with
  | non=>cases rx;exact SeqAt.EqAt.str_none a t'
  | bl b=>cases rx;exact SeqAt.EqAt.str_bool a t' b
  | int b=>obtain ⟨t,rfl⟩:=rx;exact A46 a t' b t
  | str b=>obtain ⟨t,rfl⟩:=rx;exact SeqAt.EqAt.str_str a t' b t
  | _=>exact absurd (show false=true from fx) B4
 | _=>exact absurd (show false=true from fy) B4
def eqU (x:V) (u:Value):Bool:=match u with
 | .none=>eqV .non x
 | .bool b=>eqV (.bl b) x
 | .int i _=>eqV (.int i) x
 | .str z _=>eqV (.str z) x
 | _=>false
theorem qZ0 {x y:V} {u:Value} (r:RelV y u) (f:qM4 y=true):eqU x u=eqV y x:=by
 cases y with
 | non=>cases r;rfl
 | bl b=>cases r;rfl
 | int i=>obtain ⟨t,rfl⟩:=r;rfl
 | str z=>obtain ⟨t,rfl⟩:=r;rfl
 | _=>exact absurd (show false=true from f) B4
theorem qPQ {x:V} :∀ {xs:List V} {us:List Value},Vals xs us->xs.all qM4=true->us.any (eqU x)=xs.any fun y=>eqV y x
 | _,_,.nil,_=>rfl
 | y::xs,u::us,.cons r t,f=>by
  rw [B07,J2] at f;rw [V6,V6,qZ0 r f.1,qPQ t f.2]
theorem qM1 {x:V} {v:Value} (rx:RelV x v) (fx:qM4 x=true):∀ {xs:List V} {us:List Value},Vals xs us->xs.all qM4=true->∀ u ∈ us,SeqAt.EqAt A s u v (eqU x u)
 | _,_,.nil,_=>fun u hu=>by cases hu
 | y::xs,u::us,.cons r t,f=>fun u' hu=>by
  rw [B07,J2] at f;rcases C1.mp hu with rfl | hu
  ·rw [qZ0 r f.1];exact qcO r rx f.1 fx
  ·exact qM1 rx fx t f.2 u' hu
def inV (x:V) (xs:List V):Bool:=xs.any fun y=>eqV y x
def rIn (K:Ab1) (neg:Bool):R2:=fun x y H Q=>∃ p xs,y=.ref p/\(SqL K H p xs\/SqT K H p xs)/\qM4 x=true/\xs.all qM4=true/\Q (.bl (if neg then !inV x xs else inV x xs)) H
theorem qDW:OpR X (B46 .In) (rIn X.K false):=by
 intro Ab s σ H x y v u Q I rx ry h;obtain ⟨p,xs,rfl,hq,fx,fs,q⟩:=h;cases ry;rcases hq with hq | hq
 ·obtain ⟨its,r,pl,hz⟩:=I.list hq;refine SeqAt.in_listAt (eqU x) pl.isList (fun w hw=>qM1 rx fx r fs w (by simpa using hw)) ⟨.bl _,H,I,rfl,?_⟩
  rw [show its.toArray.any (eqU x)=its.any (eqU x) by simp,qPQ r fs]
  exact q
 ·obtain ⟨its,r,pl,hz⟩:=I.tuple hq;refine SeqAt.in_tupleAt (eqU x) pl (fun w hw=>qM1 rx fx r fs w (by simpa using hw)) ⟨.bl _,H,I,rfl,?_⟩
  rw [show its.toArray.any (eqU x)=its.any (eqU x) by simp,qPQ r fs]
  exact q
theorem qAA:qCL X (.builtin "len") (fun xs H Q=>∃ p ys,xs=[.ref p]/\(SqL X.K H p ys\/SqT X.K H p ys)/\Q (.int ys.length) H):=by
 intro Ab s σ H xs us Q I r h;obtain ⟨p,ys,rfl,hq,q⟩:=h;obtain ⟨u,rfl,rx⟩:=qDS r;cases rx;have hn:=qNF;rcases hq with hq | hq
 ·obtain ⟨its,r',pl,hz⟩:=I.list hq;have hlen:=r'.length;exact Calls.call_len_list pl.isList (by simp only [C0] <;> lia) ⟨.int ys.length,H,I.tok _,⟨s.toks+1,by rw [C0,hlen]⟩,q⟩
 ·obtain ⟨its,r',pl,hz⟩:=I.tuple hq;have hlen:=r'.length;exact len_tuple pl (by simp only [C0] <;> lia) ⟨.int ys.length,H,I.tok _,⟨s.toks+1,by rw [C0,hlen]⟩,q⟩
theorem qFH:qCL X (.type "list") (fun xs H Q=>∃ p ys,xs=[.ref p]/\(SqL X.K H p ys\/SqT X.K H p ys)/\∀ l,H l=none->Q (.ref l) (Ag H l (.lst ys))):=by
 intro Ab s σ H xs us Q I r h;obtain ⟨p,ys,rfl,hq,q⟩:=h;obtain ⟨u,rfl,rx⟩:=qDS r;cases rx;have fin:∀ (its:List Value),Vals ys its->ys.length<=B28->∀ (h':Heap) (c':Nat),(∀ b o',s.heap.get? b=some o'->h'.get? b=some o')->
   h'.get? s.heap.objs.size=some { cls:=.type "list",dict:=none,data:=.seq its.toArray c',slots:=#[] }->EP X Ab σ Q (.ref s.heap.objs.size) { s with heap:=h' }:=fun its r' hz h' c' kp e=>
  ⟨.ref s.heap.objs.size,_,I.laid (t':=s.toks) kp (A6 _) (show ObjOk X.prog X.w _ h' _ (.lst ys) from ⟨hz,its,c',r',e⟩),rfl,q _ (I.hok.fresh (A6 _))⟩
 rcases hq with hq | hq
 ·obtain ⟨its,r',pl,hz⟩:=I.list hq;have hlen:=r'.length;obtain ⟨o,ho,hc,n,hd⟩:=pl.isList;exact call_list_seq p (.inl rfl) ho hc hd (fun h' c' kp e=>fin its r' hz h' c' kp e) (by simp only [C0] <;> lia)
 ·obtain ⟨its,r',pl,hz⟩:=I.tuple hq;have hlen:=r'.length;obtain ⟨o,ho,hc,n,hd⟩:=pl;exact call_list_seq p (.inr rfl) ho hc hd (fun h' c' kp e=>fin its r' hz h' c' kp e) (by simp only [C0] <;> lia)
theorem qAL:qCL X (.type "tuple") (fun xs H Q=>∃ p ys,xs=[.ref p]/\((SqL X.K H p ys/\∀ l,H l=none->Q (.ref l) (Ag H l (.tup ys)))\/(SqT X.K H p ys/\Q (.ref p) H))):=by
 intro Ab s σ H xs us Q I r h;obtain ⟨p,ys,rfl,h⟩:=h;obtain ⟨u,rfl,rx⟩:=qDS r;cases rx;rcases h with ⟨hq,q⟩ | ⟨hq,q⟩
 ·obtain ⟨its,r',pl,hz⟩:=I.list hq;have hlen:=r'.length;refine call_tuple_list pl.isList (fun h' kp=>?_) (by simp only [C0] <;> lia)
  have I1:Inv X Ab σ H { s with heap:=h' }:=I.kept (t':=s.toks) kp;have I2:Inv X Ab σ (Ag H h'.objs.size (.tup ys)) { s with heap:=h'.push { cls:=.type "tuple",data:=.seq its.toArray } }:=
   I1.laid (t':=s.toks) (fun b o e=>A3 _ e) (A6 _) (show ObjOk X.prog X.w _ _ _ (.tup ys) from ⟨hz,its,r',IsTup.new _ _⟩)
  exact ⟨.ref h'.objs.size,_,I2,rfl,q _ (I1.hok.fresh (A6 _))⟩
 ·obtain ⟨its,r',pl,hz⟩:=I.tuple hq;exact call_tuple_same pl ⟨.ref p,H,I,rfl,q⟩
def tyV (K:Ab1) (T:String) (x:V) (H:Hp):Prop:=match x with
 | .str _=>T = "str"
 | .int _=>T = "int"
 | .ref p=>(T = "list"/\∃ xs,SqL K H p xs)\/(T = "tuple"/\∃ o,K.lookup p=some o/\o.cls=.type "tuple"/\o.dict=none)\/
   (T = "dict"/\((∃ Af,H p=some (.dK Af))\/∃ Af,H p=some (.dT Af)))\/(T = "set"/\∃ S n,H p=some (.set S n))
 | _=>False
theorem qYA {Ab:Aa2} {σ:St} {H:Hp} {T:String} {x:V} {v:Value} (I:Inv X Ab σ H s) (r:RelV x v) (ty:tyV X.K T x H) :
  s.TypeIs v T/\∀ a,v=.ref a->∃ ob,s.heap.get? a=some ob/\ob.dict=none:=by
 cases x with
 | str z=>
  obtain ⟨t,rfl⟩:=r;cases (show T = "str" from ty);exact ⟨typeIs_str s z t,fun _ e=>nomatch e⟩
 | int i=>
  obtain ⟨t,rfl⟩:=r;cases (show T = "int" from ty);exact ⟨typeIs_int s i t,fun _ e=>nomatch e⟩
 | ref p=>
  cases r;rcases ty with ⟨rfl,xs,hq⟩ | ⟨rfl,o,hk,hc,hd⟩ | ⟨rfl,hk⟩ | ⟨rfl,S,n,hk⟩
  ·obtain ⟨its,_,pl,_⟩:=I.list hq;refine ⟨pl.isList.typeIs,fun a e=>?_⟩;cases e;obtain ⟨o,n,e,c,hd,_⟩:=pl;exact ⟨o,e,hd⟩
  ·refine ⟨⟨o,I.kIn p o hk,hc⟩,fun a e=>?_⟩;cases e;exact ⟨o,I.kIn _ o hk,hd⟩
  ·have z:∃ o,s.heap.get? p=some o/\o.ExactDict:=by
    rcases hk with ⟨Af,hk⟩ | ⟨Af,hk⟩
    ·obtain ⟨_,_,_,_,o,_,_,e,ex,_⟩:=I.hok p _ hk;exact ⟨o,e,ex⟩
    ·obtain ⟨_,_,_,_,o,_,_,e,ex,_⟩:=I.hok p _ hk;exact ⟨o,e,ex⟩
   obtain ⟨o,e,ex⟩:=z;refine ⟨⟨o,e,ex.1⟩,fun a e2=>?_⟩;cases e2;exact ⟨o,e,ex.2.1⟩
  ·obtain ⟨o,_,_,_,e,ex,_⟩:=I.hok p _ hk;refine ⟨⟨o,e,ex.1⟩,fun a e2=>?_⟩;cases e2;exact ⟨o,e,ex.2.1⟩
 | _=>exact W2 ty
def tBM0 (K:Ab1) (T:String) (r:V->List V->Hp->VK->Prop) (to:TE):TE:=fun σ H Q=>to σ H fun x H1=>tyV K T x H1/\r x [] H1 Q
def tBM (K:Ab1) (T:String) (r:V->List V->Hp->VK->Prop) (to:TE) (t:TA):TE:=fun σ H Q=>to σ H fun x H1=>tyV K T x H1/\t σ H1 fun xs H2=>r x xs H2 Q
variable {o e:Expr} {es:List Expr} {to:TE} {t:TA} {name:Str} {apos cpos:Pos} {T id:String} {r:V->List V->Hp->VK->Prop}
theorem qYP (pa:PlainAttrs T) (slot:Slot T name id) (hty:typeOf (.builtin id)=pure (.type "method_descriptor")) (hm:MtR X id r) (ho:PE X o to)
  (hbase:B99 o name X.env (eval o X.env)=eval o X.env:=by rfl) (hline:(apos.endLine == cpos.line)=true:=by rfl):PE X (.Call (.Attribute o name apos) [] [] cpos) (tBM0 X.K T r to):=by
 intro Ab s σ H Q I h;refine wpAny_Call_method0_late hbase hline (thn (ho Ab s σ H _ I h) fun v s1 ⟨x,H1,I1,r1,ty,q1⟩=>?_);obtain ⟨h1,h2⟩:=qYA I1 r1 ty;exact ⟨T,id,pa,slot,hty,h1,h2,d6 rfl (PySem.evalArgs_none (hm Ab s1 σ H1 x [] v [] Q I1 r1 .nil q1))⟩
theorem qRV (pa:PlainAttrs T) (slot:Slot T name id) (hty:typeOf (.builtin id)=pure (.type "method_descriptor")) (hm:MtR X id r) (ho:PE X o to) (ha:PA X (e::es) t)
  (hbase:B99 o name X.env (eval o X.env)=eval o X.env:=by rfl)
  (hfew:((backTo cpos (B35 (e::es) X.env)).all (fun x=>!x.1) && (backToKw cpos (B97 [] X.env)).all (fun x=>x.1.isSome)
   && decide ((e::es).length+([]:List B91).length+(if ([]:List B91).isEmpty then 0 else 1)<30))=true:=by rfl)
  (hline:(apos.endLine == cpos.line)=true:=by rfl) (hs:B35 (e::es) X.env=(false,eval e X.env)::B35 es X.env:=by rfl) (hplain:(backTo cpos (B35 es X.env)).any (·.1)=false:=by rfl) :
  PE X (.Call (.Attribute o name apos) (e::es) [] cpos) (tBM X.K T r to t):=by
 intro Ab s σ H Q I h;refine wpAny_Call_method_late hbase hfew hline rfl (thn (ho Ab s σ H _ I h) fun v s1 ⟨x,H1,I1,r1,ty,q1⟩=>?_);obtain ⟨h1,h2⟩:=qYA I1 r1 ty;refine ⟨T,id,pa,slot,hty,h1,h2,?_⟩;have hA:=ha cpos Ab s1 σ H1 _ I1 q1;rw [hs] at hA ⊢;refine d6 (by show (false || (backTo cpos (B35 es X.env)).any (·.1))=false;rw [hplain] <;> rfl) (A27 ?_)
 exact thn hA fun us s2 ⟨vs,H2,I2,r2,q2⟩=>hm Ab s2 σ H2 x vs v us Q I2 r1 r2 q2
end
def MtM (X:Cx) (id:String) (r:V->List V->Hp->VK->Prop):Prop:=
 ∀ (Ab:Aa2) (s:Shared) (σ:St) (H:Hp) (x:V) (xs:List V) (v:Value) (us:List Value) (Q:VK),Inv X Ab σ H s->RelV x v->Vals xs us->r x xs H Q->
  wpAny (model X.prog X.w) X.A (call (.builtin id) (v::us)) (EP X Ab σ Q) X.xe s
theorem Vals.one:∀ {x:V} {us:List Value},Vals [x] us->∃ u,us=[u]/\RelV x u
 | _,_,.cons r .nil=>⟨_,rfl,r⟩
theorem Vals.two:∀ {x y:V} {us:List Value},Vals [x,y] us->∃ u v,us=[u,v]/\RelV x u/\RelV y v
 | _,_,_,.cons r (.cons q .nil)=>⟨_,_,rfl,r,q⟩
theorem Vals.zero:∀ {us:List Value},Vals [] us->us=[]
 | _,.nil=>rfl
theorem Vals.reverse {xs:List V} {us:List Value} (h:Vals xs us):Vals xs.reverse us.reverse:=by
 induction h with
 | nil=>exact .nil
 | cons r t ih=>rw [i4,i4];exact Vals.append ih (.cons r .nil)
theorem Vals.rep {xs:List V} {us:List Value} (h:Vals xs us):∀ k:Nat,Vals (D2 k xs).flatten (D2 k us).flatten
 | 0=>.nil
 | k+1=>by
  rw [O3,O3,X7,X7];exact Vals.append h (Vals.rep h k)
theorem qNQ (its:List Value):∀ (k:Nat) (acc:List Value),
  B01 (fun x1 x2=>x1++x2) acc.toArray (D2 k its.toArray)=(acc++(D2 k its).flatten).toArray
 | 0,acc=>by simp
 | k+1,acc=>by
  have e:acc.toArray++its.toArray=(acc++its).toArray:=by simp
  have e2:(acc++its)++(D2 k its).flatten=acc++(D2 (k+1) its).flatten:=by
   rw [O3,X7,Q4]
  rw [<- e2,<- qNQ its k (acc++its),<- e,O3,W9]
section
variable {X:Cx} {Ab:Aa2} {σ:St} {H:Hp} {s:Shared} {l b:Addr} {xs ys zs:List V}
theorem Inv.lset {its its':List Value} {n:Nat} {f:Array Value->Array Value} {t':Nat} (I:Inv X Ab σ H s) (hH:H l=some (.lst xs))
  (e:s.heap.get? l=some { cls:=.type "list",data:=.seq its.toArray n }) (hf:f its.toArray=its'.toArray) (hv:Vals ys its') (hz:ys.length<=B28) :
  Inv X Ab σ (Ag H l (.lst ys)) { s with heap:=s.heap.update l (U9 f),toks:=t' }:=by
 have q:=PySem.IsL.update e f;rw [hf] at q;refine I.write (x:=l) (e:=l) (by rw [hH];exact trivial) (.inl rfl) (fun b' u hb hu=>(F0 s.heap (U9 f) (F2 hb)).trans hu) ⟨_,q⟩ ?_
 exact ⟨hz,its',_,hv,q⟩
theorem Inv.lnew {its:List Value} {t':Nat} (I:Inv X Ab σ H s) (hv:Vals ys its) (hz:ys.length<=B28) :
  Inv X Ab σ (Ag H s.heap.objs.size (.lst ys)) { s with heap:=s.heap.push { cls:=.type "list",data:=.seq its.toArray },toks:=t' }:=
 I.laid (fun _ _ q=>A3 _ q) (A6 _) ⟨hz,its,0,hv,A8 _ rfl⟩
theorem Inv.fresh (I:Inv X Ab σ H s):H s.heap.objs.size=none:=I.hok.fresh (A6 _)
theorem Inv.lstM (I:Inv X Ab σ H s) (hH:H l=some (.lst xs)):xs.length<=B28/\∃ (its:List Value) (n:Nat),Vals xs its/\xs.length=its.length/\s.heap.get? l=some { cls:=.type "list",data:=.seq its.toArray n }:=by
 obtain ⟨z,its,n,r,e⟩:=I.hok l _ hH;exact ⟨z,its,n,r,r.length,e⟩
theorem qX5 {n:Nat} (h:n<=B28):Z8 n=false:=by
 unfold Z8;exact decide_eq_false (by lia)
end
section
variable {X:Cx}
def qZV:V->List V->Hp->VK->Prop:=fun x vs H Q=>∃ l xs y,x=.ref l/\vs=[y]/\H l=some (.lst xs)/\xs.length<B28/\Q .non (Ag H l (.lst (xs++[y])))
theorem qD7:MtM X "list.append" qZV:=by
 intro Ab s σ H x vs v us Q I rx rv h;obtain ⟨l,xs,y,rfl,rfl,hH,hz,q⟩:=h;cases rx;obtain ⟨u,rfl,ru⟩:=rv.one;obtain ⟨z,its,n,r,hl,e⟩:=I.lstM hH;refine B93 F.slot_list_append ⟨_,e,rfl⟩ F.entry_list_append (F.args_list_append_2 _ _) (PySem.list_append l its.toArray n u (by rw [C0];lia)) ⟨e,?_⟩
 refine ⟨.non,_,I.lset (its':=its++[u]) hH e (by simp) (r.append (.cons ru .nil)) ?_,rfl,q⟩
 rw [B0,B9]
 lia
def qWR:V->List V->Hp->VK->Prop:=fun x vs H Q=>∃ l xs,x=.ref l/\vs=[]/\H l=some (.lst xs)/\Q .non (Ag H l (.lst xs.reverse))
theorem qRY:MtM X "list.reverse" qWR:=by
 intro Ab s σ H x vs v us Q I rx rv h;obtain ⟨l,xs,rfl,rfl,hH,q⟩:=h;cases rx;have hus:=rv.zero;subst hus;obtain ⟨z,its,n,r,hl,e⟩:=I.lstM hH;refine B93 F.slot_list_reverse ⟨_,e,rfl⟩ F.entry_list_reverse (F.args_list_reverse_1 _) (AutoSeq1.list_reverse_list_0 l its.toArray n (by rw [C0];lia)) ⟨e,?_⟩
 refine ⟨.non,_,I.lset (its':=its.reverse) hH e (by simp) r.reverse ?_,rfl,q⟩
 rw [m7]
 lia
def qbR:V->List V->Hp->VK->Prop:=fun x vs H Q=>∃ l xs,x=.ref l/\vs=[]/\H l=some (.lst xs)/\Q .non (Ag H l (.lst []))
theorem qX7:MtM X "list.clear" qbR:=by
 intro Ab s σ H x vs v us Q I rx rv h;obtain ⟨l,xs,rfl,rfl,hH,q⟩:=h;cases rx;have hus:=rv.zero;subst hus;obtain ⟨z,its,n,r,hl,e⟩:=I.lstM hH;refine B93 F.slot_list_clear ⟨_,e,rfl⟩ F.entry_list_clear (F.args_list_clear_1 _) (AutoSeq1.list_clear_list_0 l its.toArray n (by rw [C0];lia)) ⟨e,?_⟩
 exact ⟨.non,_,I.lset (its':=[]) (ys:=[]) hH e rfl .nil (E5 _),rfl,q⟩
def rCat:R2:=fun x y H Q=>∃ l b xs zs,x=.ref l/\y=.ref b/\H l=some (.lst xs)/\H b=some (.lst zs)/\xs.length+zs.length<=B28/\∀ p,H p=none->Q (.ref p) (Ag H p (.lst (xs++zs)))
theorem qKW:OpR X (B55 .Add) rCat:=by
 intro Ab s σ H x y v u Q I rx ry h;obtain ⟨l,b,xs,zs,rfl,rfl,hH,hB,hz,q⟩:=h;cases rx;cases ry;obtain ⟨z,its,n,r,hl,e⟩:=I.lstM hH;obtain ⟨z2,its2,n2,r2,hl2,e2⟩:=I.lstM hB;refine PySem.P.add_list e e2 ?_ (by rw [C0,C0];lia)
 have ea:its.toArray++its2.toArray=(its++its2).toArray:=by simp
 rw [ea];exact ⟨.ref _,_,I.lnew (t':=s.toks) (r.append r2) (by rw [B0];lia),rfl,q _ I.fresh⟩
def rRep:R2:=fun x y H Q=>∃ l k xs,x=.ref l/\y=.int k/\H l=some (.lst xs)/\-(2 ^ 63)<=k/\k<2 ^ 63/\xs.length * k.toNat<=B28/\
 ∀ p,H p=none->Q (.ref p) (Ag H p (.lst (D2 k.toNat xs).flatten))
theorem qa8 {α:Type} (xs:List α) (k:Nat):(D2 k xs).flatten.length=k * xs.length:=by
 induction k with
 | zero=>simp
 | succ k ih=>rw [O3,X7,B0,ih,Nat.succ_mul,Nat.add_comm]
theorem qTV:OpR X (B55 .Mult) rRep:=by
 intro Ab s σ H x y v u Q I rx ry h;obtain ⟨l,k,xs,rfl,rfl,hH,h1,h2,hz,q⟩:=h;cases rx;obtain ⟨t,rfl⟩:=ry;obtain ⟨z,its,n,r,hl,e⟩:=I.lstM hH;have hlen:its.toArray.size * k.toNat<=B28:=by rw [C0,<- hl];exact hz
 have hcap:¬ its.toArray.size * k.toNat > (2 ^ 63 - 1) / 8:=by
  have:(B28:Nat)<=(2 ^ 63 - 1) / 8:=by decide
  lia
 have hfit:¬ (!Builtin.List.listFitsIndex k)=true:=by
  rw [fitsIndex_both h1 h2];exact B4
 have hlong:¬ Z8 (its.toArray.size * k.toNat)=true:=by
  rw [qX5 hlen];exact B4
 have hnew:B01 (fun x1 x2=>x1++x2) #[] (D2 (if its.toArray.isEmpty=true then 0 else k.toNat) its.toArray)=(D2 k.toNat its).flatten.toArray:=by
  have f0:∀ m:Nat,B01 (fun x1 x2=>x1++x2) #[] (D2 m its.toArray)=(D2 m its).flatten.toArray:=fun m=>by
   have:=qNQ its m [];rw [m8] at this;exact this
  rw [f0];cases its with
  | nil=>simp
  | cons a r'=>rw [if_neg (by simp)]
 refine wpAny_binaryOp_repeat_ref (T:="list") (U:="int") (by decide) ⟨_,e,rfl⟩ (fun s'=>typeIs_int s' k t) noFill_list_mul F.fills_int_mul F.slot_int_rmul repeat_list F.slot_int_index.lookup
  (B93 F.slot_int_rmul (typeIs_int s k t) F.entry_int_rmul (F.args_int_rmul_2 _ _) (int___rmul___int_list k t l its.toArray n)
   ⟨e,rfl,⟨_,e,rfl⟩,B93 F.slot_list_mul ⟨_,e,rfl⟩ F.entry_list_mul (F.args_list_mul_2 _ _) (AutoListH.list___mul___list_int_3 l its.toArray n k t hfit hcap hlong) ⟨e,?_⟩⟩)
 rw [hnew];exact ⟨.ref _,_,I.lnew (t':=s.toks) (r.rep k.toNat) (by rw [qa8,Nat.mul_comm];exact hz),rfl,q _ I.fresh⟩
end
section
variable {prog:B30} {w:World} {A:Around} {E:Aa1} {s:Shared}
set_option maxRecDepth 100000 in
end
section
variable {X:Cx}
end
end L2
namespace Att
open PySem PySem.W PySem.Calls PyProof.Rows
theorem qJO {P:Params} {h:Heap} :∀ (ns:List Int) (vs:List Value),WellAll P h vs (ns.map WData.int)->B38 vs ns:=by
 intro ns
 induction ns with
 | nil=>
  intro vs w;rw [p8] at w;cases w;exact .nil
 | cons n ns ih=>
  intro vs w;rw [D0] at w;cases w with
  | cons a b=>
   cases a;exact .cons _ _ (ih _ b)
theorem qTC {l:OpenLaw} {n:Nat} (hn:l.most=some n) {P:Params} {h:Heap} {args:List WData} {vals:List Value}
  (hpre:l.row.toRowW.claim.pre args=true) (hwl:WellAll P h vals args) :
  ∃ a vs ns,vals=[C7 a]/\args=[WData.list (ns.map WData.int)]/\h.get? a=some { cls:=.type "list",data:=.seq vs.toArray }/\B38 vs ns/\ns.length<=n:=by
 have hsh:WShape.hasAll [] args [.list .int]=true:=(pre_splitW hpre).1;have hc:l.pre.holds [] { args:=args }=true:=(pre_splitW hpre).2;obtain ⟨d,r,rfl,h1,h2⟩:=hasAllW_cons hsh;obtain rfl:=hasAllW_nil h2;obtain ⟨xs,rfl,h3⟩:=hasW_list h1;obtain ⟨ns,rfl⟩:=items_int h3;have hlen:ns.length<=n:=by
  unfold OpenLaw.pre at hc;have h4:(WTm.not (.lt (.lit (.int (n:Int))) (.len (.arg 0)))).holds [] { args:=[.list (ns.map .int)] }=true:=by
   have h4:=(holds_andW hc).1;rw [hn] at h4;exact h4
  have h5:=condW_of h4 (w_not (w_lt w_lit (w_len_list (w_arg rfl))));rw [A0] at h5;refine Y8 fun q=>?_;have q':(n:Int)<((ns.length:Nat):Int):=by lia
  first
   | (rw [decide_eq_true q'] at h5;exact absurd h5 (by decide))
   | (simp at h5;lia)
 cases hwl with
 | cons w1 w2=>
  cases w2;cases w1 with
  | list ho hall=>exact ⟨_,_,ns,rfl,rfl,ho,qJO ns _ hall,hlen⟩
theorem qTI (l:OpenLaw) (args:List WData):l.row.toRowW.claim.post args (.bool true) args=true:=
 postW_of (r:=l.row.toRowW) (X:=(true == true))
  (show WShape.has [] (.bool true) .bool=true by first | rfl | decide | simp [WShape.has,WShape.arms,WShape.armsAll])
  (show (WTm.eq .res (.lit (.bool true))).value [] { args:=args,res:=some (.bool true),after:=args }=some (.bool (true == true)) from w_eq_bool (w_res rfl) w_lit) rfl
theorem attach_call {l:OpenLaw} {n:Nat} {loose:List Str} {XP:(Ab0)->Heap->Prop} {YP:World->Heap->Prop} {d:DefRec} 
  (hn:l.most=some n) (hdf:d.params.defaults=[])
  (call:∀ (w:World) (s₀ s₁:Shared) (mg mb:Ab0) (fa:Addr) (o:Obj) (pm cd doc:Value) (a:Addr) (vs:List Value) (ns:List Int),
   Ground q loose [] XP w s₀ mg mb s₁.heap->YP w s₁.heap->
   s₁.heap.get? fa=some o->o.data=.func (docDef d.name d.params d.body d.scope pm cd doc)->s₁.heap.CodeRec cd d.name->mg d.name=some (.ref fa)->
   s₁.heap.get? a=some { cls:=.type "list",data:=.seq vs.toArray }->B38 vs ns->ns.length<=n->s₁.gens=#[]->
   B64 (model l.prog w) callerA (.call (.ref fa) ⟨[.ref a],[]⟩) (fun r s'=>r=.ok (.ret (.bool true))/\OldK s₁.heap s'.heap/\s'.os=s₁.os/\AllBare s'.gens) s₁) :
  WalkO q loose XP YP l.row.toRowW d [] (fun f vs=>B02 f vs):=by
 intro w s₀ s₁ mg mb G Y fa o pm cd doc dV kV ho hd hcd hD hmg hg args vals as hpre hlay hrd hwl hlo;obtain rfl:dV=.none:=Dflts.none hD hdf;obtain rfl:kV=.none:=Dflts.noKw hD;obtain ⟨a,vs,ns,rfl,rfl,hobj,hints,hlen⟩:=qTC hn hpre hwl;refine enter_call (B73 (call w s₀ s₁ mg mb fa o pm cd doc a vs ns G Y ho (fd_plain hd) hcd hmg hobj hints hlen hg) fun r s' hq=>?_);obtain ⟨rfl,h2,h3,h4⟩:=hq;exact ⟨.inl ⟨.bool true,.bool true,[],rfl,fun _=>rfl,.bool true,qTI l _,fun _=>⟨List.Pairwise.nil,fun _ hm=>(nomatch hm)⟩⟩,h2,h3,h4⟩
section
variable {prog:B30} {w:World} {A:Around} {E:Aa1} {s:Shared} {K:Frag}
end
end Att
namespace L2
open PySem PySem.Spec PyProof.Rows
theorem qIX:∀ {vs:List Value} {ns:List Int},B38 vs ns->Vals (ns.map V.int) vs
 | _,_,.nil=>.nil
 | _,_,.cons n t h=>.cons ⟨t,rfl⟩ (qIX h)
def qEH (s:Stmt):B59:=match s with
 | .FunctionDef _ a _ _ _ _ _ _ _ _=>a
 | _=>{ posonlyargs:=[],args:=[],vararg:=none,kwonlyargs:=[],kw_defaults:=[],kwarg:=none,defaults:=[] }
def qBB (s:Stmt):List Stmt:=match s with
 | .FunctionDef _ _ b _ _ _ _ _ _ _=>b
 | _=>[]
def qAB (s:Stmt):Scope:=match s with
 | .FunctionDef _ _ _ _ _ _ sc _ _ _=>sc
 | _=>{ kind:=.function,names:=[],isGenerator:=false,isCoroutine:=false }
abbrev CX0:CXT:=fun _ _ _ _ _ _=>False
abbrev E0:XK:=fun _ _ _=>False
theorem qbZ {X:Cx} :qW5 CX0 X E0:=fun _ _ _ _ _ _ _ h=>h.elim
structure Fun (K:Ab1) (x qual:Str) (st:Stmt) (f:Addr) (fd:B49):Prop where
 ex:∃ (oc:Value) (od:Option Addr) (kV doc pm:Value) (an:Option Addr) (cdv ct:Value) (osl:Array (Option Value)),
  fd=Q2 x qual (qEH st) (qBB st) (qAB st) .none kV doc pm an cdv ct/\K.lookup f=some ⟨oc,od,.func fd,osl⟩/\i8 K cdv qual=true
 kp:N9 K (.ref f)=true
section
variable {P:B30} {w:World} {K:Ab1} {mg:Ab0} {base:Heap}
theorem Fun.ok {x qual:Str} {st:Stmt} {f:Addr} {fd:B49} {N ps:List Str} {k:Nat} {sp:Sp} (F:Fun K x qual st f fd) (S:FnScope N ps (qAB st)) (len:∀ vs H Q E,sp vs H Q E->vs.length=ps.length)
  (hbody:∀ (cdv:Value) (A:Around) (outer:List Env) (s:Shared) (H:Hp) (vs:List V) (Q:VK) (E:XK),Room k (A.deeper (envOfC qual (qAB st) s.heap.objs.size f cdv))->sp vs H Q E->
   ∃ t,PSs (cxOf CX0 P w K mg base N qual (qAB st) f cdv A outer s H E).nox (qBB st) t/\t { nx:=fun _ H'=>Q .non H',rt:=Q } (start N vs) H):FnOk P w K mg base CX0 (k+1) f fd ps sp:=by
 obtain ⟨oc,od,kV,doc,pm,an,cdv,ct,osl,rfl,lk,hcd⟩:=F.ex;refine qcM lk hcd S len fun A outer s H vs Q E hr hsp=>?_;obtain ⟨t,h,q⟩:=hbody cdv A outer s H vs Q E hr hsp;exact ⟨t,h.nox,q⟩
theorem Fun.binds {x qual:Str} {st:Stmt} {f:Addr} {fd:B49} {ps:List Str} (F:Fun K x qual st f fd)
  (h:∀ (kV doc pm:Value) (an:Option Addr) (cdv ct:Value) (us:List Value),us.length=ps.length->B89 (Q2 x qual (qEH st) (qBB st) (qAB st) .none kV doc pm an cdv ct) ⟨us,[]⟩=pure (ps.zip us)):Binds K fd ps []:=by
 obtain ⟨oc,od,kV,doc,pm,an,cdv,ct,osl,rfl,lk,hcd⟩:=F.ex;exact .all (h kV doc pm an cdv ct)
theorem fun_mk {x qual:Str} {st:Stmt} {f:Addr} {oc:Value} {od an:Option Addr} {osl:Array (Option Value)} {kV doc pm cdv ct:Value} (l:K.lookup f=some ⟨oc,od,.func (Q2 x qual (qEH st) (qBB st) (qAB st) .none kV doc pm an cdv ct),osl⟩)
  (c:i8 K cdv qual=true) (k:N9 K (.ref f)=true):Fun K x qual st f (Q2 x qual (qEH st) (qBB st) (qAB st) .none kV doc pm an cdv ct):=⟨⟨oc,od,kV,doc,pm,an,cdv,ct,osl,rfl,l,c⟩,k⟩
end
theorem qHO {k:Nat} (hr:Room k A):A.units+1<cLine:=T0 (Nat.add_le_add_left (by decide:1<=64) _) hr.units
theorem qAF {n:Nat} (h:n<=1000):n<B28:=T0 h (by decide)
section
variable {X:Cx}
theorem pv (i:Nat) {x:Str} {pos:Pos} (hN:X.N[i]?=some x:=by rfl) (hv:Vis X.env.scope x:=by first | exact E9 rfl | exact l7 (E9 rfl) | exact l7 (l7 rfl)) (hd:(x == ("__debug__" : Str))=false:=by decide)
  (hcd:(x == ("__classdict__" : Str))=false:=by decide):PE X (.Name x pos) (tVar i):=qbW hN hv hd hcd
end
theorem iteF {A B:Prop} (h:B):if false=true then A else B:=by
 rw [if_neg B4];exact h
theorem iteT {A B:Prop} (h:A):if true=true then A else B:=by
 rw [if_pos rfl];exact h
theorem ite2 {c A B:Prop} [Decidable c] (h1:c->A) (h2:¬ c->B):if c then A else B:=by
 by_cases h:c
 ·rw [if_pos h];exact h1 h
 ·rw [if_neg h];exact h2 h
def Same (H H':Hp):Prop:=∀ b o,H b=some o->H' b=some o
theorem Same.refl (H:Hp):Same H H:=fun _ _ h=>h
theorem Same.trans {H H1 H2:Hp} (a:Same H H1) (b:Same H1 H2):Same H H2:=fun c o h=>b c o (a c o h)
theorem Same.free {H H':Hp} (e:Same H H') {l:Addr} (h:H' l=B23):H l=B23:=by
 cases q:H l with
 | none=>rfl
 | some o=>
  rw [e l o q] at h;cases h
section
variable {κ:Type} [DecidableEq κ]
def valV (Af:List (κ × V)) (k:κ):Option V:=(Af.find? fun kv=>decide (kv.1=k)).map (·.2)
def putK (Af:List (κ × V)) (k:κ) (v:V):List (κ × V):=
 if (Af.any fun kv=>decide (kv.1=k))=true then Af.map (fun kv=>if kv.1=k then (kv.1,v) else kv) else Af++[(k,v)]
theorem qBR {p:κ × V} {r:List (κ × V)} {k:κ} (e:p.1=k):valV (p::r) k=some p.2:=by simp [valV,V0,e]
theorem qBS {p:κ × V} {r:List (κ × V)} {k:κ} (e:¬ p.1=k):valV (p::r) k=valV r k:=by simp [valV,V0,e]
theorem qFK (k:κ):∀ Af:List (κ × V),(Af.any fun kv=>decide (kv.1=k))=(valV Af k).isSome
 | []=>rfl
 | p::r=>by
  rw [V6];by_cases e:p.1=k
  ·simp only [qBR e,decide_eq_true e,Bool.true_or,Option.isSome_some]
  ·rw [qBS e,decide_eq_false e,B08];exact qFK k r
theorem qPT (k j:κ) (y:V):∀ Af:List (κ × V),valV (Af.map fun kv=>if kv.1=k then (kv.1,y) else kv) j=(valV Af j).map fun x=>if j=k then y else x
 | []=>rfl
 | p::r=>by
  have ih:=qPT k j y r;rw [D0];by_cases h:p.1=k
  ·rw [if_pos h];by_cases e:p.1=j
   ·rw [qBR (p:=(p.1,y)) e,qBR e,Q8,if_pos (e.symm.trans h)]
   ·rw [qBS (p:=(p.1,y)) e,qBS e,ih]
  ·rw [if_neg h];by_cases e:p.1=j
   ·rw [qBR (p:=p) e,qBR e,Q8,if_neg (fun z=>h (e.trans z))]
   ·rw [qBS (p:=p) e,qBS e,ih]
theorem qMR (k j:κ) (y:V):∀ Af:List (κ × V),valV Af k=none->valV (Af++[(k,y)]) j=if j=k then some y else valV Af j
 | [],_=>by
  by_cases e:k=j
  ·rw [if_pos e.symm];exact qBR (p:=(k,y)) e
  ·rw [if_neg (fun z=>e z.symm)];exact qBS (p:=(k,y)) e
 | p::r,hn=>by
  rw [k5];have hk:¬ p.1=k:=fun z=>by rw [qBR z] at hn;cases hn
  rw [qBS hk] at hn;have ih:=qMR k j y r hn;by_cases e:p.1=j
  ·rw [qBR e,qBR e,if_neg (fun z=>hk (e.trans z))]
  ·rw [qBS e,qBS e,ih]
theorem qGO (Af:List (κ × V)) (k j:κ) (y:V):valV (putK Af k y) j=if j=k then some y else valV Af j:=by
 unfold putK;by_cases a:(Af.any fun kv=>decide (kv.1=k))=true
 ·rw [if_pos a,qPT];rw [qFK] at a;by_cases e:j=k
  ·obtain ⟨x,hx⟩:=Z5.mp a;rw [if_pos e,e,hx,Q8,if_pos rfl]
  ·rw [if_neg e];cases valV Af j with
   | none=>rfl
   | some x=>rw [Q8,if_neg e]
 ·rw [if_neg a];refine qMR k j y Af ?_;rw [qFK] at a;cases q:valV Af k with
  | none=>rfl
  | some x=>rw [q] at a;exact (a rfl).elim
theorem qC5 (Af:List (κ × V)) (k:κ) (v:V):(putK Af k v).length<=Af.length+1:=by
 unfold putK
 split
 ·rw [A0];lia
 ·rw [B0,E2,L5];lia
theorem qQF {Af:List (κ × V)} {k:κ} (v:V) (h:valV Af k=none):putK Af k v=Af++[(k,v)]:=by
 unfold putK;rw [qFK,h];exact if_neg (by decide)
theorem RelO.isSome_eq {o:Option V} {u:Option Value} (r:RelO o u):o.isSome=u.isSome:=by
 cases o with
 | none=>cases u with
  | none=>rfl
  | some _=>exact (show False from r).elim
 | some _=>cases u with
  | none=>exact (show False from r).elim
  | some _=>rfl
theorem KV.val {Af:List (κ × V)} {vs:List (κ × Value)} (r:KV Af vs) (k:κ):RelO (valV Af k) (valueAt vs k):=by
 unfold KV at r
 induction r with
 | nil=>exact U7
 | @cons p q ps qs h t ih=>
  obtain ⟨h1,h2⟩:=h;by_cases e:p.1=k
  ·have e':q.1=k:=h1.symm.trans e;have b:valueAt (q::qs) k=some q.2:=by simp [valueAt,V0,e']
   rw [qBR e,b];exact h2
  ·have e':¬ q.1=k:=fun z=>e (h1.trans z);have b:valueAt (q::qs) k=valueAt qs k:=by simp [valueAt,V0,e']
   rw [qBS e,b];exact ih
theorem KV.any {Af:List (κ × V)} {vs:List (κ × Value)} (r:KV Af vs) (k:κ):(Af.any fun kv=>decide (kv.1=k))=vs.any fun kv=>decide (kv.1=k):=by
 unfold KV at r
 induction r with
 | nil=>rfl
 | cons h t ih=>rw [V6,V6,ih,h.1]
theorem KV.repl {Af:List (κ × V)} {vs:List (κ × Value)} (r:KV Af vs) (k:κ) {y:V} {u:Value} (ry:RelV y u) :
  KV (Af.map fun kv=>if kv.1=k then (kv.1,y) else kv) (vs.map fun kv=>if kv.1=k then (kv.1,u) else kv):=by
 unfold KV at r ⊢
 induction r with
 | nil=>exact .nil
 | @cons p q ps qs h t ih=>
  rw [D0,D0];refine .cons ?_ ih;obtain ⟨h1,h2⟩:=h;by_cases e:p.1=k
  ·rw [if_pos e,if_pos (h1.symm.trans e)];exact ⟨h1,ry⟩
  ·rw [if_neg e,if_neg (fun z=>e (h1.trans z))];exact ⟨h1,h2⟩
theorem KV.put {Af:List (κ × V)} {vs:List (κ × Value)} (r:KV Af vs) (k:κ) {y:V} {u:Value} (ry:RelV y u):KV (putK Af k y) (stored vs k u):=by
 unfold putK stored;rw [r.any k];by_cases e:(vs.any fun kv=>decide (kv.1=k))=true
 ·rw [if_pos e,if_pos e];exact r.repl k ry
 ·rw [if_neg e,if_neg e];exact Z2 r ⟨rfl,ry⟩
theorem KV.keys {Af:List (κ × V)} {vs:List (κ × Value)} (r:KV Af vs):Af.map (·.1)=vs.map (·.1):=by
 unfold KV at r
 induction r with
 | nil=>rfl
 | cons h t ih=>rw [D0,D0,ih,h.1]
theorem KV.length {Af:List (κ × V)} {vs:List (κ × Value)} (r:KV Af vs):Af.length=vs.length:=B7 r
end
theorem qS8 {k:Key} {u:Value} (r:RelV (kV k) u):(qB0 P w).is k u=true:=by
 cases k with
 | inl i=>obtain ⟨t,e⟩:=(show ∃ t,u=Q6 i t from r);subst e;exact qOY P w i t
 | inr x=>obtain ⟨t,e⟩:=(show ∃ t,u=A87 x t from r);subst e;exact qOX P w x t
theorem qNI :∀ {ks:List Key} {us:List Value},Vals (ks.map kV) us->ItemsAre (qB0 P w) ks us
 | [],_,r=>by rw [p8] at r;cases r;exact .nil
 | k::ks,_,r=>by
  rw [D0] at r;cases r with
  | cons h t=>exact .cons (qS8 h) (qNI t)
abbrev KT (H:Hp):List (List Key × V)->List (List Key × Addr × Value)->Prop:=Paired fun p q=>p.1=q.1/\H q.2.1=some (.tup (p.1.map kV))/\RelV p.2 q.2.2
theorem KT.val {H:Hp} {Af:List (List Key × V)} {xs:List (List Key × Addr × Value)} (r:KT H Af xs) (k:List Key):RelO (valV Af k) ((atKey xs k).map (·.2)):=by
 induction r with
 | nil=>exact U7
 | @cons p q ps qs h t ih=>
  obtain ⟨h1,_,h2⟩:=h;by_cases e:p.1=k
  ·have e':q.1=k:=h1.symm.trans e;have b:atKey (q::qs) k=some q.2:=by simp [atKey,V0,e']
   rw [qBR e,b];exact h2
  ·have e':¬ q.1=k:=fun z=>e (h1.trans z);have b:atKey (q::qs) k=atKey qs k:=by simp [atKey,V0,e']
   rw [qBS e,b];exact ih
theorem KT.repl {H:Hp} {Af:List (List Key × V)} {xs:List (List Key × Addr × Value)} (r:KT H Af xs) (k:List Key) {y:V} {u:Value} (ry:RelV y u) :
  KT H (Af.map fun kv=>if kv.1=k then (kv.1,y) else kv) (xs.map (putAt k u)):=by
 induction r with
 | nil=>exact .nil
 | @cons p q ps qs h t ih=>
  rw [D0,D0];refine .cons ?_ ih;obtain ⟨h1,h2,h3⟩:=h;unfold putAt;by_cases e:p.1=k
  ·rw [if_pos e,if_pos (h1.symm.trans e)];exact ⟨h1,h2,ry⟩
  ·rw [if_neg e,if_neg (fun z=>e (h1.trans z))];exact ⟨h1,h2,h3⟩
theorem KT.put {H:Hp} {Af:List (List Key × V)} {xs:List (List Key × Addr × Value)} (r:KT H Af xs) (k:List Key) {b:Addr} {y:V} {u:Value} (hb:H b=some (.tup (k.map kV))) (ry:RelV y u) :
  KT H (putK Af k y) (B94 xs k b u):=by
 have e:(Af.any fun kv=>decide (kv.1=k))=(atKey xs k).isSome:=by
  rw [qFK,(r.val k).isSome_eq,i5]
 unfold putK B94;rw [e];by_cases q:(atKey xs k).isSome=true
 ·rw [if_pos q,if_pos q];exact r.repl k ry
 ·rw [if_neg q,if_neg q];exact Z2 r ⟨rfl,hb,ry⟩
theorem KT.keeps {H H':Hp} {Af:List (List Key × V)} {xs:List (List Key × Addr × Value)} (r:KT H Af xs) (ht:∀ b ys,H b=some (.tup ys)->H' b=some (.tup ys)):KT H' Af xs:=
 Paired.mapP r fun _ _ z=>⟨z.1,ht _ _ z.2.1,z.2.2⟩
section
variable {P:B30} {w:World} {H:Hp} {h:Heap} {a:Addr}
theorem qbQ {u:HO} (ok:HOk P w H h) (e:Rd H a u):ObjOk P w H h a u:=e.ok ok
theorem qVA {Af:List (Key × V)} (ok:HOk P w H h) (e:Rd H a (.dK Af)):Af.length<=B28/\(a == B52)=false/\∃ vs,KV Af vs/\h.DictOf (qB0 P w) a vs:=
 show ObjOk P w H h a (.dK Af) from qbQ ok e
theorem qaP {Af:List (Key × V)} (ok:HOk P w H h) (e:H a=some (.dK Af)):Af.length<=B28/\(a == B52)=false/\∃ vs,KV Af vs/\h.DictOf (qB0 P w) a vs:=qVA ok (.inl e)
theorem qJL {ks:List Key} (ok:HOk P w H h) (e:H a=some (.tup (ks.map kV))):(B87 (qB0 P w)).is h ks a:=by
 obtain ⟨_,its,r,o,h1,h2,n,h3⟩:=(show ObjOk P w H h a (.tup (ks.map kV)) from ok a _ e);exact ⟨o,its.toArray,n,h1,h2,h3,by simpa using qNI r⟩
theorem qV9 {Af:List (List Key × V)} (ok:HOk P w H h) (e:Rd H a (.dT Af)):Af.length<=B28/\(a == B52)=false/\
  ∃ xs,KT H Af xs/\h.DictOfH (B87 (qB0 P w)) a xs:=by
 obtain ⟨z,y,xs,r,o,es,ep,h1,h2,h3,h4,h5⟩:=(show ObjOk P w H h a (.dT Af) from qbQ ok e);refine ⟨z,y,xs,r,o,es,ep,h1,h2,h3,h4,fun x hx=>?_,h5⟩;have all:∀ {l:List (List Key × V)} {m:List (List Key × Addr × Value)},KT H l m->∀ x ∈ m,(B87 (qB0 P w)).is h x.1 x.2.1:=by
  intro l m q
  induction q with
  | nil=>intro x hx;exact nomatch hx
  | @cons p q ps qs hq t ih=>
   intro x hx;rcases C1.mp hx with e | hx
   ·subst e;exact qJL ok (by rw [<- hq.1];exact hq.2.1)
   ·exact ih x hx
 exact all r x hx
theorem qcP {Af:List (List Key × V)} (ok:HOk P w H h) (e:H a=some (.dT Af)):Af.length<=B28/\(a == B52)=false/\
  ∃ xs,KT H Af xs/\h.DictOfH (B87 (qB0 P w)) a xs:=qV9 ok (.inl e)
end
def DGet (H:Hp) (a:Addr) (y:V) (r:Option V):Prop:=
 (∃ Af k,Rd H a (.dK Af)/\y=kV k/\r=valV Af k)\/∃ Af k b,Rd H a (.dT Af)/\y=.ref b/\H b=some (.tup (k.map kV))/\r=valV Af k
def DPut (H:Hp) (a:Addr) (y v:V) (H':Hp):Prop:=
 (∃ Af k,H a=some (.dK Af)/\y=kV k/\Af.length<B28/\H'=Ag H a (.dK (putK Af k v)))\/
 ∃ Af k b,H a=some (.dT Af)/\y=.ref b/\H b=some (.tup (k.map kV))/\Af.length<B28/\H'=Ag H a (.dT (putK Af k v))
theorem DGet.k {H:Hp} {a:Addr} {Af:List (Key × V)} {k:Key} (e:H a=some (.dK Af)):DGet H a (kV k) (valV Af k):=.inl ⟨Af,k,.inl e,rfl,rfl⟩
theorem DPut.k {H:Hp} {a:Addr} {Af:List (Key × V)} {k:Key} {v:V} (e:H a=some (.dK Af)) (hl:Af.length<B28):DPut H a (kV k) v (Ag H a (.dK (putK Af k v))):=.inl ⟨Af,k,e,rfl,hl,rfl⟩
theorem DPut.t {H:Hp} {a b:Addr} {Af:List (List Key × V)} {k:List Key} {v:V} (e:H a=some (.dT Af)) (eb:H b=some (.tup (k.map kV))) (hl:Af.length<B28) :
  DPut H a (.ref b) v (Ag H a (.dT (putK Af k v))):=.inr ⟨Af,k,b,e,rfl,eb,hl,rfl⟩
section
variable {X:Cx} {Ab:Aa2} {σ:St} {H:Hp} {s:Shared} {a:Addr} {y v:V} {u r:Value} {o:Option V} {A:Around} {E:Aa1}
theorem Inv.big (I:Inv X Ab σ H s):B52<s.heap.objs.size:=by
 have h:B40<s.heap.objs.size:=(I.mod.glob.keeps I.bk).lt;exact T1 (by decide) h
theorem qVI {Q:Aa1} (hu:A.units+1<cLine) (I:Inv X Ab σ H s) (g:DGet H a y (some v)) (ry:RelV y u) (h:∀ w' s',Inv X Ab σ H s'->RelV v w'->Q w' s') :
  wpAny (model X.prog X.w) A (B92 (.ref a) u) Q E s:=by
 rcases g with ⟨Af,k,e,ey,l⟩ | ⟨Af,k,b,e,ey,eb,l⟩
 ·subst ey;obtain ⟨z,hd,vs,rel,dd⟩:=qVA I.hok e;obtain ⟨w',hw,rw'⟩:=RelO.some_of (v:=v) (o:=valueAt vs k) (by rw [l];exact rel.val k)
  exact wpAny_getItem_of (qS8 ry) dd.mapOf hw (h w' _ (I.tok _) rw')
 ·subst ey;cases (show u=C7 b from ry);obtain ⟨z,hd,xs,rel,dd⟩:=qV9 I.hok e;obtain ⟨w',hw,rw'⟩:=RelO.some_of (v:=v) (o:=(atKey xs k).map (·.2)) (by rw [l];exact rel.val k)
  obtain ⟨p,hp,hp2⟩:=Option.map_eq_some_iff.mp hw;refine wpAny_getItem_heap (B76 hu) (qJL I.hok eb) dd hp ?_;rw [hp2];exact h w' _ (I.tok _) rw'
theorem d_in {Q:Aa1} (hu:A.units+1<cLine) (I:Inv X Ab σ H s) (g:DGet H a y o) (ry:RelV y u) (h:∀ s',Inv X Ab σ H s'->Q (.bool o.isSome) s') :
  wpAny (model X.prog X.w) A (B46 .In u (.ref a)) Q E s:=by
 rcases g with ⟨Af,k,e,ey,l⟩ | ⟨Af,k,b,e,ey,eb,l⟩
 ·subst ey;obtain ⟨z,hd,vs,rel,dd⟩:=qVA I.hok e;refine wpAny_in_of (qS8 ry) hd dd.mapOf ?_;rw [<- (rel.val k).isSome_eq,<- l];exact h _ (I.tok _)
 ·subst ey;cases (show u=C7 b from ry);obtain ⟨z,hd,xs,rel,dd⟩:=qV9 I.hok e;refine wpAny_in_heap (B76 hu) (qJL I.hok eb) hd dd ?_;have q:=(rel.val k).isSome_eq;rw [i5] at q;rw [<- q,<- l];exact h _ (I.tok _)
theorem qaR {Q:Aa1} (hu:A.units+1<cLine) (I:Inv X Ab σ H s) (g:DGet H a y o) (ry:RelV y u) (h:∀ s',Inv X Ab σ H s'->Q (.bool (!o.isSome)) s') :
  wpAny (model X.prog X.w) A (B46 .NotIn u (.ref a)) Q E s:=by
 rcases g with ⟨Af,k,e,ey,l⟩ | ⟨Af,k,b,e,ey,eb,l⟩
 ·subst ey;obtain ⟨z,hd,vs,rel,dd⟩:=qVA I.hok e;refine wpAny_notIn_of (qS8 ry) hd dd.mapOf ?_;rw [<- (rel.val k).isSome_eq,<- l];exact h _ (I.tok _)
 ·subst ey;cases (show u=C7 b from ry);obtain ⟨z,hd,xs,rel,dd⟩:=qV9 I.hok e;refine wpAny_notIn_heap (B76 hu) (qJL I.hok eb) hd dd ?_;have q:=(rel.val k).isSome_eq;rw [i5] at q;rw [<- q,<- l];exact h _ (I.tok _)
theorem qMH {h':Heap} {t':Nat} {ob:HO} (I:Inv X Ab σ H s) (mu:Mut (H a)) (hs:Heap.SameBut a s.heap h') (he:∃ q,h'.get? a=some q) (new:ObjOk X.prog X.w (Ag H a ob) h' a ob) :
  Inv X Ab σ (Ag H a ob) { s with heap:=h',toks:=t' }:=
 I.write (x:=a) (e:=a) mu (.inl rfl) (fun b q hb z=>(hs.2 b hb).trans z) he new
theorem qVB {H':Hp} {h':Heap} {Af:List (Key × V)} {vs:List (Key × Value)} (z:Af.length<=B28) (hd:(a == B52)=false) (rel:KV Af vs) (dd:h'.DictOf (qB0 P w) a vs) :
  ObjOk P w H' h' a (.dK Af):=⟨z,hd,vs,rel,dd⟩
theorem qVH {H':Hp} {Q:Unit->Shared->Prop} (hu:A.units+1<cLine) (I:Inv X Ab σ H s) (g:DPut H a y v H') (ry:RelV y u) (rv:RelV v r) (h:∀ s',Inv X Ab σ H' s'->Q () s') :
  wpAny (model X.prog X.w) A (setItem (.ref a) u r) Q E s:=by
 rcases g with ⟨Af,k,e,ey,l,eH⟩ | ⟨Af,k,b,e,ey,eb,l,eH⟩
 ·subst ey eH;obtain ⟨z,hd,vs,rel,dd⟩:=qaP I.hok e;have hz:vs.length<=B28:=by rw [<- rel.length];exact z
  have hl:(putK Af k v).length<=B28:=by have:=qC5 Af k v;lia
  refine wpAny_setItem_pairs (hsz:=hz) (qS8 ry) dd fun h' dd' hs=>h _ ?_;have he:∃ q,h'.get? a=some q:=let ⟨q,_,_,hq,_⟩:=dd';⟨q,hq⟩
  exact qMH I (by rw [e];exact U7) hs he (qVB hl hd (rel.put k rv) dd')
 ·subst ey eH;cases (show u=C7 b from ry);obtain ⟨z,hd,xs,rel,dd⟩:=qcP I.hok e;have hz:xs.length<=B28:=by rw [<- B7 rel];exact z
  have hl:(putK Af k v).length<=B28:=by have:=qC5 Af k v;lia
  refine wpAny_setItem_heap (hsz:=hz) (B76 hu) (qJL I.hok eb) dd fun h' dd' hs=>h _ ?_;obtain ⟨q,es,ep,hq,h2,h3,h4,_,h5⟩:=dd';refine qMH I (by rw [e];exact U7) hs ⟨q,hq⟩ ⟨hl,hd,_,(rel.put k eb rv).keeps fun c ys ec=>?_,q,es,ep,hq,h2,h3,h4,h5⟩
  rw [qA9 (qCF ec e (fun z=>nomatch z))];exact ec
end
section
variable {X:Cx} {Ab:Aa2} {σ:St} {H:Hp} {s:Shared} {a:Addr} {Af:List (Key × V)} {k:Key} {u:Value} {A:Around} {E:Aa1}
end
def NoSl (i:Expr):Prop:=∀ ov iv,subscripted i false ov iv=operate [ov,iv] (B92 ov iv)
theorem qZL {env:Env} {value slice:Expr} {pos:Pos} {T id:String} {Q:Aa1} 
  (hl:typeLookup (.type T) "__getitem__" = pure (some (.builtin id))) (hs:NoSl slice)
  (h:wpAny (model prog w) A (eval value env) (fun o s₁=>wpAny (model prog w) A (eval slice env) (fun i s₂=>s₂.TypeIs o T/\wpAny (model prog w) A (B92 o i) Q E s₂) E s₁) E s) :
  wpAny (model prog w) A (eval (.Subscript value slice pos) env) Q E s:=by
 refine Subscript_ (B42 h (fun o s₁ h₁=>B42 h₁ (fun i s₂ h₂=>?_) fun _ _ x=>x) fun _ _ x=>x);obtain ⟨hT,h₂⟩:=h₂;unfold subscriptTail;refine B26 ?_;rw [getitemInPython_of_ne hT.not_modules];refine B26 (wpAny_specialOf hT hl ?_);have fin:wpAny (model prog w) A (subscripted slice false o i) (fun r s₃=>wpAny (model prog w) A (letTemporaryGo value o r >>= fun _=>pure r) Q E s₃) E s₂:=by
  rw [hs o i];exact wpAny_operating (B42 h₂ (fun r s₃ h₃=>B26 (wpAny_letTemporaryGo (B27 h₃))) fun _ _ x=>x)
 first
  | exact B27 (B26 fin)
  | exact B26 (B27 (B26 fin))
  | exact B26 fin
theorem qPG {X:Cx} {Ab:Aa2} {σ:St} {H:Hp} {a:Addr} {y:V} {o:Option V} (I:Inv X Ab σ H s) (g:DGet H a y o):s.TypeIs (.ref a) "dict":=by
 rcases g with ⟨Af,k,e,_,_⟩ | ⟨Af,k,b,e,_,_,_⟩
 ·obtain ⟨_,_,vs,_,dd⟩:=qVA I.hok e;exact dd.typeIs
 ·obtain ⟨_,_,xs,_,dd⟩:=qV9 I.hok e;exact dd.typeIs
def qd7 (td ty:TE):TE:=fun σ H Q=>td σ H fun x H1=>ty σ H1 fun y H2=>∃ a v,x=.ref a/\DGet H2 a y (some v)/\Q v H2
def tDIn (ty td:TE):TE:=fun σ H Q=>ty σ H fun y H1=>td σ H1 fun x H2=>∃ a o,x=.ref a/\DGet H2 a y o/\Q (.bl o.isSome) H2
def qZK (ty td:TE):TE:=fun σ H Q=>ty σ H fun y H1=>td σ H1 fun x H2=>∃ a o,x=.ref a/\DGet H2 a y o/\Q (.bl (!o.isSome)) H2
def qdA (td ty tv:TE):TS:=fun D σ H=>tv σ H fun v H1=>td σ H1 fun x H2=>ty σ H2 fun y H3=>∃ a H4,x=.ref a/\DPut H3 a y v H4/\D.nx σ H4
section
variable {X:Cx} {o i e value:Expr} {pos pos' tpos:Pos} {td ty tv:TE}
theorem qF4 (hu:X.A.units+1<cLine) (ho:PE X o td) (hi:PE X i ty) (hs:NoSl i):PE X (.Subscript o i pos) (qd7 td ty):=by
 intro Ab s σ H Q I h;refine qZL PySem.F.slot_dict_getitem.lookup hs (thn (ho Ab s σ H _ I h) fun u s1 ⟨x,H1,I1,rx,q1⟩=>thn (hi Ab s1 σ H1 _ I1 q1) fun iv s2 ⟨y,H2,I2,ry,a,v,ex,g,q2⟩=>?_);subst ex;obtain rfl:u=C7 a:=rx;exact ⟨qPG I2 g,qVI hu I2 g ry fun w' s3 I3 rw'=>⟨v,H2,I3,rw',q2⟩⟩
theorem qQK (hu:X.A.units+1<cLine) (hi:PE X i ty) (ho:PE X o td):PC X .In i o (tDIn ty td):=by
 intro Ab s σ H Q I h;refine thn (hi Ab s σ H _ I h) fun iv s1 ⟨y,H1,I1,ry,q1⟩=>thn (ho Ab s1 σ H1 _ I1 q1) fun u s2 ⟨x,H2,I2,rx,a,ov,ex,g,q2⟩=>?_;subst ex;obtain rfl:u=C7 a:=rx;exact d_in hu I2 g ry fun s3 I3=>⟨.bl ov.isSome,H2,I3,rfl,q2⟩
theorem qDU (hu:X.A.units+1<cLine) (hi:PE X i ty) (ho:PE X o td):PC X .NotIn i o (qZK ty td):=by
 intro Ab s σ H Q I h;refine thn (hi Ab s σ H _ I h) fun iv s1 ⟨y,H1,I1,ry,q1⟩=>thn (ho Ab s1 σ H1 _ I1 q1) fun u s2 ⟨x,H2,I2,rx,a,ov,ex,g,q2⟩=>?_;subst ex;obtain rfl:u=C7 a:=rx;exact qaR hu I2 g ry fun s3 I3=>⟨.bl (!ov.isSome),H2,I3,rfl,q2⟩
theorem qE7 (hu:X.A.units+1<cLine) (ho:PE X o td) (hi:PE X i ty) (hv:PE X value tv) (hs:swapsWith value (some (.Subscript o i pos')) pos.line X.env=pure false) :
  PS X (.Assign [.Subscript o i pos'] value pos) (qdA td ty tv):=by
 intro Ab s σ H D I h;refine wpAny_Assign_Subscript (thn (hv Ab s σ H _ I h) fun r s1 ⟨v,H1,I1,rv,q1⟩=>thn (ho Ab s1 σ H1 _ I1 q1) fun u s2 ⟨x,H2,I2,rx,q2⟩=>thn (hi Ab s2 σ H2 _ I2 q2) fun iv s3 ⟨y,H3,I3,ry,a,H4,ex,g,q3⟩=>?_) hs;subst ex;obtain rfl:u=C7 a:=rx;exact qVH hu I3 g ry rv fun s4 I4=>⟨σ,H4,I4,q3⟩
end
theorem qR7 {H:Hp} (h:Heap) (hb:B52<h.objs.size):ObjOk P w H (h.push { cls:=.type "dict",data:=.dict #[] }) h.objs.size (.dK []):=
 ⟨E5 _,beq_eq_false_iff_ne.mpr (F2 (C2 hb)),[],.nil,A90 h⟩
theorem qR6 {H:Hp} (h:Heap) (hb:B52<h.objs.size):ObjOk P w H (h.push { cls:=.type "dict",data:=.dict #[] }) h.objs.size (.dT []):=
 ⟨E5 _,beq_eq_false_iff_ne.mpr (F2 (C2 hb)),[],.nil,_,#[],0,A8 _ rfl,⟨rfl,rfl,rfl⟩,rfl,rfl,List.nodup_nil⟩
def qbD:TE:=fun _ H Q=>∀ p,H p=none->Q (.ref p) (Ag H p (.dK []))
def qbC:TE:=fun _ H Q=>∀ p,H p=none->Q (.ref p) (Ag H p (.dT []))
section
variable {X:Cx} {pos:Pos}
theorem qLY:PE X (.Dict [] [] pos) qbD:=fun Ab s σ H Q I h=>
 wpAny_Dict_empty ⟨.ref s.heap.objs.size,_,I.laid (a:=s.heap.objs.size) (o:=.dK []) (t':=s.toks) (fun _ _ q=>A3 _ q) (A6 _) (qR7 s.heap I.big),rfl,h _ (I.hok.fresh (A6 _))⟩
theorem qX3:PE X (.Dict [] [] pos) qbC:=fun Ab s σ H Q I h=>
 wpAny_Dict_empty ⟨.ref s.heap.objs.size,_,I.laid (a:=s.heap.objs.size) (o:=.dT []) (t':=s.toks) (fun _ _ q=>A3 _ q) (A6 _) (qR6 s.heap I.big),rfl,h _ (I.hok.fresh (A6 _))⟩
end
def qT0:List (TE × TE)->St->Hp->(List (V × V)->Hp->Prop)->Prop
 | [],_,H,Q=>Q [] H
 | (tk,tv)::r,σ,H,Q=>tk σ H fun x H1=>tv σ H1 fun y H2=>qT0 r σ H2 fun ps H3=>Q ((x,y)::ps) H3
abbrev VV:List (V × V)->List (Value × Value)->Prop:=Paired fun p q=>RelV p.1 q.1/\RelV p.2 q.2
def PPs (X:Cx) (pos:Pos) (keys:List (Option Expr)) (values:List Expr) (trs:List (TE × TE)):Prop:=
 ∀ (Ab:Aa2) (s:Shared) (σ:St) (H:Hp) (Q:List (V × V)->Hp->Prop),Inv X Ab σ H s->qT0 trs σ H Q->
  wpAny (model X.prog X.w) X.A (evalPairs (pairTrees keys values X.env pos)) (fun vs s'=>∃ ps H',Inv X Ab σ H' s'/\VV ps vs/\Q ps H') X.xe s
theorem qTH {X:Cx} {pos:Pos} :PPs X pos [] [] []:=fun Ab s σ H Q I h=>pairTrees_nil_walk ⟨[],H,I,.nil,h⟩
theorem qLW {X:Cx} {pos:Pos} {k v:Expr} {ks:List (Option Expr)} {vs:List Expr} {tk tv:TE} {trs:List (TE × TE)} (hk:PE X k tk) (hv:PE X v tv) (hr:PPs X pos ks vs trs) :
  PPs X pos (some k::ks) (v::vs) ((tk,tv)::trs):=fun Ab s σ H Q I h=>
 pairTrees_cons_walk (thn (hk Ab s σ H _ I h) fun u s1 ⟨x,H1,I1,rx,q1⟩=>thn (hv Ab s1 σ H1 _ I1 q1) fun w2 s2 ⟨y,H2,I2,ry,q2⟩=>
  thn (hr Ab s2 σ H2 _ I2 q2) fun ws s3 ⟨ps,H3,I3,rel,q3⟩=>⟨(x,y)::ps,H3,I3,.cons ⟨rx,ry⟩ rel,q3⟩)
def qG3 (Af more:List (Key × V)):List (Key × V):=more.foldl (fun acc kv=>putK acc kv.1 kv.2) Af
theorem KV.merge:∀ {more:List (Key × V)} {rs:List (Key × Value)} {Af:List (Key × V)} {vs:List (Key × Value)},KV more rs->KV Af vs->KV (qG3 Af more) (merged vs rs):=by
 intro more rs Af vs r;unfold KV at r
 induction r generalizing Af vs with
 | nil=>intro q;exact q
 | @cons p q ps qs h t ih=>
  intro r0;have e:KV (putK Af p.1 p.2) (stored vs q.1 q.2):=by
   have:=r0.put p.1 h.2;rw [<- h.1];exact this
  exact ih e
theorem qH0:∀ (more Af:List (Key × V)),(qG3 Af more).length<=Af.length+more.length
 | [],Af=>by show Af.length<=Af.length+0;lia
 | p::r,Af=>by
  have h1:=qH0 r (putK Af p.1 p.2);have h2:=qC5 Af p.1 p.2;show (qG3 (putK Af p.1 p.2) r).length<=_;rw [E2];lia
theorem qLB :∀ {Af:List (Key × V)} {ws:List (Value × Value)},VV (Af.map fun kv=>(kV kv.1,kv.2)) ws->∃ rs,Carries (qB0 P w) ws rs/\KV Af rs
 | [],_,r=>by rw [p8] at r;cases r;exact ⟨[],U7,.nil⟩
 | p::Af,_,r=>by
  rw [D0] at r;cases r with
  | @cons a b as bs h t=>
   obtain ⟨rs,c,q⟩:=qLB (P:=P) (w:=w) t;obtain ⟨b1,b2⟩:=b;exact ⟨(p.1,b2)::rs,⟨qS8 h.1,rfl,c⟩,.cons ⟨rfl,h.2⟩ q⟩
def qd6 (trs:List (TE × TE)):TE:=fun σ H Q=>∀ p,H p=none->qT0 trs σ (Ag H p (.dK [])) fun ps H2=>H2 p=some (.dK [])/\∃ Af:List (Key × V),ps=Af.map (fun kv=>(kV kv.1,kv.2))/\Af.length<=15/\Q (.ref p) (Ag H2 p (.dK (qG3 [] Af)))
theorem qTS {X:Cx} {pos:Pos} {keys:List (Option Expr)} {values:List Expr} {trs:List (TE × TE)} (h:PPs X pos keys values trs) (hall:keys.all (·.isSome)=true) (hl:keys.length=values.length) (h0:keys ≠ [])
  (h15:keys.length<=15):PE X (.Dict keys values pos) (qd6 trs):=by
 intro Ab s σ H Q I q;have hn:=I.hok.fresh (A6 s.heap.objs.size);have I1:=I.laid (a:=s.heap.objs.size) (o:=.dK []) (h':=s.heap.push { cls:=.type "dict",data:=.dict #[] }) (t':=s.toks) (fun _ _ q=>A3 _ q) (A6 _) (qR7 s.heap I.big);refine wpAny_Dict_walk (knd:=qB0 X.prog X.w) hall hl h0 h15 (thn (h Ab _ σ _ _ I1 (q _ hn)) fun ws s2 ⟨ps,H2,I2,rel,e,Af,ep,lk,q2⟩=>?_);subst ep;obtain ⟨rs,c,rk⟩:=qLB (P:=X.prog) (w:=X.w) rel;obtain ⟨z,hd,vs0,r0,dd⟩:=qaP I2.hok e;cases r0;refine ⟨rs,c,dd,fun h' dd' hs=>⟨.ref s.heap.objs.size,_,?_,rfl,q2⟩⟩;have hz:(qG3 [] Af).length<=B28:=by
  have h1:=qH0 Af [];rw [L5] at h1;rw [B39];lia
 have he:∃ q,h'.get? s.heap.objs.size=some q:=let ⟨q,_,_,hq,_⟩:=dd';⟨q,hq⟩
 exact qMH I2 (by rw [e];exact U7) hs he (qVB hz hd (rk.merge .nil) dd')
structure M1 (X:Cx) (o:Expr) (m:Str) (apos:Pos) (e:Expr) (cpos:Pos):Prop where
 base:B99 o m X.env (eval o X.env)=eval o X.env
 few:((backTo cpos (B35 [e] X.env)).all (fun x=>!x.1) && (backToKw cpos (B97 [] X.env)).all (fun x=>x.1.isSome)
  && decide (([e]:List Expr).length+([]:List B91).length+(if ([]:List B91).isEmpty then 0 else 1)<30))=true
 line:(apos.endLine == cpos.line)=true
 trees:backTo cpos (B35 [e] X.env)=[(false,eval e X.env)]
structure M2 (X:Cx) (o:Expr) (m:Str) (apos:Pos) (e f:Expr) (cpos:Pos):Prop where
 base:B99 o m X.env (eval o X.env)=eval o X.env
 few:((backTo cpos (B35 [e,f] X.env)).all (fun x=>!x.1) && (backToKw cpos (B97 [] X.env)).all (fun x=>x.1.isSome)
  && decide (([e,f]:List Expr).length+([]:List B91).length+(if ([]:List B91).isEmpty then 0 else 1)<30))=true
 line:(apos.endLine == cpos.line)=true
 trees:backTo cpos (B35 [e,f] X.env)=[(false,eval e X.env),(false,eval f X.env)]
section
variable {X:Cx} {Ab:Aa2} {σ:St} {H:Hp} {s:Shared} {a:Addr} {y d:V} {u r:Value} {o:Option V} {A:Around} {E:Aa1}
end
section
variable {X:Cx} {o e f:Expr} {apos cpos:Pos} {td ty tx:TE}
end
section
variable {X:Cx} {Ab:Aa2} {σ:St} {H:Hp} {s:Shared} {a:Addr} {Af:List (Key × V)} {A:Around} {E:Aa1}
end
section
variable {X:Cx} {Ab:Aa2} {σ:St} {H:Hp} {s:Shared} {a:Addr} {y:V} {u:Value} {A:Around} {E:Aa1}
end
section
variable {X:Cx}
end
section
variable {κ:Type} [DecidableEq κ]
theorem qJG:∀ {l:List κ} {k:κ},l.Nodup->¬ k ∈ l->(l++[k]).Nodup
 | [],k,_,_=>by simp
 | a::r,k,h,hk=>by
  obtain ⟨h1,h2⟩:=U8.mp h;show (a::(r++[k])).Nodup;refine U8.mpr ⟨fun m=>?_,qJG h2 fun m=>hk (C1.mpr (l7 m))⟩;rcases B3.mp m with q | q
  ·exact h1 q
  ·exact hk (C1.mpr (E9 (A7.mp q).symm))
end
def noX:Aa1:=fun _ _=>False
def qHF (env:Env):List (Str × B82)->List (Str × Addr)->List (Str × Addr)
 | [],acc=>acc
 | (n,k)::r,acc=>qHF env r (if (k == G9)=true then (n,(env.cells.lookup n).getD 0)::acc else acc)
theorem qFF {env:Env} :∀ {names:List (Str × B82)} {acc:List (Str × Addr)},(∀ x,(x,G9) ∈ names->∃ c,env.cells.lookup x=some c)->(∀ x c,acc.lookup x=some c->env.cells.lookup x=some c)->
  ∀ x c,(qHF env names acc).lookup x=some c->env.cells.lookup x=some c
 | [],acc,_,ha,x,c,h=>ha x c h
 | (n,k)::r,acc,hf,ha,x,c,h=>by
  refine qFF (names:=r) (fun y hy=>hf y (C3 _ hy)) (fun y d hd=>?_) x c h
  split at hd
  ·rename_i hk
   have hk':k=G9:=by simpa using hk
   subst hk';obtain ⟨e,he⟩:=hf n F4;by_cases hyn:y=n
   ·subst hyn;rw [O8,he] at hd;rw [he];exact hd
   ·rw [Y9,beq_eq_false_iff_ne.mpr hyn] at hd;exact ha y d hd
  ·exact ha y d hd
theorem qFG {env:Env} :∀ {names:List (Str × B82)} {acc:List (Str × Addr)} {x:Str},((x,G9) ∈ names\/∃ c,acc.lookup x=some c)->∃ c,(qHF env names acc).lookup x=some c
 | [],acc,x,h=>by
  rcases h with h | h
  ·exact absurd h (by simp)
  ·exact h
 | (n,k)::r,acc,x,h=>by
  refine qFG (names:=r) ?_;rcases h with h | ⟨c,h⟩
  ·rcases C1.mp h with e | h
   ·cases e;refine .inr ⟨(env.cells.lookup n).getD 0,?_⟩;rw [if_pos (by rfl),O8]
   ·exact .inl h
  ·refine .inr ?_
   split
   ·by_cases hyn:x=n
    ·subst hyn;exact ⟨_,O8⟩
    ·refine ⟨c,?_⟩;rw [Y9,beq_eq_false_iff_ne.mpr hyn];exact h
   ·exact ⟨c,h⟩
theorem qK3 {env:Env} (f:Str × B82->List (Str × Addr)->Sem (ForInStep (List (Str × Addr))))
  (hf:∀ n k c,f (n,k) c=(if (k == G9)=true then (do let a <- cellOf env n;pure (L6 ((n,a)::c))) else pure (L6 c))) :
  ∀ (names:List (Str × B82)) (acc:List (Str × Addr)),(∀ x,(x,G9) ∈ names->∃ c,env.cells.lookup x=some c)->forIn names acc f=(pure (qHF env names acc):Sem _)
 | [],acc,_=>rfl
 | (n,k)::r,acc,h=>by
  have ih:=fun acc=>qK3 f hf r acc fun x hx=>h x (C3 _ hx);rw [O9,hf];by_cases hk:(k == G9)=true
  ·have hk':k=G9:=by simpa using hk
   subst hk';obtain ⟨c,hc⟩:=h n F4;rw [if_pos hk];unfold cellOf qHF;rw [hc,if_pos hk];exact ih _
  ·rw [if_neg hk];unfold qHF;rw [if_neg hk];exact ih _
theorem qHV {scope:Scope} {env:Env} (h:∀ x,(x,G9) ∈ scope.names->∃ c,env.cells.lookup x=some c):closureFor scope env=pure (qHF env scope.names []):=by
 unfold closureFor;dsimp only;rw [qK3 (env:=env) _ (fun n k c=>?_) scope.names [] h]
 ·rfl
 ·rfl
theorem qDM {env:Env} {x:Str} :∀ {names:List (Str × B82)},
  (names.map fun (n,k)=>if (k == G9 && env.scope.kind == .function && env.kindOf n == some .cell)=true then (n,B09) else (n,k)).lookup x =
   (names.lookup x).map fun k=>if (k == G9 && env.scope.kind == .function && env.kindOf x == some .cell)=true then B09 else k
 | []=>rfl
 | (n,k)::r=>by
  have ih:=@qDM env x r;rw [D0];by_cases hx:x=n
  ·subst hx;dsimp only;rw [O8 (b:=k),Q8]
   split
   ·rw [O8]
   ·rw [O8]
  ·have hb:(x == n)=false:=beq_eq_false_iff_ne.mpr hx;dsimp only;rw [Y9 (k:=n) (b:=k),hb];dsimp only;rw [<- ih]
   split
   ·rw [Y9,hb]
   ·rw [Y9,hb]
structure LcZ where
 L:Addr
 cl:List (Str × Addr)
 ex:List Addr
 s₀:Shared
 H₀:Hp
def lcCx (X:Cx) (scope:Scope) (own:List Str) (fv:List Nat) (z:LcZ):Cx where
 prog:=X.prog
 w:=X.w
 K:=X.K
 mg:=X.mg
 base:=X.base
 A:=X.A
 N:=own++fv.map fun i=>X.N.getD i P2
 s₀:=z.s₀
 H₀:=z.H₀
 env:=compEnvC scope z.cl z.L X.env
 outer:=X.stack
 stack:=X.stack
 ex:=z.ex
 fn:=fun _=>false
 calm:=X.calm
 pn:=[]
 xe:=noX
structure LcScope (X:Cx) (scope:Scope) (own:List Str) (fv:List Nat):Prop where
 kind:scope.kind=.function
 nocell:∀ y ∈ scope.names,y.2 ≠ .cell
 names:∀ y ∈ scope.names,y.2=.local->scope.names.lookup y.1=some .local
 free:∀ y ∈ scope.names,y.2=.free->X.env.kindOf y.1=some .cell\/X.env.kindOf y.1=some .free
 nd:(own++fv.map fun i=>X.N.getD i P2).Nodup
 fvs:∀ i ∈ fv,i<X.N.length/\scope.names.lookup (X.N.getD i P2)=some .free
def qJK (own:List Str) (fv:List Nat) (σ:St):St:=(own.map fun _=>none)++fv.map fun i=>(σ[i]?).join
theorem qNY {R:Result->Shared->Prop} {elt target iter:Expr} {ifs:List Expr} {scope:Scope} {pos:Pos} {it acc:Value} {env:Env} (I:Nat->Shared->Prop)
  (turn:∀ n s,I n s->wpAny (model prog w) A (pyNext it) (fun r s₁=>match r with
   | none=>R (.ok .next) s₁
   | some v=>wpAny (model prog w) A (C08 target it v) (fun _ s₁=>wpAny (model prog w) A (assign target env v) (fun _ s₂=>
     wpAny (model prog w) A (forIn ifs true fun c r=>if r=true then do let ok <- isTrue c env (eval c env);pure (L6 ok) else pure (L6 r)) (fun ok s₃=>
      if ok=true then wpAny (model prog w) A (eval elt env) (fun x s₄=>
       wpAny (model prog w) A (call (.builtin "list.append") [acc,x]) (fun _ s₅=>∃ m,m<n/\I m s₅) noX s₄) noX s₃
      else ∃ m,m<n/\I m s₃) noX s₂) noX s₁) noX s₁) noX s)
  (n:Nat) (h:I n s) :
  B64 (model prog w) A (.compLoop (.ListComp elt [⟨target,iter,ifs,0⟩] scope pos) 0 it acc env) R s:=by
 refine codeAny_loop rfl I (fun n s hI=>?_) n h;show wpAny _ A ((compTurn (.ListComp elt [⟨target,iter,ifs,0⟩] scope pos) 0 it acc env).onRaise (fun x=>do noteFrame x env;theTreesLotGoes x)) _ _ s
 refine wpAny_noted ?_;rw [compTurn_list];refine B26 (B98 (B26 (B42 (turn n s hI) (fun r s₁ h₁=>?_) fun _ _ h'=>h'.elim)));cases r with
 | none=>exact B27 h₁
 | some v=>
  refine B26 (B42 h₁ (fun _ s₁ h₁=>?_) fun _ _ h'=>h'.elim);refine B26 (B42 h₁ (fun _ s₂ h₂=>B26 (B42 h₂ (fun ok s₃ h₃=>?_) fun _ _ h'=>h'.elim)) fun _ _ h'=>h'.elim);cases ok with
  | false=>exact B27 ⟨rfl,h₃⟩
  | true=>
   exact B26 (B26 (B42 h₃ (fun x s₄ h₄=>B26 (B42 h₄ (fun _ s₅ h₅=>B27 (B27 ⟨rfl,h₅⟩)) fun _ _ h'=>h'.elim)) fun _ _ h'=>h'.elim))
section
variable {X:Cx} {Ab:Aa2} {σ:St} {H:Hp} {s:Shared}
theorem Inv.other {h':Heap} {L:Addr} {n:Nat} (I:Inv X Ab σ H s) (hb:X.s₀.heap.objs.size<=L) (h0:H L=none) (h1:L ≠ X.env.locals) (h2:∀ x c,X.env.cells.lookup x=some c->c ≠ L) (h3:∀ p ∈ X.pn++Ab,p.1 ≠ L)
  (k:Heap.SameBut L s.heap h'):Inv X Ab σ H { s with heap:=h' }:=
 I.turned (t':=s.toks) (fun b o hb e=>(k.2 b hb).trans e) h0 h1 (.inr hb) h2 h3
theorem qc4 {scope:Scope} {own:List Str} {fv:List Nat} {fp:List Addr} (I:Inv X Ab σ H s) (S:LcScope X scope own fv) (hf:∀ b ∈ fp,FpOk X Ab H b) (hsz:∀ b ∈ fp,b<s.heap.objs.size) :
  (lcCx X scope own fv ⟨s.heap.objs.size,qHF X.env scope.names [],fp,s,H⟩).Ok:=by
 have hfr:∀ x,(x,G9) ∈ scope.names->∃ c,X.env.cells.lookup x=some c:=fun x hx=>I.ok.has x (S.free _ hx rfl);have sub:=qFF (env:=X.env) (names:=scope.names) (acc:=[]) hfr (fun x c z=>by simp at z)
 refine ⟨I.ok.mod,S.kind,I.ok.glob,I.ok.blt,A6 _,fun x y c h1 h2=>I.ok.inj x y c (sub _ _ h1) (sub _ _ h2),fun x hx=>?_,fun x c hx=>?_,I.ok.hd,I.ok.frames,.inl rfl,fun b hb=>⟨?_,fun x c e=>?_⟩,I.bs,F6 I.ok.bsz I.sz,fun b o e hb=>?_,fun b hb hb'=>?_,I.stack,I.stkFree⟩
 ·refine qFG (.inl ?_);have hx':(relabel scope X.env).names.lookup x=some .cell\/(relabel scope X.env).names.lookup x=some .free:=hx;unfold relabel at hx';rw [qDM] at hx';cases e:scope.names.lookup x with
  | none=>rw [e] at hx';simp at hx'
  | some k=>
   have hm:=G8 e;have nc:=S.nocell _ hm;rw [e] at hx';simp only [Q8,Option.some.injEq] at hx';cases k with
   | free=>exact hm
   | cell=>exact absurd rfl nc
   | _=>simp at hx'
 ·cases hx
 ·exact C2 (hsz b hb)
 ·exact (hf b hb).2.2.2.2.1 x c (sub _ _ e)
 ·rcases (hf b hb).2.2.2.1 with z | z
  ·exact I.ok.noex b o e z
  ·exact absurd (D6 (A9 (I.ok.bs b o e).1) z) (Q0 _)
 ·rcases C1.mp (I.stkSub b hb') with z | z
  ·exact (hf b hb).2.1 z
  ·exact (hf b hb).2.2.1 z
theorem qXB {scope:Scope} {own:List Str} {fv:List Nat} {fp:List Addr} {h₁:Heap} {tk:Nat} (I:Inv X Ab σ H s) (S:LcScope X scope own fv) (hf:∀ b ∈ fp,FpOk X Ab H b) (hsz:∀ b ∈ fp,b<s.heap.objs.size)
  (hns:h₁.Ns s.heap.objs.size (fun _=>none)) (hk:∀ b o,s.heap.get? b=some o->h₁.get? b=some o) :
  Inv (lcCx X scope own fv ⟨s.heap.objs.size,qHF X.env scope.names [],fp,s,H⟩) [] (qJK own fv σ) H { s with heap:=h₁,toks:=tk }:=by
 have hfr:∀ x,(x,G9) ∈ scope.names->∃ c,X.env.cells.lookup x=some c:=fun x hx=>I.ok.has x (S.free _ hx rfl);have sub:=qFF (env:=X.env) (names:=scope.names) (acc:=[]) hfr (fun x c z=>by simp at z)
 refine ⟨qc4 I S hf hsz,rfl,I.bare,Un.kept hk,⟨_,hns,fun i x v h1 h2 h3=>?_⟩,fun x c e=>?_,I.hok.fresh (A6 _),fun x c e=>I.freeC x c (sub _ _ e),fun p hp=>absurd (show p ∈ ([]:Aa2) from hp) (by simp),I.hok.kept hk,?_⟩
 ·have h1:(own++fv.map fun i=>X.N.getD i P2)[i]?=some x:=h1;unfold qJK at h2;have hi:own.length<=i:=by
   apply Y8;intro hi;rw [J3 (by simpa using hi),B6] at h2
   cases e:own[i]? with
   | none=>rw [e] at h2;cases h2
   | some z=>rw [e] at h2;cases h2
  rw [G0 (by simpa using hi),A0,B6] at h2
  rw [G0 hi,B6] at h1;cases e:fv[i - own.length]? with
  | none=>rw [e] at h1;cases h1
  | some j=>
   rw [e] at h1 h2;have hj:=S.fvs j (B5 e);have h1:X.N.getD j P2=x:=D7 h1;have h2:(σ[j]?).join=some v:=D7 h2;have h2':σ[j]?=some (some v):=by
    cases q:σ[j]? with
    | none=>rw [q] at h2;cases h2
    | some y=>rw [q] at h2;exact congrArg some h2
   have hx:X.N[j]?=some x:=by
    rw [R4] at h1;rw [A5 hj.1] at h1 ⊢;exact congrArg some h1
   have hlk:scope.names.lookup x=some .free:=h1 ▸ hj.2;have hmem:=G8 hlk;obtain ⟨m,hn,hl⟩:=id I.loc;have hkd:=S.free _ hmem rfl;obtain ⟨u,ru,lk⟩:=hl j x v hx h2' (by
    rcases hkd with z | z
    ·exact .inr (.inl z)
    ·exact .inr (.inr z))
   refine ⟨u,ru,?_⟩;rcases lk with ⟨z,_⟩ | ⟨_,c,e1,z⟩
   ·rcases hkd with y | y
    ·have y':X.env.kindOf x=some .cell:=y;rw [z] at y';cases y'
    ·have y':X.env.kindOf x=some .free:=y;rw [z] at y';cases y'
   ·obtain ⟨c',e2⟩:=qFG (env:=X.env) (names:=scope.names) (acc:=[]) (x:=x) (.inl hmem);have e3:=sub _ _ e2;rw [e1] at e3;cases e3;obtain ⟨o,ho,hd⟩:=z;refine .inr ⟨?_,c,e2,o,hk _ _ ho,hd⟩;show (relabel scope X.env).names.lookup x=some .cell\/(relabel scope X.env).names.lookup x=some .free;unfold relabel;rw [qDM,hlk,Q8]
    split
    ·exact .inl rfl
    ·exact .inr rfl
 ·obtain ⟨v,o,ho,hd⟩:=I.cell x c (sub _ _ e);exact ⟨v,o,hk _ _ ho,hd⟩
 ·unfold qJK;show _=(own++fv.map fun i=>X.N.getD i P2).length;rw [B0,B0,A0,A0,A0]
theorem qaB {scope:Scope} {own:List Str} {fv:List Nat} {fp:List Addr} {pins':Aa2} {σ':St} {H':Hp} {cl:List (Str × Addr)} (I:Inv X Ab σ H s) (hf:∀ b ∈ fp,FpOk X Ab H b)
  (J:Inv (lcCx X scope own fv ⟨s.heap.objs.size,cl,fp,s,H⟩) pins' σ' H' s'):Inv X Ab σ H' s':=
 I.call' (ch:=fp) J.os J.base J.hok J.bare fun b hb=>⟨(hf b hb).2.2.2.1,(hf b hb).2.1,(hf b hb).2.2.2.2.1,(hf b hb).2.2.2.2.2⟩
end
def PTs (X:Cx) (ifs:List Expr) (t:TT):Prop:=
 ∀ (Ab:Aa2) (s:Shared) (σ:St) (H:Hp) (Q:Bool->Hp->Prop),Inv X Ab σ H s->t σ H Q->
  wpAny (model X.prog X.w) X.A (forIn ifs true fun c r=>if r=true then do let ok <- isTrue c X.env (eval c X.env);pure (L6 ok) else pure (L6 r)) (TP X Ab σ Q) X.xe s
def qcY:TT:=fun _ H Q=>Q true H
theorem qAZ {X:Cx} :PTs X [] qcY:=fun Ab s σ H Q I h=>wpAny_tests_nil ⟨H,I,h⟩
theorem qD5 {X:Cx} {c:Expr} {t:TT} (h:PT X c t):PTs X [c] t:=fun Ab s σ H Q I hq=>wpAny_tests_one (h Ab s σ H Q I hq)
def qc5 (own:List Str) (fv:List Nat) (wi:TI) (g:TG) (tc:TT) (te:TE) (K:Addr->Hp->Prop):St->Hp->Prop:=fun σ H=>wi σ H fun J H1=>∀ p,H1 p=none->
 ∃ W:Nat->Nat->St->Hp->Prop,(∃ m,W 0 m (qJK own fv σ) (Ag H1 p (.lst [])))/\∀ i m σ H,W i m σ H->
  (J.stop i H/\K p H)\/(J.go i H/\∃ N:St->Hp->Prop,(∀ σ' H',N σ' H'->∃ m',m'<m/\W (i+1) m' σ' H')/\∀ x H',J.yld i H x H'->g x σ H' fun σ2 H2=>tc σ2 H2 fun b H3=>
   if b=true then te σ2 H3 fun y H4=>∃ ys,H4 p=some (.lst ys)/\ys.length<B28/\N σ2 (Ag H4 p (.lst (ys++[y])))
   else N σ2 H3)
def tLc (own:List Str) (fv:List Nat) (wi:TI) (g:TG) (tc:TT) (te:TE):TE:=fun σ H Q=>qc5 own fv wi g tc te (fun p H'=>Q (.ref p) H') σ H
section
variable {X:Cx} {tg iter elt:Expr} {ifs:List Expr} {scope:Scope} {pos:Pos} {own:List Str} {fv:List Nat} {wi:TI} {g:TG} {tc:TT} {te:TE}
theorem qU9 {Ab:Aa2} {σ:St} {H:Hp} {K:Addr->Hp->Prop} {use:Option (Value->Sem Unit)} {Q:Aa1} (hc:X.calm=true) (S:LcScope X scope own fv) (hi:PI X tg iter wi)
  (hg:∀ z,PG (lcCx X scope own fv z) tg g) (ht:∀ z,PTs (lcCx X scope own fv z) ifs tc) (he:∀ z,PE (lcCx X scope own fv z) elt te)
  (I:Inv X Ab σ H s) (h:qc5 own fv wi g tc te K σ H) (hxe:∀ e s,X.xe e s->E e s)
  (fin:∀ (p:Addr) (L:Addr) (H':Hp) (s':Shared) (m:Ab0),Inv X Ab σ H' s'->K p H'->s'.heap.Ns L m->X.s₀.heap.objs.size<=L->H' L=none->L ≠ X.env.locals->(∀ x c,X.env.cells.lookup x=some c->c ≠ L)->(∀ q ∈ X.pn++Ab,q.1 ≠ L)->
   compPost (model X.prog X.w) X.A E use Q (.ref p) L (.ok .next) s') (hs:∀ x,B95 iter X.env x=pure x:=by intro _;rfl) :
  wpAny (model X.prog X.w) X.A (comprehension (.ListComp elt [⟨tg,iter,ifs,0⟩] scope pos) scope X.env (firstIterPos [⟨tg,iter,ifs,0⟩] pos) (newList []) false (eval iter X.env) use) Q E s:=by
 have hfr:∀ x,(x,G9) ∈ scope.names->∃ c,X.env.cells.lookup x=some c:=fun x hx=>I.ok.has x (S.free _ hx rfl);refine wpAny_comprehension_free rfl hs (qHV hfr) S.kind S.names (B42 (hi Ab s σ H _ I h) (fun v s1 h1=>B42 h1 (fun itv s2 h2=>?_) hxe) hxe);obtain ⟨it,fp,tn,J,H2,e,I2,T,st2,f2,q2⟩:=h2;subst e
 -- the list
 refine B36 ?_;have fresh2:H2 s2.heap.objs.size=none:=I2.hok.fresh (A6 _);have I3:Inv X Ab σ (Ag H2 s2.heap.objs.size (.lst [])) { s2 with heap:=s2.heap.push { cls:=.type "list",dict:=none,data:=.seq ([]:List Value).toArray } }:=
  I2.laid (t':=s2.toks) (fun b u e=>A3 _ e) (A6 _) ⟨E5 _,[],0,.nil,A8 _ rfl⟩
 obtain ⟨W,⟨m0,w0⟩,turn⟩:=q2 s2.heap.objs.size fresh2;have lt2:∀ b ∈ fp,b<s2.heap.objs.size:=fun b hb=>by
  obtain ⟨o,e,_⟩:=T.obj 0 _ st2 b hb;exact A9 e
 have f3:∀ b ∈ fp,FpOk X Ab (Ag H2 s2.heap.objs.size (.lst [])) b:=fun b hb=>⟨by rw [qA9 (C2 (lt2 b hb))];exact (f2 b hb).1,(f2 b hb).2⟩
 generalize hp:s2.heap.objs.size=p at *;generalize hH3:Ag H2 p (.lst [])=H3 at *;have st3:tn 0 (s2.heap.push { cls:=.type "list",dict:=none,data:=.seq ([]:List Value).toArray }):=T.keep _ _ _ st2 fun b _ o e=>A3 _ e;have lt3:∀ b ∈ fp,b<(s2.heap.push { cls:=.type "list",dict:=none,data:=.seq ([]:List Value).toArray }).objs.size:=fun b hb=>by
  rw [L7];have:=lt2 b hb;rw [hp];exact V1 this
 generalize hs3:({ s2 with heap:=s2.heap.push { cls:=.type "list",dict:=none,data:=.seq ([]:List Value).toArray } }:Shared)=s3 at *;have st3':tn 0 s3.heap:=by rw [<- hs3];exact st3
 have lt3':∀ b ∈ fp,b<s3.heap.objs.size:=by rw [<- hs3];exact lt3
 -- the block's frame
 refine wpAny_newFunctionEnv S.nocell (by intro y hy;simp at hy) (fun h₁ hns₁ hsb₁=>?_) S.kind
 have keep1:∀ b o,s3.heap.get? b=some o->h₁.get? b=some o:=fun b o e=>hsb₁.extBut b o (C2 (A9 e)) (A3 _ e);have J0:Inv (lcCx X scope own fv ⟨s3.heap.objs.size,qHF X.env scope.names [],fp,s3,H3⟩) [] (qJK own fv σ) H3 { s3 with heap:=h₁,toks:=s3.toks+([]:List (Str × Value)).length }:=qXB I3 S f3 lt3' hns₁ keep1;have cOk:=qc4 I3 S f3 lt3';generalize hz:(⟨s3.heap.objs.size,qHF X.env scope.names [],fp,s3,H3⟩:LcZ)=z at *;have st4:tn 0 h₁:=T.keep _ _ _ st3' fun b _ o e=>keep1 b o e;have fr4:∀ b ∈ fp,H3 b=none:=fun b hb=>(f3 b hb).1;have stat:∀ {H':Hp},(∀ b ∈ fp,H' b=none)->∀ b ∈ fp,FpOk (lcCx X scope own fv z) [] H' b:=fun hn b hb=>by
  subst hz;refine ⟨hn b hb,(cOk.exf b hb).1,cOk.exfs b hb,.inl hb,(cOk.exf b hb).2,fun q hq=>absurd (show q ∈ ([]:Aa2) from hq) (by simp)⟩
 have envE:({ newEnv scope s3.heap.objs.size X.env.globals (qHF X.env scope.names []) X.env.qual none .none (some X.env) C06 with scope:=relabel scope X.env }:Env)=(lcCx X scope own fv z).env:=by
  subst hz
  rfl
 have loop:∀ sA:Shared,sA={ s3 with heap:=h₁,toks:=s3.toks+([]:List (Str × Value)).length }->B64 (model X.prog X.w) X.A (.compLoop (.ListComp elt [⟨tg,iter,ifs,0⟩] scope pos) 0 (.ref it) (.ref p) (lcCx X scope own fv z).env)
   (compPost (model X.prog X.w) X.A E use Q (.ref p) s3.heap.objs.size) sA:=by
  rintro sA rfl;refine qNY (fun n s'=>∃ i σ' H',Inv (lcCx X scope own fv z) [] σ' H' s'/\tn i s'.heap/\(∀ b ∈ fp,H' b=none)/\W i n σ' H') ?_ m0 ⟨0,_,H3,J0,st4,fr4,w0⟩;rintro n s4 ⟨i,σ4,H4,I4,st4,fr4,w4⟩;rcases turn i n σ4 H4 w4 with ⟨stop,qn⟩ | ⟨go,Nx,hNx,step⟩
  ·refine thn (T.done (lcCx X scope own fv z) rfl rfl rfl hc i [] s4 σ4 H4 noX I4 (stat fr4) st4 stop) fun r s5 ⟨hr,I5⟩=>?_;subst hr;subst hz;have I6:Inv X Ab σ H4 s5:=qaB I3 f3 I5;obtain ⟨m,hn,_⟩:=id I5.loc;have fpL:=I3.fpOk (H':=H4) (b:=s3.heap.objs.size) (A6 _) I5.free;refine fin p s3.heap.objs.size H4 s5 m I6 qn hn I3.sz fpL.1 fpL.2.1 fpL.2.2.2.2.1 fpL.2.2.2.2.2
  ·refine thn (T.item (lcCx X scope own fv z) rfl rfl rfl hc i [] s4 σ4 H4 noX I4 (stat fr4) st4 go) fun r s5 ⟨u,hr,h5⟩=>?_;subst hr;refine thn h5 fun _ s6 ⟨x,H6,I6,r6,y6,st6,fr6⟩=>?_;have I6':=I6.pinned (stat fr6) (T.obj _ _ st6);have again:∀ {σ7:St} {H7:Hp} {s7:Shared} {m':Nat},m'<n->Inv (lcCx X scope own fv z) ([]++qN8 fp s6.heap) σ7 H7 s7->W (i+1) m' σ7 H7->
     ∃ m,m<n/\∃ i σ' H',Inv (lcCx X scope own fv z) [] σ' H' s7/\tn i s7.heap/\(∀ b ∈ fp,H' b=none)/\W i m σ' H':=fun {σ7 H7 s7 m'} hm I7 w7=>by
    refine ⟨m',hm,i+1,σ7,H7,I7.unpinned,T.keep _ _ _ st6 fun b hb o e=>(I7.pin (b,o) (F7 _ (F7 _ (qFS hb e)))).1,fun b hb=>?_,w7⟩;obtain ⟨o,e,d⟩:=T.obj _ _ st6 b hb;exact (I7.pin (b,o) (F7 _ (F7 _ (qFS hb e)))).2.1
   refine thn (hg z _ s6 σ4 H6 x u _ I6' r6 (step x H6 y6)) fun _ s7 ⟨σ7,H7,I7,q7⟩=>?_;refine thn (ht z _ s7 σ7 H7 _ I7 q7) fun b s8 ⟨H8,I8,q8⟩=>?_;cases b with
   | false=>
    obtain ⟨m',hm,w8⟩:=hNx _ _ q8;exact again hm I8 w8
   | true=>
    refine thn (he z _ s8 σ7 H8 _ I8 q8) fun v s9 ⟨y,H9,I9,r9,ys,ep,hl,w9⟩=>?_;refine thn (qD7 (X:=lcCx X scope own fv z) _ s9 σ7 H9 (.ref p) [y] (.ref p) [v] (fun _ H'=>Nx σ7 H') I9 rfl (.cons r9 .nil) ⟨p,ys,y,rfl,rfl,ep,hl,w9⟩) fun _ s10 ⟨_,H10,I10,_,q10⟩=>?_;obtain ⟨m',hm,w10⟩:=hNx _ _ q10;exact again hm I10 w10
 rw [envE];exact codeAny_compStart_list (loop _ rfl) (T.self _ _ _ _ _ st4 (loop _ rfl))
theorem qCB (hc:X.calm=true) (S:LcScope X scope own fv) (hi:PI X tg iter wi) (hg:∀ z,PG (lcCx X scope own fv z) tg g) (ht:∀ z,PTs (lcCx X scope own fv z) ifs tc) (he:∀ z,PE (lcCx X scope own fv z) elt te)
  (hs:∀ x,B95 iter X.env x=pure x:=by intro _;rfl):PE X (.ListComp elt [⟨tg,iter,ifs,0⟩] scope pos) (tLc own fv wi g tc te):=by
 intro Ab s σ H Q I h;rw [eval_ListComp];refine qU9 (use:=none) (K:=fun p H'=>Q (.ref p) H') hc S hi hg ht he I h (fun _ _ q=>q) (fun p L H' s' m I' q hn h1 h2 h3 h4 h5=>?_) hs;exact ⟨m,hn,fun h' hs'=>⟨.ref p,H',I'.other (n:=0) h1 h2 h3 h4 h5 hs',rfl,q⟩⟩
theorem qN7 {i:Nat} {x:Str} {pos' spos:Pos} (hN:X.N.Nodup) (hx:X.N[i]?=some x) (hl:X.env.scope.names.lookup x=some .local) (hc:X.calm=true) (S:LcScope X scope own fv) (hi:PI X tg iter wi) (hg:∀ z,PG (lcCx X scope own fv z) tg g)
  (ht:∀ z,PTs (lcCx X scope own fv z) ifs tc) (he:∀ z,PE (lcCx X scope own fv z) elt te) (hsw:swapsWith (.ListComp elt [⟨tg,iter,ifs,0⟩] scope pos) (some (.Name x pos')) spos.line X.env=pure true)
  (hs:∀ x,B95 iter X.env x=pure x:=by intro _;rfl):PS X (.Assign [.Name x pos'] (.ListComp elt [⟨tg,iter,ifs,0⟩] scope pos) spos) (tAsg (tLc own fv wi g tc te) (qUV i)):=by
 intro Ab s σ H D I h;rw [exec_Assign_Name_used _ _ _ _ hsw];refine B26 (B98 (B26 ?_));show wpAny _ X.A (do let _ <- comprehension (.ListComp elt [⟨tg,iter,ifs,0⟩] scope pos) scope X.env _ (newList []) false (eval iter X.env) (some (assign (.Name x pos') X.env))) _ _ s
 refine B26 (B42 (qU9 (use:=some (assign (.Name x pos') X.env)) (K:=fun p H'=>D.nx (σ.set i (some (.ref p))) H') (Q:=fun _ s'=>SP X Ab D .next s') (E:=X.xe) hc S hi hg ht he I h (fun _ _ q=>q) (fun p L H' s' m I' q hn h1 h2 h3 h4 h5=>?_) hs)
  (fun _ s' hq=>B27 (B27 hq)) fun _ _ e=>e)
 show wpAny _ X.A (assign (.Name x pos') X.env (.ref p)) _ _ _;refine wpAny_assign_Name (qMW (v:=.ref p) I' hN hx (.inl hl) rfl (fun s2 I2 ⟨a,hsb,ha⟩=>?_) (.inr hl));have hLa:L ≠ a:=by
  rcases ha with z | z
  ·rw [z];exact h3
  ·exact fun y=>h4 x a z y.symm
 exact ⟨m,hn.sameBut hsb hLa,fun h' hs'=>⟨_,H',I2.other (n:=0) h1 h2 h3 h4 h5 hs',q⟩⟩
end
abbrev LcG (I:It) (g:TG) (tc:TT) (te:TE) (Kf:Hp->Prop) (σ0:St) (H0:Hp) (p:Addr):Prop:=∃ W:Nat->Nat->St->Hp->Prop,(∃ m,W 0 m σ0 H0)/\∀ i m σ H,W i m σ H->(I.stop i H/\Kf H)\/(I.go i H/\∃ N:St->Hp->Prop,(∀ σ' H',N σ' H'->∃ m',m'<m/\W (i+1) m' σ' H')/\∀ x H',I.yld i H x H'->g x σ H' fun σ2 H2=>tc σ2 H2 fun b H3=>if b=true then te σ2 H3 fun y H4=>∃ ys,H4 p=some (.lst ys)/\ys.length<B28/\N σ2 (Ag H4 p (.lst (ys++[y]))) else N σ2 H3)
theorem qDK {lo:Int} {n:Nat} {g:TG} {tc:TT} {te:TE} {Kf:Hp->Prop} {σ0:St} {H0:Hp} {p:Addr} (Pv:Nat->St->Hp->Prop) (h0:Pv 0 σ0 H0)
  (hs:∀ i σ H,i<n->Pv i σ H->g (.int (lo+i)) σ H fun σ2 H2=>tc σ2 H2 fun b H3=>if b=true then te σ2 H3 fun y H4=>∃ ys,H4 p=some (.lst ys)/\ys.length<B28/\Pv (i+1) σ2 (Ag H4 p (.lst (ys++[y]))) else Pv (i+1) σ2 H3)
  (hd:∀ σ H,Pv n σ H->Kf H) :
  LcG (Itr lo n) g tc te Kf σ0 H0 p:=by
 refine ⟨fun i m σ H=>m=n - i/\i<=n/\Pv i σ H,⟨n,by simp,E5 _,h0⟩,?_⟩
 rintro i m σ H ⟨rfl,hi,q⟩;by_cases hlt:i<n
 ·refine .inr ⟨hlt,Pv (i+1),fun σ' H' p'=>⟨n - (i+1),by omega,rfl,hlt,p'⟩,fun x H' y=>?_⟩
  obtain ⟨e,y⟩:=y;subst e y;exact hs i σ _ hlt q
 ·have e:i=n:=by omega
  subst e;exact .inl ⟨A6 _,hd σ H q⟩
theorem qE9 {K:Ab1} {a:Addr} {xs:List V} {g:TG} {tc:TT} {te:TE} {Kf:Hp->Prop} {σ0:St} {H0:Hp} {p:Addr} (Pv:Nat->St->Hp->Prop) (h0:Pv 0 σ0 H0) (hl:∀ i σ H,i<=xs.length->Pv i σ H->SqL K H a xs)
  (hs:∀ i x σ H,xs[i]?=some x->Pv i σ H->g x σ H fun σ2 H2=>tc σ2 H2 fun b H3=>if b=true then te σ2 H3 fun y H4=>∃ ys,H4 p=some (.lst ys)/\ys.length<B28/\Pv (i+1) σ2 (Ag H4 p (.lst (ys++[y]))) else Pv (i+1) σ2 H3)
  (hd:∀ σ H,Pv xs.length σ H->Kf H) :
  LcG (Itl K a) g tc te Kf σ0 H0 p:=by
 refine ⟨fun i m σ H=>m=xs.length - i/\i<=xs.length/\Pv i σ H,⟨xs.length,by simp,E5 _,h0⟩,?_⟩
 rintro i m σ H ⟨rfl,hi,q⟩;have hq:=hl i σ H hi q;by_cases hlt:i<xs.length
 ·refine .inr ⟨⟨xs,xs[i],hq,by simp [hlt]⟩,Pv (i+1),fun σ' H' p'=>⟨xs.length - (i+1),by omega,rfl,hlt,p'⟩,fun x H' y=>?_⟩
  obtain ⟨e,y⟩:=y;subst e;exact hs i x σ _ (y xs hq) q
 ·have e:i=xs.length:=by omega
  subst e;exact .inl ⟨⟨xs,hq,A6 _⟩,hd σ H q⟩
theorem qER {K:Ab1} {a:Addr} {xs:List V} {g:TG} {tc:TT} {te:TE} {Kf:Hp->Prop} {σ0:St} {H0:Hp} {p:Addr} (Pv:Nat->St->Hp->Prop) (h0:Pv 0 σ0 H0) (hl:∀ i σ H,i<=xs.length->Pv i σ H->SqT K H a xs)
  (hs:∀ i x σ H,xs[i]?=some x->Pv i σ H->g x σ H fun σ2 H2=>tc σ2 H2 fun b H3=>if b=true then te σ2 H3 fun y H4=>∃ ys,H4 p=some (.lst ys)/\ys.length<B28/\Pv (i+1) σ2 (Ag H4 p (.lst (ys++[y]))) else Pv (i+1) σ2 H3)
  (hd:∀ σ H,Pv xs.length σ H->Kf H) :
  LcG (Itt K a) g tc te Kf σ0 H0 p:=by
 refine ⟨fun i m σ H=>m=xs.length - i/\i<=xs.length/\Pv i σ H,⟨xs.length,by simp,E5 _,h0⟩,?_⟩
 rintro i m σ H ⟨rfl,hi,q⟩;have hq:=hl i σ H hi q;by_cases hlt:i<xs.length
 ·refine .inr ⟨⟨xs,xs[i],hq,by simp [hlt]⟩,Pv (i+1),fun σ' H' p'=>⟨xs.length - (i+1),by omega,rfl,hlt,p'⟩,fun x H' y=>?_⟩
  obtain ⟨e,y⟩:=y;subst e;exact hs i x σ _ (y xs hq) q
 ·have e:i=xs.length:=by omega
  subst e;exact .inl ⟨⟨xs,hq,A6 _⟩,hd σ H q⟩
def qUA (scope:Scope) (own:List Str) (fv:List Nat) (osc:Scope) (N:List Str):Bool:=
 decide (scope.kind=.function) && scope.names.all (fun y=>decide (y.2 ≠ .cell)) && scope.names.all (fun y=>decide (y.2 ≠ .local) || decide (scope.names.lookup y.1=some .local)) &&
 scope.names.all (fun y=>decide (y.2 ≠ .free) || (decide (osc.names.lookup y.1=some .cell) || decide (osc.names.lookup y.1=some .free))) && decide ((own++fv.map fun i=>N.getD i P2).Nodup) &&
 fv.all fun i=>decide (i<N.length) && decide (scope.names.lookup (N.getD i P2)=some .free)
theorem lcs {X:Cx} {scope:Scope} {own:List Str} {fv:List Nat} (h:qUA scope own fv X.env.scope X.N=true):LcScope X scope own fv:=by
 unfold qUA at h;simp only [J2,decide_eq_true_eq,G1,X0] at h;obtain ⟨⟨⟨⟨⟨h1,h2⟩,h3⟩,h4⟩,h5⟩,h6⟩:=h;exact ⟨h1,h2,fun y hy e=>(h3 y hy).resolve_left fun z=>z e,fun y hy e=>(h4 y hy).resolve_left fun z=>z e,h5,h6⟩
theorem qdM {N:List Str} (h:decide N.Nodup=true):N.Nodup:=of_decide_eq_true h
theorem qHK {X:Cx} {K:Ab1} {es:List Expr} {k n:Nat} {t:TGs} {pos:Pos} (hK:X.K=K) (hc:X.calm=true) (h:PGs X es t) (hn:(B81 es X.env).length=n) (hst:(B81 es X.env).findIdx? (·.1)=none):PG X (.Tuple es k pos) (gTup K n t):=by
 subst hK hn;exact qQJ hc h rfl hst
theorem qOR {X:Cx} {K:Ab1} {tg l:Expr} {tl:TE} (hK:X.K=K) (hl:PE X l tl):PI X tg l (iTup K tl):=by subst hK;exact qCX hl
theorem qJN {X:Cx} {K:Ab1} (hK:X.K=K):IxR X (rIxT K):=by subst hK;exact qBD
theorem qXG {X:Cx} {K:Ab1} (hK:X.K=K):IxR X (rIxL K):=by subst hK;exact qCU
theorem qKV {X:Cx} {K:Ab1} (hK:X.K=K):OpR X (B46 .In) (rIn K false):=by subst hK;exact qDW
theorem qGK {X:Cx} {K:Ab1} (hK:X.K=K):qCL X (.type "tuple") (fun xs H Q=>∃ p ys,xs=[.ref p]/\((SqL K H p ys/\∀ l,H l=none->Q (.ref l) (Ag H l (.tup ys)))\/(SqT K H p ys/\Q (.ref p) H))):=by subst hK;exact qAL
theorem qMM {xs:Array Nat} {j:Nat} (up:∀ a b,a<b->b<xs.size->xs.getD a j<xs.getD b j):∀ (fuel lo hi:Nat),lo<=hi->hi<=xs.size->hi - lo<=fuel->(∀ i,i<lo->xs.getD i j<j)->(∀ i,hi<=i->i<xs.size->j<=xs.getD i j)->
  i6 xs j fuel lo hi<=xs.size/\(∀ i,i<i6 xs j fuel lo hi->xs.getD i j<j)/\(∀ i,i6 xs j fuel lo hi<=i->i<xs.size->j<=xs.getD i j)
 | 0,lo,hi,h1,h2,h3,a,b=>by
  have e:lo=hi:=by lia
  subst e;exact ⟨h2,a,b⟩
 | fuel+1,lo,hi,h1,h2,h3,a,b=>by
  unfold i6;by_cases hlt:lo<hi
  ·rw [if_pos hlt];dsimp only;have hm1:lo<=(lo+hi) / 2:=by lia
   have hm2:(lo+hi) / 2<hi:=by lia
   by_cases hc:xs.getD ((lo+hi) / 2) j<j
   ·rw [if_pos hc];refine qMM up fuel _ _ (by lia) h2 (by lia) (fun i hi'=>?_) b
    by_cases e:i=(lo+hi) / 2
    ·rw [e];exact hc
    ·exact T1 (up i ((lo+hi) / 2) (by lia) (by lia)) hc
   ·rw [if_neg hc];refine qMM up fuel _ _ (by lia) (by lia) (by lia) a (fun i hi' hs=>?_)
    by_cases e:i=(lo+hi) / 2
    ·rw [e];lia
    ·have:=up ((lo+hi) / 2) i (by lia) hs
     lia
  ·rw [if_neg hlt];have e:lo=hi:=by lia
   subst e;exact ⟨h2,a,b⟩
theorem qZF {xs:Array Nat} (j:Nat) (h:xs.toList.Pairwise (·<·)):∀ a b,a<b->b<xs.size->xs.getD a j<xs.getD b j:=fun a b hab hb=>by
 have:=F9.mp h a b (by simpa using T1 hab hb) (by simpa using hb) hab
 rw [F3,F3,B8 (T1 hab hb),B8 hb];simpa using this
theorem qHW {xs:Array Nat} {j:Nat} (h:xs.toList.Pairwise (·<·)):D9 xs j<=xs.size/\(∀ i,i<D9 xs j->xs.getD i j<j)/\(∀ i,D9 xs j<=i->i<xs.size->j<=xs.getD i j):=by
 unfold D9;exact qMM (qZF j h) xs.size 0 xs.size (E5 _) (A6 _) (by lia) (fun i hi=>absurd hi (by lia)) (fun i hi hs=>absurd hs (by lia))
theorem qCD {α:Type} (xs:Array α) (p:Nat) (x:α):(E7 xs p x).toList=xs.toList.take p++x::xs.toList.drop p:=by
 unfold E7;simp [Array.toList_extract,C4]
structure T7 (byText:Bool) (t:B77) (n:Nat):Prop where
 mask:t.mask=7
 dum:t.dummies=#[]
 plain:t.plain=true
 led:t.led=!byText
 size:t.place.size=n
 up:t.place.toList.Pairwise (·<·)
 le:∀ j ∈ t.place.toList,j<=7
section
variable {byText:Bool} {t:B77} {n:Nat}
theorem T7.slot (T:T7 byText t n) (j:Nat):(t.slot j=.empty/\j ∉ t.place.toList)\/(∃ i,t.slot j=.live i/\j ∈ t.place.toList):=by
 unfold SetTable.slot;dsimp only;have hd:B19 t.dummies j=false:=by rw [T.dum];rfl
 obtain ⟨b1,b2,b3⟩:=qHW (j:=j) T.up;by_cases hc:t.place[D9 t.place j]?=some j
 ·rw [if_pos (by rw [hc];simp)]
  exact .inr ⟨_,rfl,by rw [<- Array.mem_def];exact Array.mem_of_getElem? hc⟩
 ·rw [if_neg (by simpa using hc),hd,if_neg (by simp)]
  refine .inl ⟨rfl,fun hm=>?_⟩;obtain ⟨i,hi,he⟩:=Y1.mp hm;have hi':i<t.place.size:=by simpa using hi
  have he':t.place.getD i j=j:=by
   rw [F3,B8 hi'];simpa using he
  have h1:¬ i<D9 t.place j:=fun z=>by have:=b2 i z;lia
  have h2:D9 t.place j=i:=by
   apply Nat.le_antisymm (Y8 h1);apply Y8;intro z;have:=b3 (D9 t.place j) (A6 _) (by lia)
   have:=qZF j T.up _ _ z hi'
   lia
  apply hc;rw [h2,B8 hi'];simpa using he
def pr (i pt:Nat):SetTable.Probe:={ j:=i,more:=0,i:=i,perturb:=pt,dummy:=none }
theorem T7.adv (T:T7 byText t n) (i pt:Nat):t.advance (pr i pt)=pr ((i * 5+1+pt / 32) % 8) (pt / 32):=by
 unfold SetTable.advance pr SetTable.leap A91;rw [T.mask];dsimp only;rw [if_neg (by lia),if_neg (by lia),A15]
theorem T7.go1 (T:T7 byText t n) (h:Int) (f i pt:Nat) :
  (Q5 t (fun _=>h+1) h (f+1) (pr i pt)=some (.empty i none)/\i ∉ t.place.toList)\/
  (Q5 t (fun _=>h+1) h (f+1) (pr i pt)=Q5 t (fun _=>h+1) h f (pr ((i * 5+1+pt / 32) % 8) (pt / 32))/\i ∈ t.place.toList):=by
 rcases T.slot i with ⟨e,m⟩ | ⟨k,e,m⟩
 ·left
  refine ⟨?_,m⟩;unfold Q5;rw [show (pr i pt).j=i from rfl,e]
  rfl
 ·right
  refine ⟨?_,m⟩;rw [Q5];rw [show (pr i pt).j=i from rfl,e];dsimp only;rw [if_neg (by simp;lia),T.adv]
def F8 (i:Nat):Nat:=(i * 5+1) % 8
def F8n:Nat->Nat->Nat
 | 0,i=>i
 | m+1,i=>F8n m (F8 i)
theorem T7.go0 (T:T7 byText t n) (h:Int) (f:Nat):∀ (m i:Nat),(∃ j,Q5 t (fun _=>h+1) h (m+f) (pr i 0)=some (.empty j none)/\j ∉ t.place.toList/\∃ q,q<m/\j=F8n q i)\/(∀ q,q<m->F8n q i ∈ t.place.toList)
 | 0,i=>.inr fun q hq=>absurd hq (by lia)
 | m+1,i=>by
  rcases T.go1 h (m+f) i 0 with ⟨e,z⟩ | ⟨e,z⟩
  ·exact .inl ⟨i,by rw [show m+1+f=m+f+1 by lia];exact e,z,0,by lia,rfl⟩
  ·rw [show m+1+f=m+f+1 by lia,e]
   have e2:(i * 5+1+0 / 32) % 8=F8 i:=by unfold F8;lia
   rw [e2];rcases T.go0 h f m (F8 i) with ⟨j,e3,z3,q,hq,e4⟩ | e3
   ·exact .inl ⟨j,e3,z3,q+1,by lia,e4⟩
   ·refine .inr fun q hq=>?_;cases q with
    | zero=>exact z
    | succ q=>exact e3 q (by lia)
theorem qcT:∀ i:_root_.Fin 8,∀ j:_root_.Fin 8,∃ q:_root_.Fin 8,F8n q.1 i.1=j.1:=by decide
theorem qcS:∀ (q i:Nat),i<8->F8n q i<8
 | 0,i,h=>h
 | q+1,i,h=>qcS q (F8 i) (A22 _ (by decide))
theorem T7.goK (T:T7 byText t n) (hn:n<=7) (h:Int) (f:Nat):∀ (k i pt:Nat),i<8->pt<32 ^ k->∃ j,Q5 t (fun _=>h+1) h (k+(8+f)) (pr i pt)=some (.empty j none)/\j ∉ t.place.toList/\j<=7
 | 0,i,pt,hi,hp=>by
  have e:pt=0:=by lia
  subst e;rw [Nat.zero_add];rcases T.go0 h f 8 i with ⟨j,e,z,q,hq,e2⟩ | e
  ·exact ⟨j,e,z,by have:=qcS q i hi;lia⟩
  ·exfalso
   have sub:[0,1,2,3,4,5,6,7] ⊆ t.place.toList:=fun j hj=>by
    have hj8:j<8:=by
     simp at hj
     lia
    obtain ⟨q,hq⟩:=qcT ⟨i,hi⟩ ⟨j,hj8⟩;rw [<- show F8n q.1 i=j from hq];exact e q.1 q.2
   have:=V4 (by decide:[0,1,2,3,4,5,6,7].Nodup) sub
   have hs:=T.size;simp at this
   lia
 | k+1,i,pt,hi,hp=>by
  rw [show k+1+(8+f)=k+(8+f)+1 by lia]
  rcases T.go1 h (k+(8+f)) i pt with ⟨e,z⟩ | ⟨e,z⟩
  ·exact ⟨i,e,z,by lia⟩
  ·rw [e];refine T.goK hn h f k _ _ (A22 _ (by decide)) ?_
   rw [Nat.pow_succ] at hp
   lia
theorem T7.free (T:T7 byText t n) (hn:n<=7) (h:Int):∃ j,t.freeSlot h=some (j,false)/\j ∉ t.place.toList/\j<=7:=by
 have hb:b9 h<32 ^ 13:=by
  unfold b9;have h1:0<=h % (2 ^ 64:Int):=X1 _ (by decide)
  have h2:h % (2 ^ 64:Int)<2 ^ 64:=T5 _ (by decide)
  have:((2:Int) ^ 64)=18446744073709551616:=by decide
  rw [this] at h1 h2 ⊢;have h3:(32:Nat) ^ 13=36893488147419103232:=by decide
  lia
 obtain ⟨j,e,z,l⟩:=T.goK hn h 199 13 (b9 h % 8) (b9 h) (A22 _ (by decide)) hb
 refine ⟨j,?_,z,l⟩;have hst:t.probeStart h=pr (b9 h % 8) (b9 h):=by
  unfold SetTable.probeStart pr A91;rw [T.mask];dsimp only;rw [if_neg (by lia),A15]
 unfold SetTable.freeSlot SetTable.probe;rw [hst,show 10 * SetTable.turns t.mask=13+(8+199) by rw [T.mask];rfl,e]
 rfl
theorem T7.lay (T:T7 byText t n) (hn:n<=3) {es:Array (Int × Value)} (he:es.size=n) (h:Int) (x:Value) :
  ∃ p t',layNew t es h x=(E7 es p (h,x),t',false,false)/\T7 byText t' (n+1)/\t'.tooFull=false/\p<=es.size:=by
 obtain ⟨j,e,z,l⟩:=T.free (by lia) h
 obtain ⟨b1,b2,b3⟩:=qHW (j:=j) T.up;have hd:B19 t.dummies j=false:=by rw [T.dum];rfl
 have tl:(E7 t.place (D9 t.place j) j).toList=t.place.toList.take (D9 t.place j)++j::t.place.toList.drop (D9 t.place j):=qCD _ _ _;have sz:(E7 t.place (D9 t.place j) j).size=n+1:=by
  rw [<- C6,tl,B0,E2,C5,G3,C6,T.size];rw [T.size] at b1
  lia
 have T':T7 byText { t with place:=E7 t.place (D9 t.place j) j,dummies:=t.dummies } (n+1):=by
  refine ⟨T.mask,T.dum,T.plain,T.led,sz,?_,?_⟩
  ·show (E7 t.place (D9 t.place j) j).toList.Pairwise (·<·);rw [tl];have geti:∀ i,i<t.place.size->t.place.getD i j=t.place.toList.getD i j:=fun i hi=>by
    rw [F3,R4,E4]
   have lo:∀ a ∈ t.place.toList.take (D9 t.place j),a<j:=fun a ha=>by
    obtain ⟨i,hi,hai⟩:=Y1.mp ha;rw [C5,C6] at hi;have hi1:i<D9 t.place j:=by lia
    have hi2:i<t.place.size:=by lia
    have:=b2 i hi1;rw [F3,B8 hi2] at this;rw [y4] at hai;rw [<- hai];simpa using this
   have hi:∀ a ∈ t.place.toList.drop (D9 t.place j),j<a:=fun a ha=>by
    have hm:a ∈ t.place.toList:=U3 ha;obtain ⟨i,hi,hai⟩:=Y1.mp ha;rw [G3,C6] at hi;have hi2:D9 t.place j+i<t.place.size:=by lia
    have:=b3 _ (Nat.le_add_right _ i) hi2;rw [F3,B8 hi2] at this;rw [y7] at hai;have h3:j<=a:=by
     rw [<- hai];simpa using this
    rcases Nat.lt_or_eq_of_le h3 with h4 | h4
    ·exact h4
    ·exact absurd (h4 ▸ hm) z
   refine P5.mpr ⟨T.up.sublist (X6 _ _),O0.mpr ⟨hi,T.up.sublist (V2 _ _)⟩,fun a ha b hb=>?_⟩;rcases C1.mp hb with e | hb
   ·rw [e];exact lo a ha
   ·exact T1 (lo a ha) (hi b hb)
  ·show ∀ i ∈ (E7 t.place (D9 t.place j) j).toList,i<=7;rw [tl];intro i hi;rcases B3.mp hi with hi | hi
   ·exact T.le i (O1 hi)
   ·rcases C1.mp hi with e | hi
    ·lia
    ·exact T.le i (U3 hi)
 have fits:A50 { t with place:=E7 t.place (D9 t.place j) j,dummies:=t.dummies } (n+1)=true:=by
  unfold A50 A51;dsimp only;rw [sz,T.dum,T.mask];have:((#[]:Array Nat)).size=0:=rfl;simp only [this,beq_self_eq_true,l8,decide_eq_true_eq]
  lia
 have szE:(E7 es (D9 t.place j) (h,x)).size=n+1:=by
  rw [<- C6,qCD,B0,E2,C5,G3,C6];rw [T.size] at b1
  lia
 refine ⟨D9 t.place j,{ t with place:=E7 t.place (D9 t.place j) j,dummies:=t.dummies },?_,T',?_,by rw [he,<- T.size];exact b1⟩
 ·unfold layNew;rw [e];dsimp only;unfold SetTable.put;rw [hd];dsimp only;rw [szE];unfold SetTable.orStandIn;simp only [G7,if_false];rw [fits];simp
 ·unfold SetTable.tooFull A51;dsimp only;rw [sz,T.dum,T.mask];have:((#[]:Array Nat)).size=0:=rfl;rw [this];exact decide_eq_false (by lia)
end
theorem qLA {α:Type} :∀ (l:List α) (i:Nat) (h:i<l.length),(l[i]::l.eraseIdx i).Perm l
 | [],i,h=>absurd h (by simp)
 | a::r,0,h=>.refl _
 | a::r,i+1,h=>by
  have hi:i<r.length:=by simpa using h
  have ih:=qLA r i hi;show (r[i]::a::r.eraseIdx i).Perm (a::r);exact (List.Perm.swap _ _ _).trans (ih.cons a)
theorem qTL {α:Type} (next:Nat->Nat):∀ (fuel k:Nat) (left:List α) (out:Array α),fuel=left.length->(A74 next fuel k left out).toList.Perm (out.toList++left)
 | 0,k,left,out,h=>by
  have:left=[]:=K9.mp h.symm;subst this;unfold A74;simp
 | fuel+1,k,left,out,h=>by
  have hl:0<left.length:=by lia
  have hm:next k % left.length<left.length:=A22 _ hl;unfold A74;rw [A5 hm];dsimp only;refine (qTL next fuel (k+1) _ _ (by rw [List.length_eraseIdx_of_lt hm];lia)).trans ?_
  rw [V3,Q4];exact j6 _ (qLA left _ hm)
theorem qTK {α:Type} (next:Nat->Nat) (xs:Array α):(pickOrder next xs).toList.Perm xs.toList:=by
 unfold pickOrder;have:=qTL next xs.size 0 xs.toList #[] (by simp)
 simpa using this
abbrev Ents:List Int->List (Int × Value)->Prop:=Paired fun k e=>∃ tk,e=(B70 k,Q6 k tk)
theorem Ents.perm:∀ {es es':List (Int × Value)} {ks:List Int},Ents ks es->es'.Perm es->∃ ks',Ents ks' es'/\ks'.Perm ks:=by
 intro es es' ks h p;have key:∀ {a b:List (Int × Value)},a.Perm b->∀ ks,Ents ks b->∃ ks',Ents ks' a/\ks'.Perm ks:=by
  intro a b p
  induction p with
  | nil=>intro ks h;exact ⟨ks,h,.refl _⟩
  | cons x p ih=>
   intro ks h;cases h with
   | cons r t=>
    obtain ⟨ks',h1,h2⟩:=ih _ t;exact ⟨_::ks',.cons r h1,h2.cons _⟩
  | swap x y l=>
   intro ks h;cases h with
   | cons r t=>
    cases t with
    | cons r' t'=>exact ⟨_,.cons r' (.cons r t'),.swap _ _ _⟩
  | trans p q ih1 ih2=>
   intro ks h;obtain ⟨k1,h1,h2⟩:=ih2 ks h;obtain ⟨k2,h3,h4⟩:=ih1 k1 h1;exact ⟨k2,h3,h4.trans h2⟩
 exact key p ks h
theorem Ents.elems {es:List (Int × Value)} {ks:List Int} (h:Ents ks es):ElemsOf (B79 prog w) es:=by
 intro e he;have key:∀ {ks:List Int} {es:List (Int × Value)},Ents ks es->∀ e ∈ es,∃ k tk,e=(B70 k,Q6 k tk):=by
  intro ks es h
  induction h with
  | nil=>intro e he;cases he
  | cons r t ih=>
   intro e he;rcases C1.mp he with z | z
   ·subst z;obtain ⟨tk,e⟩:=r;exact ⟨_,tk,e⟩
   ·exact ih e z
 obtain ⟨k,tk,rfl⟩:=key h e he;exact ⟨⟨k,by simp [B79,A04],rfl⟩,rfl⟩
theorem Ents.find {k:Int} :∀ {es:List (Int × Value)} {ks:List Int},Ents ks es->((B10 (fun e=>(B79 prog w).is k e.2) es).isSome=true ↔ k ∈ ks)
 | _,_,.nil=>by simp
 | _,_,.cons r t=>by
  obtain ⟨tk,rfl⟩:=r
  rename_i k' ks' es'
  have ih:=Ents.find (prog:=prog) (w:=w) (k:=k) t;rw [List.findIdx?_cons,C1];have hi:(B79 prog w).is k (Q6 k' tk)=decide (k=k'):=by
   by_cases e:k=k'
   ·simp [B79,A04,e]
   ·have e':¬ k'=k:=fun z=>e z.symm;simp [B79,A04,e,e']
  dsimp only;rw [hi];by_cases e:k=k'
  ·simp [e]
  ·simp only [e,decide_false,G7,if_false,false_or,i5];exact ih
def byT (w:World):Bool:=w.params.followText "set-order"
def SetI (w:World) (a:Addr) (zs:List Int) (h:Heap):Prop:=
 ∃ (es:Array (Int × Value)) (ep:Nat) (t:B77) (ks:List Int),h.get? a=some { cls:=.type "set",data:=.set es ep t }/\T7 (byT w) t es.size/\Ents ks es.toList/\ks.Perm zs/\zs.Nodup/\zs.length<=4
theorem SetI.at {a:Addr} {zs:List Int} {h h':Heap} (x:SetI w a zs h) (k:∀ o,h.get? a=some o->h'.get? a=some o):SetI w a zs h':=
 let ⟨es,ep,t,ks,h1,r⟩:=x;⟨es,ep,t,ks,k _ h1,r⟩
theorem T7.fits {b:Bool} {t:B77} {n:Nat} (T:T7 b t n) (hn:n<=7):t.fits n=true:=by
 unfold A50 A51;rw [T.size,T.dum,T.mask];have:((#[]:Array Nat)).size=0:=rfl;simp only [this,beq_self_eq_true,l8,decide_eq_true_eq]
 lia
def addI (zs:List Int) (k:Int):List Int:=if k ∈ zs then zs else zs++[k]
section
variable {prog:B30} {w:World} {A:Around} {E:Aa1} {s:Shared}
theorem SetI.size {a:Addr} {zs:List Int} {h:Heap} {es:Array (Int × Value)} {ks:List Int} (he:Ents ks es.toList) (hp:ks.Perm zs):es.size=zs.length:=by
 rw [<- hp.length_eq,B7 he,C6]
theorem qWL {a:Addr} {zs:List Int} {k:Int} {tk:Tok} {Q:Bool->Shared->Prop} (hS:SetI w a zs s.heap) (hroom:zs.length<=3\/k ∈ zs)
  (h:∀ h',Heap.SameBut a s.heap h'->SetI w a (addI zs k) h'->∀ b,Q b { s with heap:=h' }):wpAny (model prog w) A (setAddHashed a (.int k tk) (B70 k)) Q E s:=by
 obtain ⟨es,ep,t,ks,ho,T,he,hp,hnd,hlen⟩:=id hS;have hsz:es.size=zs.length:=SetI.size (a:=a) (h:=s.heap) he hp;have hel:ElemsOf (B79 prog w) es.toList:=he.elems;have hb:es.size<scanBound:=by rw [hsz];unfold scanBound;lia
 have hf:t.fits es.size=true:=T.fits (by lia)
 unfold setAddHashed setAddHashedIn;refine B34 (B26 (B54 ho rfl hf ?_));dsimp only;rw [byScan_of (knd:=B79 prog w) (x:=.int k tk) rfl hb hel];simp only [↓reduceIte];unfold setAddByScan;refine B26 ?_;refine B26 (B53 ?_);refine B26 (wpAny_setScan_of (knd:=B79 prog w) (k:=k) (intKind_is _ _ _ _) ho rfl hf hel ?_);have hfd:=Ents.find (prog:=prog) (w:=w) (k:=k) he;cases hr:B10 (fun e=>(B79 prog w).is k e.2) es.toList with
 | some j=>
  dsimp only;rw [hr] at hfd;have hk:k ∈ zs:=hp.mem_iff.mp (hfd.mp rfl);refine B27 (B27 ?_);have e:s={ s with heap:=s.heap }:=by cases s;rfl
  rw [e];refine h s.heap (Heap.SameBut.refl a s.heap) ?_ _;unfold addI;rw [if_pos hk];exact hS
 | none=>
  dsimp only;rw [hr] at hfd;have hk:¬ k ∈ zs:=fun z=>by have:=hfd.mpr (hp.mem_iff.mpr z);cases this
  have h3:zs.length<=3:=hroom.resolve_right hk;obtain ⟨p,t',e1,T',tf,hpe⟩:=T.lay (by lia) rfl (B70 k) (.int k tk)
  rw [e1];dsimp only;refine B26 (B27 ?_);rw [T'.plain];simp only [↓reduceIte];rw [hashByValue_scannable 8 (x:=.int k tk) rfl];refine B26 (B27 ?_);have hszE:(E7 es p (B70 k,Q6 k tk)).size=es.size+1:=by
   rw [<- C6,qCD,B0,E2,C5,G3,C6]
   lia
  rw [show plainKind (Q6 k tk)=true from rfl];simp only [↓reduceIte];show wpAny _ _ (storeSet a (E7 es p (B70 k,.int k tk)) t' >>= _) _ _ _;refine B26 (wpAny_storeSet_of ho rfl ?_ (by rw [hszE,hsz,B39];lia))
  rw [tf];simp only [i9,G7,↓reduceIte];refine B27 (B27 ?_);refine h _ (V7 s.heap a _) ?_ _;have hg:(s.heap.update a (Obj.putSet (E7 es p (B70 k,.int k tk)) t')).get? a=some { cls:=.type "set",data:=.set (E7 es p (B70 k,.int k tk)) (ep+1) t' }:=by
   have:=J6 (Obj.putSet (E7 es p (B70 k,.int k tk)) t') ho (by rw [putSet_of _ _ (ep:=ep) (es:=es) (t:=t) rfl];rfl)
   rw [putSet_of _ _ (ep:=ep) (es:=es) (t:=t) rfl] at this;exact this
  have hpm:(E7 es p (B70 k,Q6 k tk)).toList.Perm (es.toList++[(B70 k,.int k tk)]):=by
   rw [qCD];have e3:es.toList++[(B70 k,Q6 k tk)]=es.toList.take p++(es.toList.drop p++[(B70 k,Q6 k tk)]):=by
    rw [<- Q4,j7]
   rw [e3];exact j6 _ (List.perm_append_singleton _ _).symm
  obtain ⟨ks',h4,h5⟩:=Ents.perm (ks:=ks++[k]) (Z2 he ⟨tk,rfl⟩) hpm;refine ⟨_,_,t',ks',hg,by rw [hszE];exact T',h4,?_,?_,?_⟩
  ·unfold addI;rw [if_neg hk];exact h5.trans (hp.append_right _)
  ·unfold addI;rw [if_neg hk];exact qJG hnd hk
  ·unfold addI;rw [if_neg hk,B0,B9]
   lia
end
def dedI:List Int->List Int:=fun l=>l.foldl addI []
theorem qY4 (zs:List Int) (k:Int):(addI zs k).length<=zs.length+1:=by
 unfold addI
 split <;> simp
theorem qDO:∀ (l zs:List Int),(l.foldl addI zs).length<=zs.length+l.length
 | [],zs=>by simp
 | k::r,zs=>by
  have h1:=qDO r (addI zs k);have h2:=qY4 zs k;rw [W9,E2]
  lia
section
variable {prog:B30} {w:World} {A:Around} {R:Result->Shared->Prop} {I:Addr} {fp wr:List Addr} {G:Array B88->Array B88->Prop} {n:Nat} {P:Nat->Value->Prop} {St:Nat->Shared->Prop}
theorem qN2 (W:WalksS prog w A.in1 I fp wr G n P St) (S:Addr) (hSf:S ∉ fp) (ns:List Int) (hnn:ns.length=n) (h4:n<=4) (hval:∀ i v,P i v->∃ t,v=.int (ns.getD i 0) t) :
  ∀ (k i:Nat) (s:Shared),n - i=k->i<=n->St i s->SetI w S (dedI (ns.take i)) s.heap->
   (∀ s',Moved (S::wr) G s s'->SetI w S (dedI ns) s'.heap->R (.ok (.ret .none)) s')->
   B64 (model prog w) A (.builtin "set.update.loop" ⟨[.ref S,.ref I],[]⟩) R s:=by
 have hSw:S ∉ wr:=fun h=>hSf (W.sub _ h);have hsub:∀ b ∈ wr,b ∈ S::wr:=fun b hb=>C3 _ hb;intro k
 induction k with
 | zero=>
  intro i s hk hi hst hS hR;have hin:i=n:=by lia
  subst hin;refine B44 F.entry_set_update_loop ?_;rw [F1 F.plain_set_update_loop _];show wpAny _ A.in1 (pyNext (.ref I) >>= _) _ _ s;refine B26 (W.done s _ _ hst fun s' hm=>?_);show wpAny _ A.in1 (ret L0) _ _ s';rw [C4 (by lia)] at hS
  exact B27 (hR s' (hm.mono hsub) (hS.at fun o e=>hm.heap S _ hSw e))
 | succ k ih=>
  intro i s hk hi hst hS hR;have hlt:i<n:=by lia
  refine B44 F.entry_set_update_loop ?_;rw [F1 F.plain_set_update_loop _];show wpAny _ A.in1 (pyNext (.ref I) >>= _) _ _ s;refine B26 (W.item i s _ _ hlt hst fun v s' hP hst' hm=>?_);obtain ⟨t,rfl⟩:=hval i v hP;have hS':SetI w S (dedI (ns.take i)) s'.heap:=hS.at fun o e=>hm.heap S _ hSw e;show wpAny _ A.in1 (B71 [Q6 (ns.getD i 0) t] (setAdd S (.int (ns.getD i 0) t)) >>= _) _ _ s';refine B26 (B34 ?_);unfold setAdd;refine B34 ?_;refine B26 ((B79 prog w).pyHash (k:=ns.getD i 0) (intKind_is _ _ _ _) ?_);have hroom:(dedI (ns.take i)).length<=3:=by
   have:=qDO (ns.take i) [];rw [C5] at this;unfold dedI;simp at this
   lia
  refine qWL (s:={ s' with toks:=s'.toks+1 }) hS' (.inl hroom) fun h' hsb hS2 b=>?_;have e2:addI (dedI (ns.take i)) (ns.getD i 0)=dedI (ns.take (i+1)):=by
   have hi':i<ns.length:=by lia
   rw [C8,A5 hi',C9];unfold dedI;rw [A65,W9,A96,R4,A5 hi',Z0]
  rw [e2] at hS2;refine B27 ⟨B50 F.plain_set_update_loop _,ih (i+1) _ (by lia) hlt (W.frame _ s' _ _ hst' (Q9 _) fun b hb o e=>?_) hS2 fun s'' hm'' hS''=>?_⟩
  ·rw [hsb.2 b (fun h:b=S=>hSf (by rw [<- h];exact hb))];exact e
  ·refine hR s'' (Moved.trans W.gtrans ((hm.mono hsub).then_heap (Q9 _) fun b o hb e=>?_) hm'') hS'';rw [hsb.2 b (fun h:b=S=>hb (by rw [h];exact F4))];exact e
end
abbrev qCE (w:World):Obj:={ cls:=.type "set",dict:=none,data:=.set #[] 0 (.fresh 0 0 (!byT w)) }
section
variable {prog:B30} {w:World} {A:Around} {E:Aa1} {s:Shared}
theorem qTB (a:Value) {Q₁:Aa1} (h:Q₁ (.ref s.heap.objs.size) { s with heap:=s.heap.push (qCE w) }) :
  B64 (model prog w) A (.call (.builtin "set.__new__") ⟨[.type "set",a],[]⟩) (wants Q₁ E) s:=by
 refine codeAny_of_tree ?_;show wpAny _ A.in1 (do checkBuiltinCall "set.__new__" ⟨[.type "set",a],[]⟩;again (.builtin "set.__new__" ⟨[.type "set",a],[]⟩)) _ _ s
 refine B26 (B78 (F.newCall_set_1 a) (B27 ⟨B50 F.plain_set_new _,B44 F.entry_set_new ?_⟩));rw [F1 F.plain_set_new _];unfold Builtin.«set.__new__» A95;have hsub:=sub_set_self;obtain ⟨hp,g,d,tk,os⟩:=s;dsimp only
 wp_walk
 refine B83 (B27 ?_);dsimp only;simp only [newObj];refine B26 (wpAny_alloc (B27 ?_));exact B27 h
theorem SetI.fresh {a:Addr} {h:Heap} (e:h.get? a=some (qCE w)):SetI w a [] h:=
 ⟨#[],0,_,[],e,⟨rfl,rfl,rfl,rfl,rfl,.nil,fun _ z=>nomatch z⟩,.nil,.refl _,.nil,E5 _⟩
set_option maxHeartbeats 3200000 in
theorem qSJ {l:Addr} {items:Array Value} {ns:List Int} {Q:Aa1} (hh:A.handled=none) (hl:s.heap.IsList l items) (hi:B38 items.toList ns) (h4:items.size<=4)
  (h:∀ (h':Heap) (tk:Nat),SetI w s.heap.objs.size (dedI ns) h'->(∀ b o,s.heap.get? b=some o->h'.get? b=some o)->Q (.ref s.heap.objs.size) { s with heap:=h',toks:=tk }) :
  wpAny (model prog w) A (call (.type "set") [.ref l]) Q E s:=by
 have hlen:ns.length=items.size:=by have:=IntsAre.length hi;simpa using this.symm
 obtain ⟨c,tl,hmro⟩:=X2.mro;have hmade:=X2.made;have hsub:=X2.sub;refine wpAny_call (codeAny_of_tree ?_);show wpAny _ _ (callAny (.type "set") _) _ _ _;refine B27 ⟨Code.quiet_builtin _ (by decide +kernel),B44 F.entry_type_call ?_⟩
 rw [Around.under_plain (weight_type_call_type "set" [.ref l] []) rfl];have h1:=X2.notType;have h2:=X2.canCreate;have hct:=F.typeCall_set_1 (.ref l)
 repeat (any_goals (first | assumption | wp_step))
 refine B73 (qTB (.ref l) (E:=E) (Q₁:=fun obj s₁=>obj=.ref s.heap.objs.size/\s₁={ s with heap:=s.heap.push (qCE w) }) ⟨rfl,rfl⟩) fun r s₁ hr=>?_;cases r with
 | error e=>exact hr
 | ok fl=>
  cases fl with
  | ret obj=>
   obtain ⟨rfl,rfl⟩:=hr;have hS:(s.heap.push (qCE w)).get? s.heap.objs.size=some (qCE w):=A8 _ rfl;have hT:Shared.TypeIs { s with heap:=s.heap.push (qCE w) } (.ref s.heap.objs.size) "set":=⟨_,hS,rfl⟩;have hli:=X2.init.lookup;have hbi:=X2.init.bind (.ref s.heap.objs.size)
   repeat (any_goals (first | assumption | wp_step))
   refine B73 (codeAny_call_builtin (R:=wants (fun r s₂=>r=.none/\∃ h' tk,s₂={ s with heap:=h',toks:=tk }/\SetI w s.heap.objs.size (dedI ns) h'/\
     (∀ b o,s.heap.get? b=some o->h'.get? b=some o)) E) X2.init.plain F.entry_set_init (check_set_init_1 hT ?_)) fun r₂ s₂ hr₂=>?_
   ·obtain ⟨ol,hol,hcl,nl,hdl⟩:=hl;obtain ⟨ocls,odict,odata,oslots⟩:=ol;simp only at hcl hdl;subst hcl;subst hdl;have hol':(s.heap.push (qCE w)).get? l=some { cls:=.type "list",dict:=odict,data:=.seq items nl,slots:=oslots }:=A3 _ hol;have hsls:=F.sub_list_set;have hslf:=F.sub_list_frozenset;have hne:(U6 "list" == U6 "dict")=false:=by decide
    have hl1:(s.heap.push (qCE w)).IsList l items:=⟨_,hol',rfl,nl,rfl⟩;unfold Builtin.«set.__init__» noKeywords A86;generalize hPI:pyIter=PI
    wp_walk
    subst hPI;refine B51 hl1 ?_;refine B26 (wpAny_runValue ?_);have hlS:l<s.heap.objs.size:=A9 hol;have hh3:A.in1.in1.in1.handled=none:=by simp [hh]
    have hneI:l ≠ (s.heap.push (qCE w)).objs.size:=by
     rw [L7];exact C2 (V1 hlS)
    have hSf:s.heap.objs.size ∉ [(s.heap.push (qCE w)).objs.size,l]:=by
     rw [L7];simp only [C1,A7,O2,or_false,not_or];exact ⟨C2 (Nat.lt_succ_self _),R9 hlS⟩
    have hval:∀ (i:Nat) (v:Value),items[i]?=some v->∃ t,v=.int (ns.getD i 0) t:=fun i v hv=>
     A92 hi i v (by rw [E4];exact hv)
    refine qN2 ((A23 hh3 _ l hneI items).toS) s.heap.objs.size hSf ns hlen h4 hval (items.size - 0) 0 _ (by lia) (E5 _)
     ⟨⟨_,A8 _ rfl,rfl,rfl⟩,(hl1.push _)⟩ ?hS0 ?hR
    case hS0=>exact SetI.fresh (A3 _ hS)
    case hR=>
     intro s' hm hS';obtain ⟨h',g',d',tk',os'⟩:=s';have eg:g'=s.gens:=hm.gens;have ed:d'=s.drawn:=hm.drawn;have eo:os'=s.os:=hm.os;subst eg;subst ed;subst eo;show wpAny _ _ _ _ _ _;refine B27 ?_;show wpAny _ _ (ret L0) _ _ _;refine B27 ⟨rfl,h',tk',rfl,hS',fun b o e=>?_⟩;have hb:=A9 e;have hb1:b ≠ s.heap.objs.size:=C2 hb;have hb2:b ≠ (s.heap.push (qCE w)).objs.size:=by
      rw [L7];exact C2 (V1 hb)
     exact hm.heap b o (by simp only [C1,A7,O2,or_false,not_or];exact ⟨hb1,hb2⟩) (A3 _ (A3 _ e))
   ·cases r₂ with
    | error e=>exact hr₂
    | ok fl₂=>
     cases fl₂ with
     | ret r=>
      obtain ⟨rfl,h',tk,rfl,hS',hk'⟩:=hr₂
      repeat (any_goals (first | assumption | wp_step))
      exact h _ _ hS' hk'
     | next=>exact hr₂
     | brk=>exact hr₂
     | cont=>exact hr₂
  | next=>exact hr
  | brk=>exact hr
  | cont=>exact hr
end
theorem slot_si_next:Slot "set_iterator" "__next__" "set_iterator.__next__":=
 .of (owner:="set_iterator") (n:="__next__") (by rw [typeLookup_type,C04];kernel_rfl) (by decide +kernel) (by decide +kernel) (by decide +kernel)
  (by first | exact .inl (by decide +kernel) | exact .inr (by decide +kernel)) (by rw [isSubtype_type];kernel_rfl)
theorem qI0:Slot "set_iterator" "__iter__" "set_iterator.__iter__":=
 .of (owner:="set_iterator") (n:="__iter__") (by rw [typeLookup_type,C04];kernel_rfl) (by decide +kernel) (by decide +kernel) (by decide +kernel)
  (by first | exact .inl (by decide +kernel) | exact .inr (by decide +kernel)) (by rw [isSubtype_type];kernel_rfl)
theorem qHD:entryFor table "set_iterator.__next__" = some Builtin.«set_iterator.__next__»:=entryFor_of_tree (by kernel_rfl)
theorem qME:entryFor table "set_iterator.__iter__" = some Builtin.«dict_keyiterator.__iter__»:=
 entryFor_alias (id':="dict_keyiterator.__iter__") (by kernel_rfl) rfl (by decide +kernel) (by kernel_rfl)
theorem qKN:entryFor table "set.__iter__" = some Builtin.«frozenset.__iter__»:=
 entryFor_alias (id':="frozenset.__iter__") (by kernel_rfl) rfl (by decide +kernel) (by kernel_rfl)
theorem qQN:Manifest.owners.lookup (String.ofList "set_iterator".toList.reverse.reverse)=some Manifest.sig_set_iterator:=by kernel_rfl
theorem qI6 (a:Value):argsOk "set_iterator.__next__" ⟨[a],[]⟩:=by
 unfold argsOk;rw [signature?_of (id:="set_iterator.__next__") (n:="__next__".toList.reverse) (o:="set_iterator".toList.reverse) (by kernel_rfl) qQN];kernel_rfl
theorem qO7 (a:Value):argsOk "set_iterator.__iter__" ⟨[a],[]⟩:=by
 unfold argsOk;rw [signature?_of (id:="set_iterator.__iter__") (n:="__iter__".toList.reverse) (o:="set_iterator".toList.reverse) (by kernel_rfl) qQN];kernel_rfl
def qEW (w:World) (a:Addr) (ep:Nat) (es:Array (Int × Value)):List (Int × Value):=if byT w=true then (pickOrder (w.params.setOrder a ep) es).toList else es.toList
def qF0 (w:World) (t:B77) (i:Nat):Nat:=if byT w=true then 0 else if i=0 then 0 else t.place.getD (i - 1) 0+1
theorem qEV (w:World) (a:Addr) (ep:Nat) (es:Array (Int × Value)):(qEW w a ep es).Perm es.toList:=by
 unfold qEW
 split
 ·exact qTK _ _
 ·exact .refl _
theorem T7.below_at {b:Bool} {t:B77} {n:Nat} (T:T7 b t n) (i:Nat) (hi:i<=n):D9 t.place (if i=0 then 0 else t.place.getD (i - 1) 0+1)=i:=by
 obtain ⟨b1,b2,b3⟩:=qHW (j:=if i=0 then 0 else t.place.getD (i - 1) 0+1) T.up
 have hs:=T.size;have gd:∀ a c d,a<t.place.size->t.place.getD a c=t.place.getD a d:=fun a c d ha=>by
  rw [F3,F3,B8 ha]
  rfl
 by_cases h0:i=0
 ·rw [if_pos h0] at b1 b2 b3 ⊢;subst h0;apply Nat.eq_zero_of_not_pos;intro z;have:=b2 0 z;omega
 ·rw [if_neg h0] at b1 b2 b3 ⊢;have h1:¬ D9 t.place (t.place.getD (i - 1) 0+1)<i:=fun z=>by
   have:=b3 (i - 1) (by omega) (by omega)
   rw [gd (i - 1) (t.place.getD (i - 1) 0+1) 0 (by omega)] at this
   omega
  have h2:¬ i<D9 t.place (t.place.getD (i - 1) 0+1):=fun z=>by
   have q:=b2 i z;have:=qZF 0 T.up (i - 1) i (by omega) (by omega)
   rw [gd i (t.place.getD (i - 1) 0+1) 0 (by omega)] at q
   omega
  omega
def SetIt (w:World) (a I:Addr) (es:Array (Int × Value)) (ep:Nat) (t:B77) (i:Nat) (h:Heap):Prop:=
 (∃ o,h.get? I=some o/\o.cls=.type "set_iterator"/\o.data=.fields #[.int (qF0 w t i) 0,.int i 0,.ref a,.int es.size 0,.int ep 0])/\h.get? a=some { cls:=.type "set",data:=.set es ep t }
section
variable {prog:B30} {w:World} {A:Around} {E:Aa1} {s:Shared} {a I:Addr} {es:Array (Int × Value)} {ep:Nat} {t:B77} {i:Nat}
theorem SetIt.typeIs (x:SetIt w a I es ep t i s.heap):s.TypeIs (.ref I) "set_iterator":=let ⟨⟨o,h1,h2,_⟩,_⟩:=x;⟨o,h1,h2⟩
theorem qN3 {Q:Option (Value × Nat)->Shared->Prop} (T:T7 (byT w) t es.size) (h8:es.size<=7) (ho:s.heap.get? a=some { cls:=.type "set",data:=.set es ep t }) (hi:i<=es.size)
  (h:Q (match (qEW w a ep es)[i]? with | some e=>some (e.2,qF0 w t (i+1)) | none=>none) s):wpAny (model prog w) A (setNext a (qF0 w t i) i ep) Q E s:=by
 have hf:=T.fits h8;unfold setNext;refine B26 (B54 ho rfl hf ?_);dsimp only;unfold setsByText;refine B26 (B26 (B83 (B27 ?_)));show wpAny _ _ (if byT w=true then _ else _) _ _ _
 cases hb:byT w with
 | true=>
  rw [if_pos rfl];simp only [bne_self_eq_false,G7,if_false];refine B26 ?_;unfold setWalk;refine B26 (B54 ho rfl hf ?_);dsimp only;unfold setsByText;refine B26 (B26 (B83 (B27 ?_)));show wpAny _ _ (if byT w=true then _ else _) _ _ _
  rw [hb,if_pos rfl];refine B26 (B83 (B27 (B27 ?_)));have e:qEW w a ep es=(pickOrder (w.params.setOrder a ep) es).toList:=by unfold qEW;rw [if_pos hb]
  have e2:∀ j,qF0 w t j=0:=fun j=>by unfold qF0;rw [if_pos hb]
  rw [e,E4,e2] at h;rw [e2];show Q (Option.map _ (pickOrder (w.params.setOrder a ep) es)[i]?) s;cases hx:(pickOrder (w.params.setOrder a ep) es)[i]? with
  | none=>rw [hx] at h;exact h
  | some v=>rw [hx] at h;exact h
 | false=>
  rw [if_neg (by simp)]
  show wpAny _ _ (if (!t.plain && decide (es.size > 1))=true then _ else _) _ _ _
  rw [T.plain];simp only [A52,t7,G7,if_false];refine B26 ?_;show wpAny _ _ (if (!t.led && !es.isEmpty)=true then _ else _) _ _ _
  rw [T.led,hb];simp only [Bool.not_false,A52,t7,G7,if_false];refine B27 (B27 ?_);have e:qEW w a ep es=es.toList:=by unfold qEW;rw [if_neg (by rw [hb];simp)]
  have e2:∀ j,qF0 w t j=if j=0 then 0 else t.place.getD (j - 1) 0+1:=fun j=>by unfold qF0;rw [if_neg (by rw [hb];simp)]
  rw [e,E4] at h;rw [e2,T.below_at i hi];cases hx:es[i]? with
  | none=>rw [hx] at h;exact h
  | some v=>
   rw [hx] at h;have hlt:i<t.place.size:=by rw [T.size];exact (Array.getElem?_eq_some_iff.mp hx).1
   rw [B8 hlt];dsimp only at h ⊢;have e3:qF0 w t (i+1)=t.place[i]+1:=by
    rw [e2,if_neg (by omega),A53,F3,B8 hlt]
    rfl
   rw [e3] at h;exact h
theorem qZQ {Q:Option Value->Shared->Prop} (T:T7 (byT w) t es.size) (h8:es.size<=7) (hit:SetIt w a I es ep t i s.heap) (hne:a ≠ I) {e:Int × Value} (hx:(qEW w a ep es)[i]?=some e)
  (hQ:∀ h',SetIt w a I es ep t (i+1) h'->(∀ b o,b ≠ I->s.heap.get? b=some o->h'.get? b=some o)->Q (some e.2) { s with heap:=h' }):wpAny (model prog w) A (pyNext (.ref I)) Q E s:=by
 obtain ⟨⟨o,ho,hc,hd⟩,hs⟩:=id hit;have hi:i<es.size:=by
  have:=(A4.mp hx).1;rw [(qEV w a ep es).length_eq,C6] at this;exact this
 unfold pyNext;refine B26 (B68 (wpAny_callSpecial?_slot (name:=D4 "__next__") hit.typeIs slot_si_next (B37 slot_si_next hit.typeIs qHD ?_ (qI6 _))));unfold Builtin.«set_iterator.__next__»;refine B26 (B27 ?_);refine B26 (wpAny_fieldsOf ho hd ?_);dsimp only;unfold setEntries;refine B26 (B26 (B54 hs rfl (T.fits h8) (B27 ?_)));rw [if_neg (by simp)]
 simp only [E1];refine B26 (qN3 T h8 hs (R8 hi) ?_);rw [hx];dsimp only;show wpAny _ _ (setField (.ref I) 0 (rawInt _) >>= _) _ _ s;refine B26 (B72 ho hd (by simp) ?_)
 have g1:=J6 (l9 (·.setIfInBounds 0 (rawInt ((qF0 w t (i+1):Nat):Int)))) ho (j8 (T6 hd _));have d1:=T6 hd (·.setIfInBounds 0 (rawInt ((qF0 w t (i+1):Nat):Int)));refine B26 (B72 g1 d1 (by simp) ?_)
 have g2:=J6 (l9 (·.setIfInBounds 1 (rawInt ((i:Int)+1)))) g1 (j8 (T6 d1 _));have d2:=T6 d1 (·.setIfInBounds 1 (rawInt ((i:Int)+1)));refine B27 ⟨_,rfl,B27 (hQ _ ⟨⟨_,g2,(y8 ..).trans ((y8 ..).trans hc),?_⟩,?_⟩ fun b o' hb e=>?_)⟩
 ·rw [d2];simp [rawInt]
 ·exact (F0 _ _ (F2 hne)).trans ((F0 _ _ (F2 hne)).trans hs)
 ·exact (F0 _ _ (F2 hb)).trans ((F0 _ _ (F2 hb)).trans e)
theorem qbM {Q:Option Value->Shared->Prop} (hh:A.handled=none) (T:T7 (byT w) t es.size) (h8:es.size<=7) (hit:SetIt w a I es ep t es.size s.heap)
  (hQ:∀ h',(∀ b o,b ≠ I->s.heap.get? b=some o->h'.get? b=some o)->Q none { s with heap:=h' }):wpAny (model prog w) A (pyNext (.ref I)) Q E s:=by
 obtain ⟨⟨o,ho,hc,hd⟩,hs⟩:=id hit;unfold pyNext;refine B26 (B68 (wpAny_callSpecial?_slot (name:=D4 "__next__") hit.typeIs slot_si_next (B37 slot_si_next hit.typeIs qHD ?_ (qI6 _))));unfold Builtin.«set_iterator.__next__»;refine B26 (B27 ?_);refine B26 (wpAny_fieldsOf ho hd ?_);dsimp only;unfold setEntries;refine B26 (B26 (B54 hs rfl (T.fits h8) (B27 ?_)));rw [if_neg (by simp)]
 simp only [E1];have hx:(qEW w a ep es)[es.size]?=none:=M6 (by rw [(qEV w a ep es).length_eq,C6];exact A6 _)
 refine B26 (qN3 T h8 hs (A6 _) ?_);rw [hx];dsimp only;show wpAny _ _ (setField (.ref I) 2 .none >>= _) _ _ s;refine B26 (B72 ho hd (by simp) ?_)
 show wpAny _ _ (newExc (.type "StopIteration") [] >>= _) _ _ _;refine B26 ?_;simp only [newExc,newTuple];refine B26 (B36 ?_ (by size_fits))
 refine B26 (m:=B80 _ _) (B78 (a:=L0) (by first | rfl | (simp only [B80];rfl)) ?_)
 refine B36 ?_ (by size_fits)
 simp only [raiseNew];refine B26 (wpAny_handled ?_);rw [show A.in1.handled=none from hh];refine B26 (B27 (wpAny_throw ?_));refine B26 (B84 (T:="StopIteration") (b:=true) ⟨_,A8 _ rfl,rfl⟩ isSubtype_stop ?_);exact B27 (hQ _ (((V7 ..).extBut.push _).push _))
theorem qZP {Q:Aa1} (hit:SetIt w a I es ep t i s.heap) (h:Q (.ref I) s):wpAny (model prog w) A (pyIter (.ref I)) Q E s:=by
 refine wpAny_pyIter_slot hit.typeIs qI0 (B37 qI0 hit.typeIs qME ?_ (qO7 _));show wpAny _ _ (ret (.ref I)) _ _ s;exact B27 ⟨_,rfl,"set_iterator",_,hit.typeIs,slot_si_next.lookup,h⟩
theorem qbL {Q:Aa1} (T:T7 (byT w) t es.size) (h8:es.size<=7) (hs:s.heap.get? a=some { cls:=.type "set",data:=.set es ep t })
  (hQ:Q (.ref s.heap.objs.size) { s with heap:=s.heap.push { cls:=.type "set_iterator",data:=.fields #[.int 0 0,.int 0 0,.ref a,.int es.size 0,.int ep 0] } }):wpAny (model prog w) A (pyIter (.ref a)) Q E s:=by
 have hT:s.TypeIs (.ref a) "set":=⟨_,hs,rfl⟩;have hf:=T.fits h8;refine wpAny_pyIter_slot hT F.slot_set_iter (B37 F.slot_set_iter hT qKN ?_ (F.args_set_iter_1 _));unfold Builtin.«frozenset.__iter__» B11 B03 setEntries;refine B26 (B26 (B27 ?_));show wpAny _ _ (pure a) _ _ s;refine B27 ?_;refine B26 (B26 (B26 (B54 hs rfl hf (B27 (B27 ?_)))));unfold setDrawn setsByText;refine B26 (B26 (B54 hs rfl hf ?_));dsimp only;refine B26 (B26 (B83 (B27 (B27 ?_))));show wpAny _ _ (if (!byT w && (!t.plain && decide (es.size > 1)))=true then _ else _) _ _ _
 rw [T.plain];simp only [A52,t7,i9,G7,if_false];refine B26 (B27 ?_);unfold setEpoch;refine B26 (B26 (B54 hs rfl hf (B27 ?_)));refine B26 (B36 (B27 ⟨_,rfl,"set_iterator",_,⟨_,A8 _ rfl,rfl⟩,slot_si_next.lookup,?_⟩));simpa [rawInt] using hQ
theorem qZR {Q:Bool->Shared->Prop} (hT:s.TypeIs (.ref a) "set") (h:Q false s):wpAny (model prog w) A (m9 (.ref a)) Q E s:=by
 unfold m9;refine B26 (wpAny_specialOf hT PySem.F.slot_set_len.lookup ?_);generalize hid:("set.__len__" : String)=id0
 wp_delta
 rw [show splitId id0=some ("set","__len__") from by subst hid;decide +kernel]
 subst hid;refine B26 (B84 (T:="set") (b:=true) hT (by rw [isSubtype_type];kernel_rfl) ?_)
 refine wpAny_ite_split (fun hab=>absurd hab (by decide)) (fun _=>?_)
 refine wpAny_ite_split (fun _=>?_) (fun hab=>absurd (by decide +kernel) hab)
 refine B26 (B62 hT ?_);exact B27 h
theorem qbK (T:T7 (byT w) t es.size) (h8:es.size<=7):PySem.W.KdlSrc prog w "set" a a es.size (fun i v=>∃ e,(qEW w a ep es)[i]?=some e/\v=e.2) (fun h=>h.get? a=some { cls:=.type "set",data:=.set es ep t }) where
 type:=fun s h=>⟨_,h,rfl⟩
 there:=fun h x=>⟨A9 x,A9 x⟩
 keep:=fun h h' x k=>k a (.inl rfl) _ x
 notList:=by decide
 notTuple:=by decide
 hint:=fun A E s Q x q=>qZR ⟨_,x,rfl⟩ q
 iter:=fun A s hh x=>by
  have hne:a ≠ s.heap.objs.size:=C2 (A9 x);refine ⟨_,fun i h=>SetIt w a s.heap.objs.size es ep t i h,fun E Q q=>qbL T h8 x q,?_,⟨⟨_,A8 _ rfl,rfl,?_⟩,A3 _ x⟩⟩
  ·refine ⟨fun b hb=>?_,fun i h h' st k=>?_,fun i s' Q E hi st q=>?_,fun s' Q E st q=>?_,fun i s' Q E st q=>qZP st q⟩
   ·have e:b=s.heap.objs.size:=by simpa using hb
    simp [e]
   ·obtain ⟨⟨o,h1,h2,h3⟩,h4⟩:=st;exact ⟨⟨o,k _ (by simp) _ h1,h2,h3⟩,k _ (by simp) _ h4⟩
   ·have hl:i<(qEW w a ep es).length:=by rw [(qEV w a ep es).length_eq,C6];exact hi
    refine qZQ T h8 st hne (A5 hl) fun h' st' k=>?_;exact q _ h' s'.toks ⟨_,A5 hl,rfl⟩ st' fun b o hb e=>k b o (fun z=>hb (by simp [z])) e
   ·refine qbM hh T h8 st fun h' k=>?_;exact q h' s'.toks fun b o hb e=>k b o (fun z=>hb (by simp [z])) e
  ·unfold qF0
   split <;> rfl
end
theorem qD9 {ns:List Int} :∀ {us:List Value},Vals (ns.map V.int) us->B38 us ns:=by
 induction ns with
 | nil=>intro us h;cases h;exact .nil
 | cons n r ih=>
  intro us h;cases h with
  | cons r1 r2=>
   obtain ⟨t,rfl⟩:=r1;exact IntsAre.cons _ _ (ih r2)
theorem qHZ:∀ {us:List Value} {ns:List Int},B38 us ns->Vals (ns.map V.int) us:=qIX
section
variable {X:Cx}
def SetO (w:World) (a:Addr) (zs:List Int):HO:=.ext (SetI w a zs)
theorem qMK (hc:X.calm=true):qCL X (.type "set") (fun xs H Q=>∃ p ns,xs=[.ref p]/\SqL X.K H p (ns.map V.int)/\ns.length<=4/\∀ a,H a=none->Q (.ref a) (Ag H a (SetO X.w a (dedI ns)))):=by
 intro Ab s σ H xs us Q I r h;obtain ⟨p,ns,rfl,hq,h4,q⟩:=h;obtain ⟨u,rfl,rx⟩:=qDS r;cases rx;obtain ⟨its,rv,pl,hz⟩:=I.list hq;have hlen:=rv.length;rw [A0] at hlen;refine qSJ (ns:=ns) (I.ok.hd hc) pl.isList (by simpa using qD9 rv) (by simp;lia) fun h' tk hS hk=>?_
 refine ⟨.ref s.heap.objs.size,_,I.laid (t':=tk) hk (A6 _) ?_,rfl,q _ (I.hok.fresh (A6 _))⟩;obtain ⟨es,ep,t,ks,e,_⟩:=id hS;exact ⟨hS,⟨_,e⟩,fun h1 h2 x k=>x.at k⟩
theorem Inv.track {Ab:Aa2} {σ:St} {H:Hp} {T:Addr} {o:HO} (I:Inv X Ab σ H s) (h0:H T=none) (h1:X.s₀.heap.objs.size<=T) (h2:T ≠ X.env.locals) (h3:∀ x c,X.env.cells.lookup x=some c->c ≠ T) (h4:∀ p ∈ X.pn++Ab,p.1 ≠ T)
  (new:ObjOk X.prog X.w (Ag H T o) s.heap T o):Inv X Ab σ (Ag H T o) s:=by
 have old:∀ b ob,X.s₀.heap.get? b=some ob->b ≠ T:=fun b ob e=>C2 (D6 (A9 e) h1);have some':∀ b u,H b=some u->(Ag H T o) b=some u:=fun b u e=>by rw [qA9 (qA6 e h0)];exact e
 refine ⟨I.ok,I.os,I.bare,⟨I.base.keep,I.base.slot,fun b ob e n hx=>?_,I.base.there,fun b xs e=>some' _ _ (I.base.tups b xs e),fun b ob u e=>some' _ _ (I.base.frzs b ob u e),fun b ps e=>?_⟩,I.loc,I.cell,?_,fun x c e=>?_,fun p hp=>?_,fun b u e=>?_,I.len⟩
 ·rw [qA9 (old b ob e)];exact I.base.free b ob e n hx
 ·exact some' _ _ (I.base.tbls b ps e)
 ·rw [qA9 (F2 h2)];exact I.free
 ·rw [qA9 (h3 x c e)];exact I.freeC x c e
 ·obtain ⟨e1,n,r⟩:=I.pin p hp;exact ⟨e1,by rw [qA9 (h4 p hp)];exact n,r⟩
 ·by_cases hb:b=T
  ·subst hb;rw [qA1] at e;cases e;exact new
  ·rw [qA9 hb] at e;exact (I.hok b u e).stay (fun c v _ q=>q) (fun c q=>some' _ _ q) (fun c ys q=>some' _ _ q) fun c t q=>some' _ _ q
theorem qQ7 {Ab:Aa2} {σ:St} {H:Hp} {Q:VK} {vs:List Value} {ns:List Int} {D:Addr} (I:Inv X Ab σ (Ag H D (.lst (ns.map V.int))) s) (hD:H D=none) (h64:ns.length<64)
  (q:∀ ns':List Int,ns'.Perm ns->ns'.Pairwise (·<=·)->Q (.ref D) (Ag H D (.lst (ns'.map V.int)))) :
  wpAny (model X.prog X.w) A (call (.builtin "list.sort") [.ref D]) (fun _ s'=>EP X Ab σ Q (.ref D) s') E s:=by
 obtain ⟨z,its,n,rv,hl,e⟩:=I.lstM qA1;have hI:=qD9 rv;have hlen:=rv.length;rw [A0] at hlen;refine B37 slot_list_sort ⟨_,e,rfl⟩ entry_list_sort (list_sort_tree (ns:=ns) (n:=n) e hI (by lia) fun out ns' a1 a2 a3=>⟨_,rfl,?_⟩) (args_list_sort _)
 have hat:=sortedHeap_at (vs:=its) (out:=out) e;obtain ⟨e2,hat⟩:=hat;refine ⟨.ref D,Ag H D (.lst (ns'.map V.int)),?_,rfl,q ns' a2 a3⟩;have hu:Ag (Ag H D (.lst (ns.map V.int))) D (.lst (ns'.map V.int))=Ag H D (.lst (ns'.map V.int)):=qIY;rw [<- hu];refine I.write (x:=D) (e:=D) (t':=s.toks) (by rw [qA1];exact trivial) (.inl rfl) (fun b u hb hbu=>?_) ⟨_,hat⟩ ?_
 ·rw [sortedHeap_old hb (A9 hbu)];exact hbu
 ·refine ⟨?_,out.toList,e2,qHZ a1,by simpa using hat⟩
  rw [A0,a2.length_eq,<- A0 (f:=V.int)];exact z
theorem qKY {Ab:Aa2} {σ:St} {H:Hp} {vs:List Value} {ns:List Int} (I:Inv X Ab σ H s) (hv:B38 vs ns) (hz:ns.length<=B28) :
  Inv X Ab σ (Ag H s.heap.objs.size (.lst (ns.map V.int))) { s with heap:=s.heap.push { cls:=.type "list",data:=.seq vs.toArray } }:=
 I.lnew (t':=s.toks) (qHZ hv) (by rw [A0];exact hz)
theorem qDC (hc:X.calm=true):qCL X (.builtin "sorted") (fun xs H Q=>∃ p ns,xs=[.ref p]/\(SqL X.K H p (ns.map V.int)\/SqT X.K H p (ns.map V.int)\/H p=some (SetO X.w p ns))/\ns.length<64/\
  ∀ (a:Addr) (ns':List Int),H a=none->ns'.Perm ns->ns'.Pairwise (·<=·)->Q (.ref a) (Ag H a (.lst (ns'.map V.int)))):=by
 intro Ab s σ H xs us Q I r h;obtain ⟨p,ns,rfl,hq,h64,q⟩:=h;obtain ⟨u,rfl,rx⟩:=qDS r;cases rx;refine Y4 kind_sorted plain_sorted entry_sorted (args_sorted1 _) ?_;unfold Builtin.«sorted»;refine B26 (m:=checkCount "sorted" 1 1 _) (B27 ?_);have fin:∀ (s1:Shared) (vs:List Value) (zs:List Int),Inv X Ab σ H s1->B38 vs zs->zs.Perm ns->wpAny (model X.prog X.w) X.A.in1 (do
   let l <- newList vs
   let _ <- B71 [l] (call (.builtin "list.sort") [l] [])
   ret l) (fun fin s'=>∃ r,fin=.done (.ret r)/\EP X Ab σ Q r s') X.xe s1:=by
  intro s1 vs zs I1 hv hp;have hlen:=IntsAre.length hv;have hz:zs.length<=B28:=by rw [hp.length_eq,B39];lia
  refine B26 (wpAny_newList ?_ (by rw [hlen];exact hz))
  have hf:=I1.hok.fresh (A6 s1.heap.objs.size);refine B26 (B34 (B42 (qQ7 (E:=X.xe) (vs:=vs) (qKY I1 hv hz) hf (by rw [hp.length_eq];exact h64) fun ns' a b=>q _ ns' hf (a.trans hp) b) (fun _ s' x=>?_) fun _ _ e=>e))
  exact B27 ⟨_,rfl,x⟩
 rcases hq with hq | hq | hq
 ·obtain ⟨its,rv,pl,hz⟩:=I.list hq;obtain ⟨o,ho,hc',n,hd⟩:=pl.isList;have hlen:=rv.length;refine B26 (wpAny_collect_seq p (.inl rfl) ho hc' hd (fun h' hk=>?_) (by simp;lia))
  exact fin _ _ ns (I.kept (t':=s.toks) hk) (by simpa using qD9 rv) (.refl _)
 ·obtain ⟨its,rv,pl,hz⟩:=I.tuple hq;obtain ⟨o,ho,hc',n,hd⟩:=pl;have hlen:=rv.length;refine B26 (wpAny_collect_seq p (.inr rfl) ho hc' hd (fun h' hk=>?_) (by simp;lia))
  exact fin _ _ ns (I.kept (t':=s.toks) hk) (by simpa using qD9 rv) (.refl _)
 ·obtain ⟨hS,_,_⟩:=(show ObjOk X.prog X.w H s.heap p (.ext (SetI X.w p ns)) from I.hok p _ hq);obtain ⟨es,ep,t,ks,e,T,he,hp,hnd,h4⟩:=hS;have hsz:es.size=ns.length:=SetI.size (a:=p) (h:=s.heap) he hp;obtain ⟨ks',h1,h2⟩:=he.perm (qEV X.w p ep es);refine B26 (n0 (A:=X.A.in1) (qbK (ep:=ep) T (by lia)) (I.ok.hd hc) e (by rw [hsz,B39];lia) fun h' tk acc hk hacc=>?_)
  refine fin _ _ ks' (I.kept (t':=tk) hk) ?_ (h2.trans hp);obtain ⟨l1,l2⟩:=hacc;have key:∀ {ks:List Int} {l:List (Int × Value)},Ents ks l->∀ vs:List Value,vs.length=l.length->(∀ (i:Nat) (v:Value),vs[i]?=some v->∃ e:Int × Value,l[i]?=some e/\v=e.2)->B38 vs ks:=by
   intro ks l h
   induction h with
   | nil=>
    intro vs hl _;have:vs=[]:=K9.mp hl;subst this;exact .nil
   | cons r t ih=>
    intro vs hl hv;cases vs with
    | nil=>simp at hl
    | cons v vs=>
     obtain ⟨tk,rfl⟩:=r;obtain ⟨e,he,rfl⟩:=hv 0 v rfl;simp at he;subst he;exact IntsAre.cons _ _ (ih vs (by simpa using hl) fun i v hi=>by simpa using hv (i+1) v (by simpa using hi))
  refine key h1 acc.toList ?_ fun i v hi=>l2 i v (by rw [<- E4];exact hi)
  rw [C6,l1,(qEV X.w p ep es).length_eq,C6]
def qI1 (lo hi:Int):List V:=(G2 (hi - lo).toNat).map fun (i:Nat)=>V.int (lo+i)
theorem qVQ:qCL X (.type "range") (fun xs H Q=>∃ i j,xs=[.int i,.int j]/\∀ p,H p=none->Q (.ref p) (Ag H p (.rng i j))):=by
 intro Ab s σ H xs us Q I r h;obtain ⟨i,j,rfl,q⟩:=h;obtain ⟨u,v,rfl,⟨t,rfl⟩,⟨t',rfl⟩⟩:=qKC r;refine call_range_2 ⟨.ref s.heap.objs.size,_,I.laid (fun b o e=>A3 _ e) (A6 _) ?_,rfl,q _ (I.hok.fresh (A6 _))⟩;exact ⟨_,_,_,A8 _ rfl⟩
theorem qWP {lo hi:Int} {n:Nat} {acc:List Value} (hn:n=(hi - lo).toNat) (hl:acc.length=n) (h:∀ (i:Nat) (v:Value),acc[i]?=some v->∃ t,v=.int (lo+i * 1) t):Vals (qI1 lo hi) acc:=by
 have key:∀ (m:Nat) (acc:List Value),acc.length=m->∀ lo:Int,(∀ (i:Nat) (v:Value),acc[i]?=some v->∃ t,v=.int (lo+i) t)->Vals ((G2 m).map fun (i:Nat)=>V.int (lo+i)) acc:=by
  intro m
  induction m with
  | zero=>
   intro acc hl lo h;have:acc=[]:=K9.mp hl;subst this;exact .nil
  | succ m ih=>
   intro acc hl lo h;cases acc with
   | nil=>simp at hl
   | cons v acc=>
    rw [List.range_succ_eq_map,D0,Z9];have h0:=h 0 v rfl;refine .cons h0 ?_;have h1:=ih acc (by simpa using hl) (lo+1) fun i v hi=>by
     have:=h (i+1) v (by simpa using hi)
     obtain ⟨t,e⟩:=this;refine ⟨t,?_⟩;rw [e];congr 1
     push_cast
     lia
    have e:((fun (i:Nat)=>V.int (lo+i)) ∘ Nat.succ)=fun (i:Nat)=>V.int (lo+1+i):=by
     funext i
     simp only [Function.comp];congr 1
     push_cast
     lia
    rw [e];exact h1
 unfold qI1;rw [<- hn];refine key n acc hl lo fun i v hi=>?_;obtain ⟨t,e⟩:=h i v hi;exact ⟨t,by rw [e,Int.mul_one]⟩
theorem qRT (lo hi:Int):(qI1 lo hi).length=(hi - lo).toNat:=by unfold qI1;simp
theorem qdB {lo hi:Int} :Q1 lo hi 1=((hi - lo).toNat:Nat):=by rw [rangeSize_one];split <;> lia
theorem qMI {R:List Value->Shared->Prop} {r:Addr} {a b:Int} {t u v:Tok} {n:Nat} (hh:A.handled=none) (hr:IsRange s.heap r a b 1 t u v) (hsmall:A41 a b 1=true)
  (hn:Q1 a b 1=n) (hlen:n<=2 ^ 24)
  (h:∀ (h':Heap) (tk:Nat) (acc:Array Value),(∀ b o,s.heap.get? b=some o->h'.get? b=some o)->ItemsOf (fun i v=>∃ t,v=.int (a+i * 1) t) acc n->R acc.toList { s with heap:=h',toks:=tk }) :
  wpAny (model prog w) A (collect (.ref r)) R E s:=by
 unfold collect;refine B26 (wpAny_runValue (B44 entry_proto_collect' ?_));rw [F1 PySem.F.plain_proto_collect _];show wpAny _ A.in1 (newList [] >>= fun l=>again (.builtin "list.__iadd__" ⟨[l,.ref r],[]⟩)) _ _ s;refine B26 (B36 ?_);refine B27 ⟨B50 A06 _,B44 entry_list_iadd' ?_⟩;rw [F1 A06 _];have hS₁:(s.heap.push { cls:=.type "list",data:=.seq ([]:List Value).toArray }).get? s.heap.objs.size=some { cls:=.type "list",data:=.seq #[] }:=A8 _ rfl;show wpAny _ A.in1 (Builtin.List.listExtendWith (.ref s.heap.objs.size) (.ref r) (.ref s.heap.objs.size)) _ _ _;have key:=wpAny_extend_range (prog:=prog) (w:=w) (A:=A) (s:={ s with heap:=s.heap.push { cls:=.type "list",data:=.seq ([]:List Value).toArray } })
  (R:=fun (q:Result) (s':Shared)=>∃ (h':Heap) (tk:Nat) (acc':Array Value) (c':Nat),q=.ok (.ret (.ref s.heap.objs.size))/\s'={ s with heap:=h',toks:=tk }/\
   (∀ b o,s.heap.get? b=some o->h'.get? b=some o)/\h'.get? s.heap.objs.size=some { cls:=.type "list",dict:=none,data:=.seq acc' c',slots:=#[] }/\ItemsOf (fun i v=>∃ t,v=.int (a+i * 1) t) acc' n)
  hh (A3 _ hr) hsmall hn hlen s.heap.objs.size (.ref s.heap.objs.size) 0 hS₁
  (fun h' tk acc' c' hk hS' hacc=>⟨h',tk,acc',c',rfl,rfl,fun b o e=>hk b o (C2 (A9 e)) (A3 _ e),hS',hacc⟩)
 refine B42 key (fun fin s' x=>?_) fun e s' x=>?_
 ·cases fin with
  | done f=>
   obtain ⟨h',tk,acc',c',e,rfl,hk,hS',hacc⟩:=x;cases e;show wpAny _ A (load s.heap.objs.size >>= _) _ _ _;refine B26 (wpAny_load hS' ?_);exact B27 (h h' tk acc' hk hacc)
  | again c₁=>
   refine ⟨x.1,B73 x.2 fun q s₂ y=>?_⟩;obtain ⟨h',tk,acc',c',rfl,rfl,hk,hS',hacc⟩:=y;show wpAny _ A (load s.heap.objs.size >>= _) _ _ _;refine B26 (wpAny_load hS' ?_);exact B27 (h h' tk acc' hk hacc)
 ·obtain ⟨_,_,_,_,e',_⟩:=x;cases e'
theorem qOC {Q:Aa1} {r:Addr} {a b:Int} {t u v:Tok} {n:Nat} (hh:A.handled=none) (hr:IsRange s.heap r a b 1 t u v) (hsmall:A41 a b 1=true)
  (hn:Q1 a b 1=n) (hlen:n<=2 ^ 24)
  (h:∀ (h':Heap) (tk:Nat) (acc:Array Value),(∀ b o,s.heap.get? b=some o->h'.get? b=some o)->ItemsOf (fun i v=>∃ t,v=.int (a+i * 1) t) acc n->Q (.ref h'.objs.size) { s with heap:=h'.push { cls:=.type "tuple",data:=.seq acc },toks:=tk }) :
  wpAny (model prog w) A (call (.type "tuple") [.ref r]) Q E s:=by
 have hcode:B64 (model prog w) A.in1 (.call (.builtin "tuple.__new__") ⟨[.type "tuple",.ref r],[]⟩) (wants (fun obj s₁=>s₁.TypeIs obj "tuple"/\Q obj s₁) E) s:=by
  refine codeAny_of_tree ?_;show wpAny _ A.in1.in1 (do checkBuiltinCall "tuple.__new__" ⟨[.type "tuple",.ref r],[]⟩;again (.builtin "tuple.__new__" ⟨[.type "tuple",.ref r],[]⟩)) _ _ s
  refine B26 (B78 (F.newCall_tuple_1 _) (B27 ⟨B50 A66 _,B44 F.entry_tuple_new ?_⟩));rw [F1 A66 _];have hsub:=sub_tuple_self;have hinit:=init_tuple_lookup;have hmh:=madeHere_tuple;have hTI:s.TypeIs (.ref r) "range":=⟨_,hr,rfl⟩
  wp_walk using B62 hTI,qMI (prog:=prog) (w:=w) (A:=A.in1.in1) hh hr hsmall hn hlen
  intro h' tk acc hk hacc;show wpAny _ _ (L9 acc.toList.toArray >>= fun v=>ret v) _ _ _;unfold L9;refine B26 (B36 ?_ (by show acc.toList.toArray.size<=B28;simp only [Array.toArray_toList];rw [hacc.1,B39];lia))
  refine B27 ?_;have e:acc.toList.toArray=acc:=by simp
  rw [e];exact ⟨⟨_,A8 _ rfl,rfl⟩,h h' tk acc hk hacc⟩
 refine callType_codes (Q₁:=fun obj s₁=>s₁.TypeIs obj "tuple"/\Q obj s₁) A37 (F.typeCall_tuple_1 _) F.entry_object_init hcode fun obj s₁ h₁=>?_;exact ⟨h₁.1,A28 obj _,object_init_meets A37.init.lookup A37.made (by decide) prog w A.in1 _ s₁ ⟨h₁.1,rfl,h₁.2⟩⟩
theorem qKO (hc:X.calm=true):qCL X (.type "tuple") (fun xs H Q=>∃ p lo hi,xs=[.ref p]/\H p=some (.rng lo hi)/\-1000000<=lo/\lo<=1000000/\-1000000<=hi/\hi<=1000000/\∀ l,H l=none->Q (.ref l) (Ag H l (.tup (qI1 lo hi)))):=by
 intro Ab s σ H xs us Q I r h;obtain ⟨p,lo,hi,rfl,hp,l1,l2,l3,l4,q⟩:=h;obtain ⟨u,rfl,rx⟩:=qDS r;cases rx;obtain ⟨t,u,v,e⟩:=(show ∃ t u v,s.heap.get? p=some { cls:=.type "range",data:=.fields #[.int lo t,.int hi u,.int 1 v] } from I.hok p _ hp);refine qOC (n:=(hi - lo).toNat) (I.ok.hd hc) (show IsRange s.heap p lo hi 1 t u v from e) (small_one (by lia) (by lia) (by lia) (by lia)) qdB (by lia) fun h' tk acc hk hacc=>?_
 obtain ⟨a1,a2⟩:=hacc;have I1:Inv X Ab σ H { s with heap:=h',toks:=tk }:=I.kept hk;refine ⟨.ref h'.objs.size,_,I1.laid (t':=tk) (fun b o e=>A3 _ e) (A6 _) (show ObjOk X.prog X.w _ _ _ (.tup (qI1 lo hi)) from ⟨?_,acc.toList,qWP rfl (by simpa using a1) fun i v hi=>a2 i v (by rw [<- E4];exact hi),?_⟩),rfl,q _ (I1.hok.fresh (A6 _))⟩
 ·rw [qRT,B39]
  lia
 ·have:=IsTup.new h' acc;simpa using this
theorem qRS:∀ (bs:List Bool),((G2 bs.length).all fun i=>(bs[i]?).getD true)=bs.all id:=by
 intro bs;rw [J4,G1,G1]
 constructor
 ·intro h b hb;obtain ⟨i,hi,e⟩:=Y1.mp hb;have:=h i (F5.mpr hi);rw [A5 hi,e] at this;exact this
 ·intro h i hi;have hi':=F5.mp hi;rw [A5 hi'];exact h _ (k6 hi')
theorem qEJ (hc:X.calm=true):qCL X (.builtin "all") (fun xs H Q=>∃ (p:Addr) (bs:List Bool),xs=[.ref p]/\SqL X.K H p (bs.map V.bl)/\Q (.bl (bs.all id)) H):=by
 intro Ab s σ H xs us Q I r h;obtain ⟨p,bs,rfl,hq,q⟩:=h;obtain ⟨u,rfl,rx⟩:=qDS r;cases rx;obtain ⟨its,rv,pl,hz⟩:=I.list hq;have hl:=pl.isList;have hlt:p<s.heap.objs.size:=by obtain ⟨_,e,_⟩:=hl;exact A9 e
 have hlen:=rv.length;rw [A0] at hlen;refine call_all_walk (B51 hl ?_);refine ⟨s.heap.objs.size,[s.heap.objs.size,p],[s.heap.objs.size],its.toArray.size,_,_,fun i=>(bs[i]?).getD true,rfl,A23 (A:=X.A.in1) (I.ok.hd hc) _ p (C2 hlt) its.toArray,
  ⟨⟨_,A8 _ rfl,rfl,rfl⟩,hl.push _⟩,fun i v s' Q' E' hP hQ=>?_,fun h' tk hk=>?_⟩
 ·have hP':its[i]?=some v:=by simpa using hP
  have hi:i<bs.length:=by rw [hlen];exact (A4.mp hP').1
  obtain ⟨u,hu,ru⟩:=rv.get (i:=i) (x:=.bl bs[i]) (by rw [B6,A5 hi];rfl)
  rw [hP'] at hu;cases hu;cases ru;dsimp only at hQ;rw [A5 hi,Z0] at hQ;exact B41 hQ
 ·have e:((G2 its.toArray.size).all fun i=>(bs[i]?).getD true)=bs.all id:=by
   rw [C0,<- hlen];exact qRS bs
  refine ⟨.bl (bs.all id),H,I.kept fun b x e=>hk b x (fun hm=>by rw [A7.mp hm] at e;exact Q0 _ (A9 e)) (A3 _ e),?_,q⟩
  rw [e]
  rfl
theorem qC0:qCL X (.builtin "isinstance") (fun xs H Q=>∃ x T t b,xs=[x,.ty T]/\TyOf X.K H x t/\J8 X.K t (.type T)=some b/\Q (.bl b) H):=by
 intro Ab s σ H xs us Q I r h;obtain ⟨x,T,t,b,rfl,ht,hk,q⟩:=h;obtain ⟨u,v,rfl,r1,r2⟩:=qKC r;cases r2;exact qUK I r1 ht hk fun tk=>⟨.bl b,H,I.tok _,rfl,q⟩
theorem qND (hu:X.A.units<cLine):OpR X (B46 .Eq) (fun x y H Q=>∃ p l xs,x=.ref p/\y=.ref l/\SqL X.K H p xs/\SqL X.K H l []/\Q (.bl xs.isEmpty) H):=by
 intro Ab s σ H x y v u Q I rx ry h;obtain ⟨p,l,xs,rfl,rfl,h1,h2,q⟩:=h;cases rx;cases ry;obtain ⟨its,r1,p1,z1⟩:=I.list h1;obtain ⟨its2,r2,p2,z2⟩:=I.list h2;cases r2;cases xs with
 | nil=>
  cases r1;exact SeqAt.eq_listAt (e:=fun _=>true) p1.isList p2.isList rfl hu (fun j h _=>absurd h (by simp)) ⟨.bl true,H,I,rfl,q⟩
 | cons a r=>
  cases r1;exact SeqAt.eq_list_lengthsAt p1.isList p2.isList (by simp) hu ⟨.bl false,H,I,rfl,q⟩
end
theorem qO0 {X:Cx} {K:Ab1} (hK:X.K=K) (hw:X.w=w) (hc:X.calm=true):qCL X (.builtin "sorted") (fun xs H Q=>∃ p ns,xs=[.ref p]/\(SqL K H p (ns.map V.int)\/SqT K H p (ns.map V.int)\/H p=some (SetO w p ns))/\ns.length<64/\
  ∀ (a:Addr) (ns':List Int),H a=none->ns'.Perm ns->ns'.Pairwise (·<=·)->Q (.ref a) (Ag H a (.lst (ns'.map V.int)))):=by subst hK hw;exact qDC hc
theorem qVP {X:Cx} {K:Ab1} (hK:X.K=K) (hw:X.w=w) (hc:X.calm=true):qCL X (.type "set") (fun xs H Q=>∃ p ns,xs=[.ref p]/\SqL K H p (ns.map V.int)/\ns.length<=4/\∀ a,H a=none->Q (.ref a) (Ag H a (SetO w a (dedI ns)))):=by subst hK hw;exact qMK hc
def Ite (K:Ab1) (l:Addr):It:=
 ⟨fun i H=>∃ xs x,SqL K H l xs/\xs[i]?=some x,fun i H v H'=>∃ T x,H T=none/\v=.ref T/\H'=Ag H T (.tup [.int (i:Int),x])/\∀ xs,SqL K H l xs->xs[i]?=some x,fun i H=>∃ xs,SqL K H l xs/\xs.length<=i⟩
section
variable {X:Cx}
theorem Inv.turnedL {Ab:Aa2} {σ:St} {H:Hp} {h':Heap} {t':Nat} {ch:List Addr} (I:Inv X Ab σ H s) (k:∀ b o,b ∉ ch->s.heap.get? b=some o->h'.get? b=some o) (hc:∀ b ∈ ch,FpOk X Ab H b):Inv X Ab σ H { s with heap:=h',toks:=t' }:=by
 have nit:∀ b u,H b=some u->b ∉ ch:=fun b u e z=>by rw [(hc b z).1] at e;cases e
 refine I.step (g':=s.gens) (d':=s.drawn) (ch:=ch) (fun b hb=>⟨(hc b hb).2.2.2.1,(hc b hb).2.1,(hc b hb).2.2.2.2.1,(hc b hb).2.2.2.2.2⟩) (fun b o _ _ hc' e _=>k b o hc' e) (fun b o _ _ hc' e _=>⟨o.slots,k b o hc' e⟩) (fun _ _ _ _ n=>n)
  (fun b o hc' e=>⟨o,k b o hc' e⟩) (fun _ _ e=>e) (fun _ _ _ e=>e) (fun _ _ e=>e) (fun m hm=>?_) (fun b u e=>?_) I.bare
 ·obtain ⟨o,es,ep,ho,r⟩:=hm;exact ⟨o,es,ep,k _ o (fun z=>(hc _ z).2.1 rfl) ho,r⟩
 ·refine (I.hok b u e).stay (fun c v hc' q=>k c v ?_ q) (fun _ q=>q) fun _ _ q=>q;rcases hc' with z | z
  ·rw [z];exact nit b u e
  ·exact nit c _ z
theorem qMT {K:Ab1} {elts:List Expr} {k:Nat} {pos:Pos} (l it e:Addr) (hne:e ≠ it):Turn P w K (.Tuple elts k pos) (Ite K l) [e,it] e (fun i h=>(∃ old,IsEnum h e it i old)/\h.IsListIter it l i) where
 mem:=by simp
 obj:=fun i h st b hb=>by
  obtain ⟨⟨old,h1⟩,o,h2,_,h4⟩:=st;have e':b=e\/b=it:=by simpa using hb
  rcases e' with rfl | rfl
  ·exact ⟨_,h1,fun v z=>by
    have z':A05 _=u9 v:=z;cases z'⟩
  ·exact ⟨o,h2,fun v z=>by rw [h4] at z;cases z⟩
 keep:=fun i h h' st kk=>by
  obtain ⟨⟨old,h1⟩,h2⟩:=st;exact ⟨⟨old,kk e (by simp) _ h1⟩,h2.at fun o q=>kk it (by simp) o q⟩
 item:=by
  intro X hP hw hK hc i Ab s σ H E I hf st hg;subst hP hw hK;obtain ⟨xs,x,hq,hx⟩:=hg;obtain ⟨its,rv,p,hz⟩:=I.list hq;obtain ⟨u,hu,ru⟩:=rv.get hx;obtain ⟨⟨old,h1⟩,h2⟩:=st;refine wpAny_pyNext_enum_item h1 h2 p.isList (x:=u) (by simpa using hu) hne fun h' a1 a2 a3 a4 a5=>?_
  refine ⟨_,rfl,wpAny_letOwnedTupleGo_enum a1 fun h2 b1 b2=>?_⟩;have ltE:e<s.heap.objs.size:=A9 h1;have I1:Inv X Ab σ H { s with heap:=h2,toks:=s.toks+1 }:=I.turnedL (ch:=[e,it]) (fun b o hb q=>by
   have hb1:b ≠ e:=fun z=>hb (by simp [z])
   have hb2:b ≠ it:=fun z=>hb (by simp [z])
   exact (b2.2 b hb1).trans (a5 b o hb1 hb2 q)) hf
  have hT:H s.heap.objs.size=none:=I.hok.fresh (A6 _);have fT:=I.fpOk (H':=H) (b:=s.heap.objs.size) (A6 _) hT;have gT:h2.get? s.heap.objs.size=some { cls:=.type "tuple",data:=.seq #[.int i s.toks,u] }:=(b2.2 _ (R9 ltE)).trans a3;refine ⟨.ref s.heap.objs.size,Ag H s.heap.objs.size (.tup [.int (i:Int),x]),I1.track hT I.sz fT.2.1 fT.2.2.2.2.1 fT.2.2.2.2.2 ⟨by simp only [E2,L5];rw [B39];decide,[.int (i:Int) s.toks,u],.cons ⟨_,rfl⟩ (.cons ru .nil),⟨_,gT,rfl,_,rfl⟩⟩,rfl,
   ⟨_,x,hT,rfl,rfl,fun ys hy=>by rw [I.list_inj hy hq];exact hx⟩,⟨⟨_,b1⟩,a2.at fun o q=>(b2.2 it (F2 hne)).trans q⟩,fun b hb=>?_⟩
  have ltb:b<s.heap.objs.size:=by
   have e':b=e\/b=it:=by simpa using hb
   rcases e' with rfl | rfl
   ·exact ltE
   ·obtain ⟨o,q,_⟩:=h2;exact A9 (by assumption)
  rw [qA9 (C2 ltb)];exact (hf b hb).1
 done:=by
  intro X hP hw hK hc i Ab s σ H E I hf st hg;subst hP hw hK;obtain ⟨xs,hq,hx⟩:=hg;obtain ⟨its,rv,p,hz⟩:=I.list hq;have hl:=rv.length;obtain ⟨⟨old,h1⟩,h2⟩:=st;exact wpAny_pyNext_enum_end (I.ok.hd hc) h1 h2 p.isList (by simp;lia) fun h' eb=>⟨rfl,I.turnedL (t':=s.toks) (ch:=[e,it]) (fun b o hb q=>eb b o (fun z=>hb (by simp [z])) q) hf⟩
 self:=fun _ _ _ _ _ st h=>by
  obtain ⟨⟨old,h1⟩,h2⟩:=st;exact B69 h1 h
def qdY (K:Ab1) (ta:TA):TI:=fun σ H R=>ta σ H fun vs H1=>∃ l,vs=[.ref l]/\(∃ xs,SqL K H1 l xs)/\R (Ite K l) H1
theorem qTM {elts:List Expr} {k:Nat} {tpos:Pos} {a:Expr} {ta:TA} {p pos:Pos} (hg:Gl X "enumerate") (hm:X.mg "enumerate" = none) (hv:B33 "enumerate" = some (.type "enumerate")) (ha:PA X [a] ta) (hs:B35 [a] X.env=[(false,eval a X.env)]:=by rfl) :
  PI X (.Tuple elts k tpos) (.Call (.Name "enumerate" p) [a] [] pos) (qdY X.K ta):=by
 intro Ab s σ H R I h;refine Call_ (qG4 I hg hm hv (G4 (thn (ha pos Ab s σ H _ I h) fun us s1 ⟨vs,H1,I1,r1,q1⟩=>?_) hs rfl));obtain ⟨l,e,⟨xs,hq⟩,q⟩:=q1;subst e;obtain ⟨u,rfl,rx⟩:=qDS r1;cases rx;obtain ⟨its,rv,pl,hz⟩:=I1.list hq;refine call_enumerate_list pl.isList fun h' he hi hsz hk=>?_;refine B69 he ?_;have I2:Inv X Ab σ H1 { s1 with heap:=h' }:=I1.kept (t':=s1.toks) hk;refine ⟨s1.heap.objs.size+1,[s1.heap.objs.size+1,s1.heap.objs.size],_,_,H1,rfl,I2,qMT l s1.heap.objs.size (s1.heap.objs.size+1) (Z1 _),⟨⟨_,he⟩,hi⟩,fun b hb=>?_,q⟩;have e':b=s1.heap.objs.size+1\/b=s1.heap.objs.size:=by simpa using hb
 rcases e' with rfl | rfl
 ·exact I1.fpOk (Q9 _) (I1.hok.fresh (Q9 _))
 ·exact I1.fpOk (A6 _) (I1.hok.fresh (A6 _))
end
theorem qP3 {K:Ab1} {a:Addr} {xs:List V} {g:TG} {tc:TT} {te:TE} {Kf:Hp->Prop} {σ0:St} {H0:Hp} {p:Addr} (Pv:Nat->St->Hp->Prop) (h0:Pv 0 σ0 H0) (hl:∀ i σ H,i<=xs.length->Pv i σ H->SqL K H a xs)
  (hs:∀ i x σ H T,xs[i]?=some x->Pv i σ H->H T=none->g (.ref T) σ (Ag H T (.tup [.int (i:Int),x])) fun σ2 H2=>tc σ2 H2 fun b H3=>if b=true then te σ2 H3 fun y H4=>∃ ys,H4 p=some (.lst ys)/\ys.length<B28/\Pv (i+1) σ2 (Ag H4 p (.lst (ys++[y]))) else Pv (i+1) σ2 H3)
  (hd:∀ σ H,Pv xs.length σ H->Kf H) :
  LcG (Ite K a) g tc te Kf σ0 H0 p:=by
 refine ⟨fun i m σ H=>m=xs.length - i/\i<=xs.length/\Pv i σ H,⟨xs.length,by simp,E5 _,h0⟩,?_⟩
 rintro i m σ H ⟨rfl,hi,q⟩;have hq:=hl i σ H hi q;by_cases hlt:i<xs.length
 ·refine .inr ⟨⟨xs,xs[i],hq,by simp [hlt]⟩,Pv (i+1),fun σ' H' p'=>⟨xs.length - (i+1),by lia,rfl,hlt,p'⟩,fun v H' y=>?_⟩
  obtain ⟨T,x,hT,e1,e2,y⟩:=y;subst e1 e2;exact hs i x σ H T (y xs hq) q hT
 ·have e:i=xs.length:=by lia
  subst e;exact .inl ⟨⟨xs,hq,A6 _⟩,hd σ H q⟩
theorem qDX {it t:Addr} {i:Nat} {items:Array Value} {x:Value} {Q:Aa1} (hit:s.heap.IsTupleIter it t i) (ht:s.heap.IsTuple t items) (hx:items[i]?=some x)
  (hQ:∀ h':Heap,h'.IsTupleIter it t (i+1)->Heap.SameBut it s.heap h'->Q x { s with heap:=h' }):wpAny (model prog w) A (U1 (.ref it)) Q E s:=by
 obtain ⟨o,ho,hc,hd⟩:=id hit;obtain ⟨ol,hol,_,nl,hdl⟩:=ht;refine B26 (wpAny_callSpecial?_slot hit.typeIs R5 (B37 R5 hit.typeIs n6 ?_ (m4 _)));show wpAny _ _ (field (.ref it) 0 >>= _) _ _ _;refine B26 (B45 ho hd rfl ?_);refine B65 rfl ?_;show wpAny _ _ (field (.ref it) 1 >>= _) _ _ _;refine B26 (B45 ho hd rfl ?_);show wpAny _ _ (seqItems? (.ref t) >>= _) _ _ _;refine B26 (B47 hol hdl ?_);show wpAny _ _ (match items[i]? with | some x=>_ | none=>_) _ _ _
 rw [hx];refine B26 (B72 ho hd (by simp) ?_)
 refine B27 ⟨x,rfl,B27 (hQ _ ⟨_,J6 _ ho (j8 (T6 hd _)),(y8 o _).trans hc,?_⟩ (V7 _ _ _))⟩;rw [T6 hd];simp
 rfl
theorem qEQ {it t:Addr} {i:Nat} {items:Array Value} {Q:Aa1} (hh:A.handled=none) (hit:s.heap.IsTupleIter it t i) (ht:s.heap.IsTuple t items) (hx:items[i]?=none)
  (hE:∀ (h':Heap) (e:Addr),Heap.ExtBut it s.heap h'->(∃ o,h'.get? e=some o/\o.cls=.type "StopIteration")->E (.ref e) { s with heap:=h' }):wpAny (model prog w) A (U1 (.ref it)) Q E s:=by
 obtain ⟨o,ho,hc,hd⟩:=id hit;obtain ⟨ol,hol,_,nl,hdl⟩:=ht;refine B26 (wpAny_callSpecial?_slot hit.typeIs R5 (B37 R5 hit.typeIs n6 ?_ (m4 _)));show wpAny _ _ (field (.ref it) 0 >>= _) _ _ _;refine B26 (B45 ho hd rfl ?_);refine B65 rfl ?_;show wpAny _ _ (field (.ref it) 1 >>= _) _ _ _;refine B26 (B45 ho hd rfl ?_);show wpAny _ _ (seqItems? (.ref t) >>= _) _ _ _;refine B26 (B47 hol hdl ?_);show wpAny _ _ (match items[i]? with | some x=>_ | none=>_) _ _ _
 rw [hx];refine B26 (B53 ?_);refine B26 (B72 ho hd (by simp) ?_)
 show wpAny _ _ (newExc (.type "StopIteration") [] >>= _) _ _ _;refine B26 ?_;simp only [newExc,newTuple];refine B26 (B36 ?_ (by size_fits))
 refine B26 (m:=B80 _ _) (B78 (a:=L0) (by first | rfl | (simp only [B80];rfl)) ?_)
 refine B36 ?_ (by size_fits)
 simp only [raiseNew];refine B26 (wpAny_handled ?_);rw [show A.in1.handled=none from hh];refine B26 (B27 (wpAny_throw ?_));exact hE _ _ (((V7 ..).extBut.push _).push _) ⟨_,A8 _ rfl,rfl⟩
def SIt (b:Bool) (h:Heap) (it l:Addr) (i:Nat):Prop:=match b with | true=>h.IsTupleIter it l i | false=>h.IsListIter it l i
def SSq (b:Bool) (h:Heap) (l:Addr) (xs:Array Value):Prop:=match b with | true=>h.IsTuple l xs | false=>h.IsList l xs
theorem SIt.at {b:Bool} {h h':Heap} {it l:Addr} {i:Nat} (q:SIt b h it l i) (k:∀ o,h.get? it=some o->h'.get? it=some o):SIt b h' it l i:=by
 cases b
 ·exact Heap.IsListIter.at q k
 ·exact Heap.IsTupleIter.at q k
theorem SSq.at {b:Bool} {h h':Heap} {l:Addr} {xs:Array Value} (q:SSq b h l xs) (k:∀ o,h.get? l=some o->h'.get? l=some o):SSq b h' l xs:=by
 cases b
 ·obtain ⟨o,e,r⟩:=q;exact ⟨o,k o e,r⟩
 ·obtain ⟨o,e,r⟩:=q;exact ⟨o,k o e,r⟩
theorem qGB {b:Bool} {it t:Addr} {i:Nat} {items:Array Value} {x:Value} {Q:Aa1} (hit:SIt b s.heap it t i) (ht:SSq b s.heap t items) (hx:items[i]?=some x)
  (hQ:∀ h':Heap,SIt b h' it t (i+1)->Heap.SameBut it s.heap h'->Q x { s with heap:=h' }):wpAny (model prog w) A (U1 (.ref it)) Q E s:=by
 cases b
 ·exact wpAny_nextOf_list_item hit ht hx hQ
 ·exact qDX hit ht hx hQ
theorem qKX {b:Bool} {it t:Addr} {i:Nat} {items:Array Value} {Q:Aa1} (hh:A.handled=none) (hit:SIt b s.heap it t i) (ht:SSq b s.heap t items) (hx:items[i]?=none)
  (hE:∀ (h':Heap) (e:Addr),Heap.ExtBut it s.heap h'->(∃ o,h'.get? e=some o/\o.cls=.type "StopIteration")->E (.ref e) { s with heap:=h' }):wpAny (model prog w) A (U1 (.ref it)) Q E s:=by
 cases b
 ·exact wpAny_nextOf_list_end hh hit ht hx hE
 ·exact qEQ hh hit ht hx hE
theorem qSR {b:Bool} {z TI TO i1 i2 l1 l2:Addr} {k1 k2:Nat} {xs ys:Array Value} {x y a c:Value} {Q:Aa1} (D:C01 z TI TO i1 i2 l1 l2) (hz:IsZip s.heap z TI TO .none) (hTI:IsPair s.heap TI (.ref i1) (.ref i2)) (hTO:IsPair s.heap TO a c)
  (h1:SIt b s.heap i1 l1 k1) (h2:SIt b s.heap i2 l2 k2) (hl1:SSq b s.heap l1 xs) (hl2:SSq b s.heap l2 ys) (hx:xs[k1]?=some x) (hy:ys[k2]?=some y)
  (hQ:∀ h':Heap,IsZip h' z TI TO (rawInt (s.heap.objs.size:Int))->IsPair h' TO x y->SIt b h' i1 l1 (k1+1)->SIt b h' i2 l2 (k2+1)->IsPair h' s.heap.objs.size x y->h'.objs.size=s.heap.objs.size+1->
   (∀ (c:Addr) (o:Obj),c ≠ z->c ≠ TO->c ≠ i1->c ≠ i2->s.heap.get? c=some o->h'.get? c=some o)->Q (.ref s.heap.objs.size) { s with heap:=h' }) :
  wpAny (model prog w) A (Builtin.«zip.__next__» { pos:=[.ref z] }) (fun fin s'=>∃ v,fin=.done (.ret v)/\Q v s') E s:=by
 show wpAny _ _ (field (.ref z) 2 >>= _) _ _ _;refine B26 (B45 hz rfl rfl ?_);show wpAny _ _ (field (.ref z) 3 >>= _) _ _ _;refine B26 (B45 hz rfl rfl ?_);refine B26 (B47 hTI rfl ?_);show wpAny _ _ (R0 (.ref z) >>= _) _ _ _;refine B26 ?_;show wpAny _ _ (field (.ref z) 0 >>= _) _ _ _;refine B26 (B45 hz rfl rfl (B27 ?_));refine wpAny_ite_true rfl ?_;refine B26 (B53 ?_);refine B26 (B45 hz rfl rfl ?_);refine B26 (B57 hz (by simp) fun hA gz sb=>?_)
 refine B26 ?_;show wpAny _ _ (forIn [(C7 i1,0),(C7 i2,1)] _ _) _ _ _;rw [O9];refine B26 ?_;dsimp only;refine B26 (C00 ?_);have e:((#[L0,Q3 false,Q3 false,C7 TI,C7 TO][2] == Q3 true)=false):=rfl;rw [e];have sA1:SIt b hA i1 l1 k1:=h1.at fun o q=>(sb.2 _ D.i1z).trans q;have sL1:SSq b hA l1 xs:=hl1.at fun o q=>(sb.2 _ D.l1z).trans q;refine B26 (qGB (s:={ s with heap:=hA }) sA1 sL1 hx fun hB nB sB=>?_);refine B27 ?_;have tB:IsPair hB TO a c:=(sB.2 _ D.TOi1).trans ((sb.2 _ D.TOz).trans hTO);refine B26 (B47 tB rfl ?_);refine B26 (C10 tB fun hC tC sC=>?_);refine B26 (B86 (B27 ?_));dsimp only;rw [O9];refine B26 ?_;refine B26 (C00 ?_);have sC2:SIt b hC i2 l2 k2:=h2.at fun o q=>(sC.2 _ (F2 D.TOi2)).trans ((sB.2 _ (F2 D.i12)).trans ((sb.2 _ D.i2z).trans q));have sL2:SSq b hC l2 ys:=hl2.at fun o q=>(sC.2 _ D.l2TO).trans ((sB.2 _ D.l2i1).trans ((sb.2 _ D.l2z).trans q));refine B26 (qGB (s:={ s with heap:=hC }) sC2 sL2 hy fun hD nD sD=>?_);refine B27 ?_;have tD:IsPair hD TO x c:=(sD.2 _ D.TOi2).trans tC;refine B26 (B47 tD rfl ?_);refine B26 (C10 tD fun hF tF sF=>?_);refine B26 (B86 (B27 ?_));dsimp only;rw [A38];refine B27 ?_;dsimp only;have tF':IsPair hF TO x y:=tF;refine B26 (B47 tF' rfl ?_);refine B26 (wpAny_newTuple ?_ (by show 2<=B28;decide))
 have gzF:hF.get? z=some { cls:=.type "zip",data:=.fields #[.ellipsis,.bool false,.bool false,.ref TI,.ref TO] }:=(sF.2 _ (F2 D.TOz)).trans ((sD.2 _ (F2 D.i2z)).trans ((sC.2 _ (F2 D.TOz)).trans ((sB.2 _ (F2 D.i1z)).trans gz)));have szF:hF.objs.size=s.heap.objs.size:=sF.1.trans (sD.1.trans (sC.1.trans (sB.1.trans sb.1)));have ltz:z<hF.objs.size:=A9 gzF;have gzG:(hF.push { cls:=.type "tuple",data:=.seq #[x,y] }).get? z=some { cls:=.type "zip",data:=.fields #[.ellipsis,.bool false,.bool false,.ref TI,.ref TO] }:=A3 _ gzF;refine B26 ?_;show wpAny _ _ (setField (.ref z) 0 (rawInt _) >>= _) _ _ _;refine B26 (B57 gzG (by simp) fun hG gG sG=>?_)
 refine B57 gG (by simp) fun hI gI sI=>?_
 refine B27 ⟨_,rfl,?_⟩;have o4:∀ (c:Addr) (o:Obj),c ≠ z->c ≠ TO->c ≠ i1->c ≠ i2->s.heap.get? c=some o->hI.get? c=some o:=fun c o n1 n2 n3 n4 e=>
  (sI.2 _ n1).trans ((sG.2 _ n1).trans (A3 _ ((sF.2 _ n2).trans ((sD.2 _ n4).trans ((sC.2 _ n2).trans ((sB.2 _ n3).trans ((sb.2 _ n1).trans e)))))))
 have nz:hF.objs.size ≠ z:=R9 ltz;have gT:hI.get? hF.objs.size=some { cls:=.type "tuple",data:=.seq #[x,y] }:=(sI.2 _ nz).trans ((sG.2 _ nz).trans (A8 _ rfl));have szI:hI.objs.size=hF.objs.size+1:=sI.1.trans (sG.1.trans (L7 ..));have pz:∀ {c:Addr} {o:Obj},c ≠ z->hF.get? c=some o->hI.get? c=some o:=fun n e=>(sI.2 _ n).trans ((sG.2 _ n).trans (A3 _ e));have q:=hQ hI;rw [<- szF] at q;refine q gI (pz D.TOz tF') (nB.at fun o e=>pz D.i1z ((sF.2 _ (F2 D.TOi1)).trans ((sD.2 _ D.i12).trans ((sC.2 _ (F2 D.TOi1)).trans e)))) (nD.at fun o e=>pz D.i2z ((sF.2 _ (F2 D.TOi2)).trans e)) gT szI o4
theorem qWF {b:Bool} {z TI TO i1 i2 l1 l2:Addr} {k1:Nat} {xs:Array Value} {Q:PySem.Fin->Shared->Prop} (hh:A.handled=none) (D:C01 z TI TO i1 i2 l1 l2) (hz:IsZip s.heap z TI TO .none) (hTI:IsPair s.heap TI (.ref i1) (.ref i2))
  (h1:SIt b s.heap i1 l1 k1) (hl1:SSq b s.heap l1 xs) (hx:xs[k1]?=none)
  (hE:∀ (h':Heap) (e:Addr),(∀ (c:Addr) (o:Obj),c ≠ z->c ≠ i1->s.heap.get? c=some o->h'.get? c=some o)->(∃ o,h'.get? e=some o/\o.cls=.type "StopIteration")->E (.ref e) { s with heap:=h' }) :
  wpAny (model prog w) A (Builtin.«zip.__next__» { pos:=[.ref z] }) Q E s:=by
 show wpAny _ _ (field (.ref z) 2 >>= _) _ _ _;refine B26 (B45 hz rfl rfl ?_);show wpAny _ _ (field (.ref z) 3 >>= _) _ _ _;refine B26 (B45 hz rfl rfl ?_);refine B26 (B47 hTI rfl ?_);show wpAny _ _ (R0 (.ref z) >>= _) _ _ _;refine B26 ?_;show wpAny _ _ (field (.ref z) 0 >>= _) _ _ _;refine B26 (B45 hz rfl rfl (B27 ?_));refine wpAny_ite_true rfl ?_;refine B26 (B53 ?_);refine B26 (B45 hz rfl rfl ?_);refine B26 (B57 hz (by simp) fun hA gz sb=>?_)
 refine B26 ?_;show wpAny _ _ (forIn [(C7 i1,0),(C7 i2,1)] _ _) _ _ _;rw [O9];refine B26 ?_;dsimp only;refine B26 (C00 ?_);have e:((#[L0,Q3 false,Q3 false,C7 TI,C7 TO][2] == Q3 true)=false):=rfl;rw [e];have sA1:SIt b hA i1 l1 k1:=h1.at fun o q=>(sb.2 _ D.i1z).trans q;have sL1:SSq b hA l1 xs:=hl1.at fun o q=>(sb.2 _ D.l1z).trans q;refine B26 (qKX (s:={ s with heap:=hA }) hh sA1 sL1 hx fun hB ea xB ⟨ob,gb,cb⟩=>?_);have gzB:=xB z _ (F2 D.i1z) gz;refine B57 gzB (by simp) fun hC gC sC=>?_
 have nez:ea ≠ z:=fun q=>by
  rw [q,gzB] at gb;cases gb;exact absurd (show U6 "zip" = U6 "StopIteration" from cb) (by decide)
 exact hE hC ea (fun c o n1 n2 q=>(sC.2 _ n1).trans (xB c o n2 ((sb.2 _ n1).trans q))) ⟨ob,(sC.2 _ nez).trans gb,cb⟩
theorem qSS {b:Bool} {z TI TO i1 i2 l1 l2:Addr} {k1 k2:Nat} {xs ys:Array Value} {x a c:Value} {Q:PySem.Fin->Shared->Prop} (hh:A.handled=none) (D:C01 z TI TO i1 i2 l1 l2) (hz:IsZip s.heap z TI TO .none) (hTI:IsPair s.heap TI (.ref i1) (.ref i2)) (hTO:IsPair s.heap TO a c)
  (h1:SIt b s.heap i1 l1 k1) (h2:SIt b s.heap i2 l2 k2) (hl1:SSq b s.heap l1 xs) (hl2:SSq b s.heap l2 ys) (hx:xs[k1]?=some x) (hy:ys[k2]?=none)
  (hE:∀ (h':Heap) (e:Addr),(∀ (c:Addr) (o:Obj),c ≠ z->c ≠ TO->c ≠ i1->c ≠ i2->s.heap.get? c=some o->h'.get? c=some o)->(∃ o,h'.get? e=some o/\o.cls=.type "StopIteration")->E (.ref e) { s with heap:=h' }) :
  wpAny (model prog w) A (Builtin.«zip.__next__» { pos:=[.ref z] }) Q E s:=by
 show wpAny _ _ (field (.ref z) 2 >>= _) _ _ _;refine B26 (B45 hz rfl rfl ?_);show wpAny _ _ (field (.ref z) 3 >>= _) _ _ _;refine B26 (B45 hz rfl rfl ?_);refine B26 (B47 hTI rfl ?_);show wpAny _ _ (R0 (.ref z) >>= _) _ _ _;refine B26 ?_;show wpAny _ _ (field (.ref z) 0 >>= _) _ _ _;refine B26 (B45 hz rfl rfl (B27 ?_));refine wpAny_ite_true rfl ?_;refine B26 (B53 ?_);refine B26 (B45 hz rfl rfl ?_);refine B26 (B57 hz (by simp) fun hA gz sb=>?_)
 refine B26 ?_;show wpAny _ _ (forIn [(C7 i1,0),(C7 i2,1)] _ _) _ _ _;rw [O9];refine B26 ?_;dsimp only;refine B26 (C00 ?_);have e:((#[L0,Q3 false,Q3 false,C7 TI,C7 TO][2] == Q3 true)=false):=rfl;rw [e];have sA1:SIt b hA i1 l1 k1:=h1.at fun o q=>(sb.2 _ D.i1z).trans q;have sL1:SSq b hA l1 xs:=hl1.at fun o q=>(sb.2 _ D.l1z).trans q;refine B26 (qGB (s:={ s with heap:=hA }) sA1 sL1 hx fun hB nB sB=>?_);refine B27 ?_;have tB:IsPair hB TO a c:=(sB.2 _ D.TOi1).trans ((sb.2 _ D.TOz).trans hTO);refine B26 (B47 tB rfl ?_);refine B26 (C10 tB fun hC tC sC=>?_);refine B26 (B86 (B27 ?_));dsimp only;rw [O9];refine B26 ?_;refine B26 (C00 ?_);have sC2:SIt b hC i2 l2 k2:=h2.at fun o q=>(sC.2 _ (F2 D.TOi2)).trans ((sB.2 _ (F2 D.i12)).trans ((sb.2 _ D.i2z).trans q));have sL2:SSq b hC l2 ys:=hl2.at fun o q=>(sC.2 _ D.l2TO).trans ((sB.2 _ D.l2i1).trans ((sb.2 _ D.l2z).trans q));refine B26 (qKX (s:={ s with heap:=hC }) hh sC2 sL2 hy fun hD ea xD ⟨ob,gb,cb⟩=>?_);have gzC:hC.get? z=some { cls:=.type "zip",data:=.fields #[.ellipsis,.bool false,.bool false,.ref TI,.ref TO] }:=(sC.2 _ (F2 D.TOz)).trans ((sB.2 _ (F2 D.i1z)).trans gz);have gzD:=xD z _ (F2 D.i2z) gzC;refine B57 gzD (by simp) fun hF gF sF=>?_
 have nez:ea ≠ z:=fun q=>by
  rw [q,gzD] at gb;cases gb;exact absurd (show U6 "zip" = U6 "StopIteration" from cb) (by decide)
 exact hE hF ea (fun c o n1 n2 n3 n4 q=>(sF.2 _ n1).trans (xD c o n4 ((sC.2 _ n2).trans ((sB.2 _ n3).trans ((sb.2 _ n1).trans q))))) ⟨ob,(sF.2 _ nez).trans gb,cb⟩
section
variable {b:Bool} {prog:B30} {w:World} {A:Around} {E:Aa1} {s:Shared} {z TI TO i1 i2 l1 l2:Addr} {k1 k2:Nat} {xs ys:Array Value}
theorem qIE {x y a c:Value} {Q:Option Value->Shared->Prop} (D:C01 z TI TO i1 i2 l1 l2) (hz:IsZip s.heap z TI TO .none) (hTI:IsPair s.heap TI (.ref i1) (.ref i2)) (hTO:IsPair s.heap TO a c)
  (h1:SIt b s.heap i1 l1 k1) (h2:SIt b s.heap i2 l2 k2) (hl1:SSq b s.heap l1 xs) (hl2:SSq b s.heap l2 ys) (hx:xs[k1]?=some x) (hy:ys[k2]?=some y)
  (hQ:∀ h':Heap,IsZip h' z TI TO (rawInt (s.heap.objs.size:Int))->IsPair h' TO x y->SIt b h' i1 l1 (k1+1)->SIt b h' i2 l2 (k2+1)->IsPair h' s.heap.objs.size x y->h'.objs.size=s.heap.objs.size+1->
   (∀ (c:Addr) (o:Obj),c ≠ z->c ≠ TO->c ≠ i1->c ≠ i2->s.heap.get? c=some o->h'.get? c=some o)->Q (some (.ref s.heap.objs.size)) { s with heap:=h' }) :
  wpAny (model prog w) A (pyNext (.ref z)) Q E s:=by
 have hT:s.TypeIs (.ref z) "zip":=⟨_,hz,rfl⟩;unfold pyNext;refine B26 (B68 (wpAny_callSpecial?_slot (name:=D4 "__next__") hT X3 (B37 X3 hT A08 ?_ (y9 _))));exact qSR (Q:=fun v s'=>wpAny (model prog w) A (pure (some v)) Q E s') D hz hTI hTO h1 h2 hl1 hl2 hx hy fun h' q1 q2 q3 q4 q5 q6 q7=>B27 (hQ h' q1 q2 q3 q4 q5 q6 q7)
theorem qJ5 {Q:Option Value->Shared->Prop} (hh:A.handled=none) (D:C01 z TI TO i1 i2 l1 l2) (hz:IsZip s.heap z TI TO .none) (hTI:IsPair s.heap TI (.ref i1) (.ref i2))
  (h1:SIt b s.heap i1 l1 k1) (hl1:SSq b s.heap l1 xs) (hx:xs[k1]?=none)
  (hQ:∀ h':Heap,(∀ (c:Addr) (o:Obj),c ≠ z->c ≠ i1->s.heap.get? c=some o->h'.get? c=some o)->Q none { s with heap:=h' }) :
  wpAny (model prog w) A (pyNext (.ref z)) Q E s:=by
 have hT:s.TypeIs (.ref z) "zip":=⟨_,hz,rfl⟩;unfold pyNext;refine B26 (B68 (wpAny_callSpecial?_slot (name:=D4 "__next__") hT X3 (B37 X3 hT A08 ?_ (y9 _))));refine qWF hh D hz hTI h1 hl1 hx fun h' e k ⟨o,g,c⟩=>?_;refine B26 (B84 (T:="StopIteration") (b:=true) ⟨_,g,c⟩ isSubtype_stop ?_);exact B27 (hQ h' k)
theorem qIF {x a c:Value} {Q:Option Value->Shared->Prop} (hh:A.handled=none) (D:C01 z TI TO i1 i2 l1 l2) (hz:IsZip s.heap z TI TO .none) (hTI:IsPair s.heap TI (.ref i1) (.ref i2)) (hTO:IsPair s.heap TO a c)
  (h1:SIt b s.heap i1 l1 k1) (h2:SIt b s.heap i2 l2 k2) (hl1:SSq b s.heap l1 xs) (hl2:SSq b s.heap l2 ys) (hx:xs[k1]?=some x) (hy:ys[k2]?=none)
  (hQ:∀ h':Heap,(∀ (c:Addr) (o:Obj),c ≠ z->c ≠ TO->c ≠ i1->c ≠ i2->s.heap.get? c=some o->h'.get? c=some o)->Q none { s with heap:=h' }) :
  wpAny (model prog w) A (pyNext (.ref z)) Q E s:=by
 have hT:s.TypeIs (.ref z) "zip":=⟨_,hz,rfl⟩;unfold pyNext;refine B26 (B68 (wpAny_callSpecial?_slot (name:=D4 "__next__") hT X3 (B37 X3 hT A08 ?_ (y9 _))));refine qSS hh D hz hTI hTO h1 h2 hl1 hl2 hx hy fun h' e k ⟨o,g,c⟩=>?_;refine B26 (B84 (T:="StopIteration") (b:=true) ⟨_,g,c⟩ isSubtype_stop ?_);exact B27 (hQ h' k)
end
abbrev qKG (b:Bool) (l:Addr):Obj:={ cls:=.type (match b with | true=>"tuple_iterator" | false=>"list_iterator"),data:=.fields #[.ref l,.int 0 0] }
theorem qHJ {b:Bool} {l:Addr} {xs:Array Value} {Q:Aa1} (h:SSq b s.heap l xs) (hQ:Q (.ref s.heap.objs.size) { s with heap:=s.heap.push (qKG b l) }):wpAny (model prog w) A (pyIter (.ref l)) Q E s:=by
 cases b
 ·exact B51 h hQ
 ·exact wpAny_pyIter_tuple h hQ
abbrev zb1 (b:Bool) (h:Heap) (l1:Addr):Heap:=h.push (qKG b l1)
abbrev zb2 (b:Bool) (h:Heap) (l1 l2:Addr):Heap:=(zb1 b h l1).push (qKG b l2)
abbrev zb3 (b:Bool) (h:Heap) (l1 l2:Addr):Heap:=(zb2 b h l1 l2).push { cls:=.type "tuple",data:=.seq #[.ref h.objs.size,.ref (zb1 b h l1).objs.size] }
abbrev zb4 (b:Bool) (h:Heap) (l1 l2:Addr):Heap:=(zb3 b h l1 l2).push { cls:=.type "tuple",data:=.seq #[.none,.none] }
abbrev zb5 (b:Bool) (h:Heap) (l1 l2:Addr):Heap:=(zb4 b h l1 l2).push { cls:=.type "zip",data:=.fields #[.none,.bool false,.bool false,.ref (zb2 b h l1 l2).objs.size,.ref (zb3 b h l1 l2).objs.size] }
theorem qWE (b:Bool) (l1 l2:Addr) (xs ys:Array Value):Meets (Builtin.«zip.__new__» { pos:=[.type "zip",.ref l1,.ref l2] }) fun _ R s=>
  SSq b s.heap l1 xs/\SSq b s.heap l2 ys/\R (.ok (.ret (.ref (zb4 b s.heap l1 l2).objs.size))) { s with heap:=zb5 b s.heap l1 l2 }:=by
 refine Meets.of_wp fun prog w A R s h=>?_;obtain ⟨hp,g,d,tk,os⟩:=s;obtain ⟨hl1,hl2,h⟩:=h;have hL2:SSq b (hp.push (qKG b l1)) l2 ys:=SSq.at hl2 fun o q=>A3 _ q;refine B26 ?_;refine B26 (B27 ?_);refine B65 rfl ?_;refine B26 (B78 sub_zip ?_);refine B65 rfl ?_;refine B27 ?_;refine B65 rfl ?_;refine B26 ?_;refine B26 ?_;show wpAny _ _ (forIn [C7 l1,C7 l2] #[] _) _ _ _;rw [O9];refine B26 (B26 (B34 (qHJ hl1 (B27 ?_))));dsimp only;rw [O9];refine B26 (B26 (B34 (qHJ hL2 (B27 ?_))));dsimp only;rw [A38];refine B27 (B27 ?_);refine B26 (wpAny_newTuple ?_ (by show 2<=B28;decide))
 refine B26 (wpAny_newTuple ?_ (by show 2<=B28;decide))
 refine B26 ?_;unfold W6;dsimp only;refine B36 ?_ (by first | rfl | (show (5:Nat)<=_;decide) | (show (5:Nat)<=B28+2;rw [B39];decide))
 refine B27 ⟨_,rfl,h⟩
theorem qVN {b:Bool} {l1 l2:Addr} {xs ys:Array Value} {Q:Aa1} (hl1:SSq b s.heap l1 xs) (hl2:SSq b s.heap l2 ys)
  (hQ:∀ (h':Heap) (z TI TO i1 i2:Addr),C01 z TI TO i1 i2 l1 l2->IsZip h' z TI TO .none->IsPair h' TI (.ref i1) (.ref i2)->IsPair h' TO .none .none->SIt b h' i1 l1 0->SIt b h' i2 l2 0->(∀ c ∈ [z,TI,TO,i1,i2],s.heap.objs.size<=c)->
   (∀ (c:Addr) (o:Obj),s.heap.get? c=some o->h'.get? c=some o)->Q (.ref z) { s with heap:=h' }) :
  wpAny (model prog w) A (call (.type "zip") [.ref l1,.ref l2]) Q E s:=by
 refine callType_new F.called_zip (by decide) (F.typeCall_zip_2 _ _) (F.newCall_zip_2 _ _) (fun obj=>F.args_object_init_3 obj _ _) F.entry_zip_new (qWE b l1 l2 xs ys) ⟨hl1,hl2,?_⟩
 have z1:(zb1 b s.heap l1).objs.size=s.heap.objs.size+1:=L7 ..;have z2:(zb2 b s.heap l1 l2).objs.size=s.heap.objs.size+2:=(L7 ..).trans (by rw [z1])
 have z3:(zb3 b s.heap l1 l2).objs.size=s.heap.objs.size+3:=(L7 ..).trans (by rw [z2])
 have z4:(zb4 b s.heap l1 l2).objs.size=s.heap.objs.size+4:=(L7 ..).trans (by rw [z3])
 have g5:(zb5 b s.heap l1 l2).get? (zb4 b s.heap l1 l2).objs.size=some { cls:=.type "zip",data:=.fields #[.none,.bool false,.bool false,.ref (zb2 b s.heap l1 l2).objs.size,.ref (zb3 b s.heap l1 l2).objs.size] }:=A8 _ rfl;have g4:(zb5 b s.heap l1 l2).get? (zb3 b s.heap l1 l2).objs.size=some { cls:=.type "tuple",data:=.seq #[.none,.none] }:=A3 _ (A8 _ rfl);have g3:(zb5 b s.heap l1 l2).get? (zb2 b s.heap l1 l2).objs.size=some { cls:=.type "tuple",data:=.seq #[.ref s.heap.objs.size,.ref (zb1 b s.heap l1).objs.size] }:=A3 _ (A3 _ (A8 _ rfl));have g2:(zb5 b s.heap l1 l2).get? (zb1 b s.heap l1).objs.size=some (qKG b l2):=A3 _ (A3 _ (A3 _ (A8 _ rfl)));have g1:(zb5 b s.heap l1 l2).get? s.heap.objs.size=some (qKG b l1):=A3 _ (A3 _ (A3 _ (A3 _ (A8 _ rfl))));have lt:∀ {l:Addr} {zs:Array Value},SSq b s.heap l zs->l<s.heap.objs.size:=fun {l zs} q=>by
  cases b
  ·obtain ⟨o,e,_⟩:=q;exact A9 e
  ·obtain ⟨o,e,_⟩:=q;exact A9 e
 refine ⟨⟨_,g5,rfl⟩,?_⟩;have D:=zipApart_new (n:=s.heap.objs.size) (lt hl1) (lt hl2);rw [<- z4,<- z3,<- z2,<- z1] at D;refine hQ _ _ _ _ _ _ D g5 g3 g4 ?_ ?_ ?_ fun c o e=>A3 _ (A3 _ (A3 _ (A3 _ (A3 _ e))))
 ·cases b
  ·exact ⟨_,g1,rfl,rfl⟩
  ·exact ⟨_,g1,rfl,rfl⟩
 ·cases b
  ·exact ⟨_,g2,rfl,rfl⟩
  ·exact ⟨_,g2,rfl,rfl⟩
 ·intro c hc;have e':c=(zb4 b s.heap l1 l2).objs.size\/c=(zb2 b s.heap l1 l2).objs.size\/c=(zb3 b s.heap l1 l2).objs.size\/c=s.heap.objs.size\/c=(zb1 b s.heap l1).objs.size:=by simpa using hc
  rcases e' with rfl | rfl | rfl | rfl | rfl
  ·lia
  ·lia
  ·lia
  ·exact A6 _
  ·lia
def SqB (b:Bool) (K:Ab1) (H:Hp) (a:Addr) (xs:List V):Prop:=match b with | true=>SqT K H a xs | false=>SqL K H a xs
def Itz (K:Ab1) (b:Bool) (l1 l2:Addr):It:=
 ⟨fun i H=>∃ xs ys x y,SqB b K H l1 xs/\SqB b K H l2 ys/\xs[i]?=some x/\ys[i]?=some y,fun i H v H'=>∃ T x y,H T=none/\v=.ref T/\H'=Ag H T (.tup [x,y])/\∀ xs ys,SqB b K H l1 xs->SqB b K H l2 ys->xs[i]?=some x/\ys[i]?=some y,fun i H=>∃ xs,SqB b K H l1 xs/\(xs.length<=i\/∃ ys x,SqB b K H l2 ys/\xs[i]?=some x/\ys.length<=i)⟩
section
variable {X:Cx}
theorem Inv.seqB {b:Bool} {Ab:Aa2} {σ:St} {H:Hp} {a:Addr} {xs:List V} (I:Inv X Ab σ H s) (h:SqB b X.K H a xs):∃ its:List Value,Vals xs its/\SSq b s.heap a its.toArray:=by
 cases b
 ·obtain ⟨its,rv,p,_⟩:=I.list h;exact ⟨its,rv,p.isList⟩
 ·obtain ⟨its,rv,p,_⟩:=I.tuple h;exact ⟨its,rv,p⟩
theorem Inv.seqB_inj {b:Bool} {Ab:Aa2} {σ:St} {H:Hp} {a:Addr} {xs ys:List V} (I:Inv X Ab σ H s) (h:SqB b X.K H a xs) (h':SqB b X.K H a ys):xs=ys:=by
 cases b
 ·exact I.list_inj h h'
 ·exact I.tuple_inj h h'
theorem qWK {K:Ab1} {elts:List Expr} {k:Nat} {pos:Pos} {b:Bool} {z TI TO i1 i2 l1 l2:Addr} (D:C01 z TI TO i1 i2 l1 l2):Turn P w K (.Tuple elts k pos) (Itz K b l1 l2) [z,TI,TO,i1,i2] z (fun i h=>IsZip h z TI TO .none/\IsPair h TI (.ref i1) (.ref i2)/\(∃ a c,IsPair h TO a c)/\SIt b h i1 l1 i/\SIt b h i2 l2 i) where
 mem:=by simp
 obj:=fun i h ⟨h1,h2,⟨a,c,h3⟩,h4,h5⟩ d hd=>by
  have it:∀ {j l:Addr},SIt b h j l i->∃ o,h.get? j=some o/\∀ v,o.data ≠ .cell v:=fun {j l} q=>by
   cases b
   ·obtain ⟨o,e,_,q⟩:=q;exact ⟨o,e,fun v z=>by rw [q] at z;cases z⟩
   ·obtain ⟨o,e,_,q⟩:=q;exact ⟨o,e,fun v z=>by rw [q] at z;cases z⟩
  have e':d=z\/d=TI\/d=TO\/d=i1\/d=i2:=by simpa using hd
  rcases e' with rfl | rfl | rfl | rfl | rfl
  ·exact ⟨_,h1,fun v z=>by
    have z':A05 _=u9 v:=z;cases z'⟩
  ·exact ⟨_,h2,fun v z=>by
    have z':Data.seq _=u9 v:=z;cases z'⟩
  ·exact ⟨_,h3,fun v z=>by
    have z':Data.seq _=u9 v:=z;cases z'⟩
  ·exact it h4
  ·exact it h5
 keep:=fun i h h' ⟨h1,h2,⟨a,c,h3⟩,h4,h5⟩ kk=>⟨kk z (by simp) _ h1,kk TI (by simp) _ h2,⟨a,c,kk TO (by simp) _ h3⟩,h4.at fun o q=>kk i1 (by simp) o q,h5.at fun o q=>kk i2 (by simp) o q⟩
 item:=by
  intro X hP hw hK hc i Ab s σ H E I hf st hg;subst hP hw hK;obtain ⟨xs,ys,x,y,hq1,hq2,hx,hy⟩:=hg;obtain ⟨its,rv,p1⟩:=I.seqB hq1;obtain ⟨jts,rw',p2⟩:=I.seqB hq2;obtain ⟨u,hu,ru⟩:=rv.get hx;obtain ⟨v,hv,rv'⟩:=rw'.get hy;obtain ⟨h1,h2,⟨a,c,h3⟩,h4,h5⟩:=st;refine qIE D h1 h2 h3 h4 h5 p1 p2 (x:=u) (y:=v) (by simpa using hu) (by simpa using hv) fun h' a1 a2 a3 a4 a5 a6 a7=>?_
  refine ⟨_,rfl,wpAny_letOwnedTupleGo_zip a1 fun h2' b1 b2=>?_⟩;have ltz:z<s.heap.objs.size:=A9 h1;have nz:s.heap.objs.size ≠ z:=R9 ltz;have I1:Inv X Ab σ H { s with heap:=h2',toks:=s.toks }:=I.turnedL (ch:=[z,TI,TO,i1,i2]) (fun d o hd q=>by
   have e1:d ≠ z:=fun q=>hd (by simp [q])
   exact (b2.2 d e1).trans (a7 d o e1 (fun q=>hd (by simp [q])) (fun q=>hd (by simp [q])) (fun q=>hd (by simp [q])) q)) hf
  have hT:H s.heap.objs.size=none:=I.hok.fresh (A6 _);have fT:=I.fpOk (H':=H) (b:=s.heap.objs.size) (A6 _) hT;have gT:h2'.get? s.heap.objs.size=some { cls:=.type "tuple",data:=.seq #[u,v] }:=(b2.2 _ nz).trans a5;refine ⟨.ref s.heap.objs.size,Ag H s.heap.objs.size (.tup [x,y]),I1.track hT I.sz fT.2.1 fT.2.2.2.2.1 fT.2.2.2.2.2 ⟨by simp only [E2,L5];rw [B39];decide,[u,v],.cons ru (.cons rv' .nil),⟨_,gT,rfl,_,rfl⟩⟩,rfl,
   ⟨_,x,y,hT,rfl,rfl,fun xs' ys' e1 e2=>by rw [I.seqB_inj e1 hq1,I.seqB_inj e2 hq2];exact ⟨hx,hy⟩⟩,⟨b1,(b2.2 _ D.TIz).trans (a7 _ _ D.TIz D.TITO D.TIi1 D.TIi2 h2),⟨u,v,(b2.2 _ D.TOz).trans a2⟩,a3.at fun o q=>(b2.2 _ D.i1z).trans q,a4.at fun o q=>(b2.2 _ D.i2z).trans q⟩,fun d hd=>?_⟩
  have ltb:d<s.heap.objs.size:=by
   have it:∀ {j l:Addr} {n:Nat},SIt b s.heap j l n->j<s.heap.objs.size:=fun {j l n} q=>by
    cases b
    ·obtain ⟨o,e,_,q⟩:=q;exact A9 e
    ·obtain ⟨o,e,_,q⟩:=q;exact A9 e
   have e':d=z\/d=TI\/d=TO\/d=i1\/d=i2:=by simpa using hd
   rcases e' with rfl | rfl | rfl | rfl | rfl
   ·exact ltz
   ·exact A9 h2
   ·exact A9 h3
   ·exact it h4
   ·exact it h5
  rw [qA9 (C2 ltb)];exact (hf d hd).1
 done:=by
  intro X hP hw hK hc i Ab s σ H E I hf st hg;subst hP hw hK;obtain ⟨xs,hq,hx⟩:=hg;obtain ⟨its,rv,p⟩:=I.seqB hq;have hl:=rv.length;obtain ⟨h1,h2,⟨a,c,h3⟩,h4,h5⟩:=st;rcases hx with hx | ⟨ys,x,hq2,hxx,hy⟩
  rotate_left
  ·obtain ⟨jts,rw',p2⟩:=I.seqB hq2;have hl2:=rw'.length;obtain ⟨u,hu,ru⟩:=rv.get hxx;exact qIF (I.ok.hd hc) D h1 h2 h3 h4 h5 p p2 (x:=u) (by simpa using hu) (by simp;lia) fun h' eb=>⟨rfl,I.turnedL (t':=s.toks) (ch:=[z,TI,TO,i1,i2]) (fun d o hd q=>eb d o (fun z=>hd (by simp [z])) (fun z=>hd (by simp [z])) (fun z=>hd (by simp [z])) (fun z=>hd (by simp [z])) q) hf⟩
  exact qJ5 (I.ok.hd hc) D h1 h2 h4 p (by simp;lia) fun h' eb=>⟨rfl,I.turnedL (t':=s.toks) (ch:=[z,TI,TO,i1,i2]) (fun d o hd q=>eb d o (fun z=>hd (by simp [z])) (fun z=>hd (by simp [z])) q) hf⟩
 self:=fun _ _ _ _ _ ⟨h1,_⟩ h=>wpAny_pyIter_zip h1 h
def iZip (K:Ab1) (ta:TA):TI:=fun σ H R=>ta σ H fun vs H1=>∃ b l m,vs=[.ref l,.ref m]/\(∃ xs,SqB b K H1 l xs)/\(∃ xs,SqB b K H1 m xs)/\R (Itz K b l m) H1
theorem qYL {elts:List Expr} {k:Nat} {tpos:Pos} {a b:Expr} {ta:TA} {p pos:Pos} (hg:Gl X "zip") (hm:X.mg "zip" = none) (hv:B33 "zip" = some (.type "zip")) (ha:PA X [a,b] ta) (hs:B35 [a,b] X.env=[(false,eval a X.env),(false,eval b X.env)]:=by rfl) (hs2:B35 [b] X.env=[(false,eval b X.env)]:=by rfl) :
  PI X (.Tuple elts k tpos) (.Call (.Name "zip" p) [a,b] [] pos) (iZip X.K ta):=by
 intro Ab s σ H R I h;refine Call_ (qG4 I hg hm hv (G4 (thn (ha pos Ab s σ H _ I h) fun us s1 ⟨vs,H1,I1,r1,q1⟩=>?_) (by rw [hs,hs2]) (by rw [hs2];rfl)))
 obtain ⟨bb,l,m,e,⟨xs,hq⟩,⟨ys,hq2⟩,q⟩:=q1;subst e;obtain ⟨u,v,rfl,rx,ry⟩:=qKC r1;cases rx;cases ry;obtain ⟨its,rv,pl⟩:=I1.seqB hq;obtain ⟨jts,rw',pm⟩:=I1.seqB hq2;refine qVN pl pm fun h' z TI TO i1 i2 D hz hTI hTO hi1 hi2 hfr hk=>?_;refine wpAny_pyIter_zip hz ?_;have I2:Inv X Ab σ H1 { s1 with heap:=h' }:=I1.kept (t':=s1.toks) hk;exact ⟨z,[z,TI,TO,i1,i2],_,_,H1,rfl,I2,qWK (b:=bb) D,⟨hz,hTI,⟨_,_,hTO⟩,hi1,hi2⟩,fun c hc=>I1.fpOk (hfr c hc) (I1.hok.fresh (hfr c hc)),q⟩
end
theorem qYT {K:Ab1} {b:Bool} {l m:Addr} {xs ys:List V} {g:TG} {tc:TT} {te:TE} {Kf:Hp->Prop} {σ0:St} {H0:Hp} {p:Addr} (hlen:xs.length=ys.length) (Pv:Nat->St->Hp->Prop) (h0:Pv 0 σ0 H0) (hl:∀ i σ H,i<=xs.length->Pv i σ H->SqB b K H l xs/\SqB b K H m ys)
  (hs:∀ i x y σ H T,xs[i]?=some x->ys[i]?=some y->Pv i σ H->H T=none->g (.ref T) σ (Ag H T (.tup [x,y])) fun σ2 H2=>tc σ2 H2 fun b H3=>if b=true then te σ2 H3 fun y H4=>∃ ys,H4 p=some (.lst ys)/\ys.length<B28/\Pv (i+1) σ2 (Ag H4 p (.lst (ys++[y]))) else Pv (i+1) σ2 H3)
  (hd:∀ σ H,Pv xs.length σ H->Kf H) :
  LcG (Itz K b l m) g tc te Kf σ0 H0 p:=by
 refine ⟨fun i n σ H=>n=xs.length - i/\i<=xs.length/\Pv i σ H,⟨xs.length,by simp,E5 _,h0⟩,?_⟩
 rintro i n σ H ⟨rfl,hi,q⟩;have hq:=hl i σ H hi q;by_cases hlt:i<xs.length
 ·refine .inr ⟨⟨xs,ys,xs[i],ys[i]'(by lia),hq.1,hq.2,by simp [hlt],A5 _⟩,Pv (i+1),fun σ' H' p'=>⟨xs.length - (i+1),by lia,rfl,hlt,p'⟩,fun v H' y=>?_⟩
  obtain ⟨T,x,y,hT,e1,e2,yy⟩:=y;subst e1 e2;exact hs i x y σ H T (yy xs ys hq.1 hq.2).1 (yy xs ys hq.1 hq.2).2 q hT
 ·have e:i=xs.length:=by lia
  subst e;exact .inl ⟨⟨xs,hq.1,.inl (A6 _)⟩,hd σ H q⟩
theorem qaA {K:Ab1} {b:Bool} {l m:Addr} {xs ys:List V} {g:TG} {tc:TT} {te:TE} {Kf:Hp->Prop} {σ0:St} {H0:Hp} {p:Addr} (hlen:ys.length<=xs.length) (Pv:Nat->St->Hp->Prop) (h0:Pv 0 σ0 H0) (hl:∀ i σ H,i<=ys.length->Pv i σ H->SqB b K H l xs/\SqB b K H m ys)
  (hs:∀ i x y σ H T,xs[i]?=some x->ys[i]?=some y->Pv i σ H->H T=none->g (.ref T) σ (Ag H T (.tup [x,y])) fun σ2 H2=>tc σ2 H2 fun b H3=>if b=true then te σ2 H3 fun y H4=>∃ ys,H4 p=some (.lst ys)/\ys.length<B28/\Pv (i+1) σ2 (Ag H4 p (.lst (ys++[y]))) else Pv (i+1) σ2 H3)
  (hd:∀ σ H,Pv ys.length σ H->Kf H) :
  LcG (Itz K b l m) g tc te Kf σ0 H0 p:=by
 refine ⟨fun i n σ H=>n=ys.length - i/\i<=ys.length/\Pv i σ H,⟨ys.length,by simp,E5 _,h0⟩,?_⟩
 rintro i n σ H ⟨rfl,hi,q⟩;have hq:=hl i σ H hi q;by_cases hlt:i<ys.length
 ·refine .inr ⟨⟨xs,ys,xs[i]'(by lia),ys[i],hq.1,hq.2,A5 _,by simp [hlt]⟩,Pv (i+1),fun σ' H' p'=>⟨ys.length - (i+1),by lia,rfl,hlt,p'⟩,fun v H' y=>?_⟩
  obtain ⟨T,x,y,hT,e1,e2,yy⟩:=y;subst e1 e2;exact hs i x y σ H T (yy xs ys hq.1 hq.2).1 (yy xs ys hq.1 hq.2).2 q hT
 ·have e:i=ys.length:=by lia
  subst e;by_cases c:ys.length<xs.length
  ·exact .inl ⟨⟨xs,hq.1,.inr ⟨ys,xs[ys.length],hq.2,A5 _,A6 _⟩⟩,hd σ H q⟩
  ·exact .inl ⟨⟨xs,hq.1,.inl (by lia)⟩,hd σ H q⟩
theorem qSI {M:Model} {c:Value} {Q:Bool->Shared->Prop} (h:∀ b,Q b s):wpAny M A (Y5 c) Q E s:=by
 unfold Y5;exact B26 (wpAny_stack_any fun st=>B27 (h _))
theorem qV8 (l:Addr) (items:Array Value):Meets (Builtin.«enumerate.__new__» { pos:=[.type "enumerate",.ref l] }) fun _ R s=>
  s.heap.IsTuple l items/\R (.ok (.ret (.ref (s.heap.push (qKG true l)).objs.size))) { s with heap:=(s.heap.push (qKG true l)).push { cls:=.type "enumerate",data:=.fields #[.none,.bool false,.ref s.heap.objs.size,rawInt 0,.none,.none] } }:=by
 refine Meets.of_wp fun prog w A R s h=>?_;obtain ⟨hl,h⟩:=h;refine B26 ?_;refine B26 (B27 ?_);refine B65 rfl ?_;refine B26 (B78 sub_enumerate ?_);refine B65 rfl ?_;refine B27 ?_;refine wpAny_ite_true rfl ?_;refine B26 (qSI fun sh=>?_);have go:wpAny (model prog w) A.in1 (pyIter (.ref l) >>= fun it=>W6 (.type "enumerate") (A42++[it,rawInt 0,.none,.none]) >>= fun v=>ret v) (fun fin s'=>∃ v,fin=.done (.ret v)/\R (.ok (.ret v)) s') (fun e s'=>R (.error e) s') s:=by
  refine B26 (qHJ (b:=true) hl ?_);refine B26 ?_;unfold W6;dsimp only;refine B36 ?_ (by first | rfl | (show (6:Nat)<=B28+2;rw [B39];decide))
  exact B27 ⟨_,rfl,h⟩
 cases sh
 ·exact go
 ·exact go
theorem qLC {l:Addr} {items:Array Value} {Q:Aa1} (hl:s.heap.IsTuple l items)
  (h:∀ h':Heap,IsEnum h' (s.heap.objs.size+1) s.heap.objs.size 0 .none->h'.IsTupleIter s.heap.objs.size l 0->h'.objs.size=s.heap.objs.size+2->(∀ (b:Addr) (o:Obj),s.heap.get? b=some o->h'.get? b=some o)->Q (.ref (s.heap.objs.size+1)) { s with heap:=h' }) :
  wpAny (model prog w) A (call (.type "enumerate") [.ref l]) Q E s:=by
 refine callType_new F.called_enumerate (by decide) (F.typeCall_enumerate_1 _) (F.newCall_enumerate_1 _) (fun obj=>A28 obj _) F.entry_enumerate_new (qV8 l items) ⟨hl,?_⟩
 have z1:(s.heap.push (qKG true l)).objs.size=s.heap.objs.size+1:=L7 ..;rw [z1];have g:((s.heap.push (qKG true l)).push { cls:=.type "enumerate",data:=.fields #[.none,.bool false,.ref s.heap.objs.size,rawInt 0,.none,.none] }).get? (s.heap.objs.size+1)=some { cls:=.type "enumerate",data:=.fields #[.none,.bool false,.ref s.heap.objs.size,rawInt 0,.none,.none] }:=by
  rw [<- z1];exact A8 _ rfl
 exact ⟨⟨_,g,rfl⟩,h _ g ⟨_,A3 _ (A8 _ rfl),rfl,rfl⟩ ((L7 ..).trans (by rw [z1])) fun b o e=>A3 _ (A3 _ e)⟩
theorem qZ1 (hh:A.handled=none) (it l:Addr) (hne:l ≠ it) (items:Array Value):Draws prog w A it [it,l] items.size (fun i v=>items[i]?=some v) fun i h=>h.IsTupleIter it l i/\h.IsTuple l items where
 live:=fun i h ⟨⟨o,e,_⟩,_⟩=>⟨o,e⟩
 frame:=fun i h h' ⟨⟨o,e,r⟩,⟨o2,e2,r2⟩⟩ k=>⟨⟨o,k it (by simp) _ e,r⟩,⟨o2,k l (by simp) _ e2,r2⟩⟩
 item:=fun i s Q E hi ⟨h1,h2⟩ hQ=>qDX h1 h2 (B8 hi) fun h' a b=>hQ _ h' s.toks (B8 hi) ⟨a,by obtain ⟨o,e,r⟩:=h2;exact ⟨o,(b.2 l hne).trans e,r⟩⟩ b
 done:=fun s Q E ⟨h1,h2⟩ hE=>qEQ hh h1 h2 (by simp) hE
def IteT (K:Ab1) (l:Addr):It:=
 ⟨fun i H=>∃ xs x,SqT K H l xs/\xs[i]?=some x,fun i H v H'=>∃ T x,H T=none/\v=.ref T/\H'=Ag H T (.tup [.int (i:Int),x])/\∀ xs,SqT K H l xs->xs[i]?=some x,fun i H=>∃ xs,SqT K H l xs/\xs.length=i⟩
section
variable {X:Cx}
theorem qKQ {K:Ab1} {elts:List Expr} {k:Nat} {pos:Pos} (l it e:Addr) (hne:e ≠ it) (hl:l ≠ it) (hle:l ≠ e):Turn P w K (.Tuple elts k pos) (IteT K l) [e,it] e (fun i h=>(∃ old,IsEnum h e it i old)/\h.IsTupleIter it l i) where
 mem:=by simp
 obj:=fun i h st b hb=>by
  obtain ⟨⟨old,h1⟩,o,h2,_,h4⟩:=st;have e':b=e\/b=it:=by simpa using hb
  rcases e' with rfl | rfl
  ·exact ⟨_,h1,fun v z=>by
    have z':A05 _=u9 v:=z;cases z'⟩
  ·exact ⟨o,h2,fun v z=>by rw [h4] at z;cases z⟩
 keep:=fun i h h' st kk=>by
  obtain ⟨⟨old,h1⟩,h2⟩:=st;exact ⟨⟨old,kk e (by simp) _ h1⟩,h2.at fun o q=>kk it (by simp) o q⟩
 item:=by
  intro X hP hw hK hc i Ab s σ H E I hf st hg;subst hP hw hK;obtain ⟨xs,x,hq,hx⟩:=hg;obtain ⟨its,rv,p,hz⟩:=I.tuple hq;obtain ⟨u,hu,ru⟩:=rv.get hx;obtain ⟨⟨old,h1⟩,h2⟩:=st;have hsz:i<its.toArray.size:=by have:=(A4.mp hu).1;simpa using this
  refine wpAny_pyNext_enum_itemD (qZ1 (A:=X.A.in1) (I.ok.hd hc) it l hl its.toArray) h1 ⟨h2,p⟩ hsz hne (by simp [hne,F2 hle]) fun u' h' tk a0 a1 a2 a3 a4 a5=>?_
  have eu:u'=u:=by
   have:its[i]?=some u':=by simpa using a0
   rw [hu] at this;exact (D7 this).symm
  subst eu;refine ⟨_,rfl,wpAny_letOwnedTupleGo_enum a1 fun h2' b1 b2=>?_⟩;have ltE:e<s.heap.objs.size:=A9 h1;have I1:Inv X Ab σ H { s with heap:=h2',toks:=tk+1 }:=I.turnedL (ch:=[e,it]) (fun b o hb q=>by
   have hb1:b ≠ e:=fun z=>hb (by simp [z])
   have hb2:b ≠ it:=fun z=>hb (by simp [z])
   exact (b2.2 b hb1).trans (a5 b o hb1 hb2 q)) hf
  have hT:H s.heap.objs.size=none:=I.hok.fresh (A6 _);have fT:=I.fpOk (H':=H) (b:=s.heap.objs.size) (A6 _) hT;have gT:h2'.get? s.heap.objs.size=some { cls:=.type "tuple",data:=.seq #[.int i tk,u'] }:=(b2.2 _ (R9 ltE)).trans a3;refine ⟨.ref s.heap.objs.size,Ag H s.heap.objs.size (.tup [.int (i:Int),x]),I1.track hT I.sz fT.2.1 fT.2.2.2.2.1 fT.2.2.2.2.2 ⟨by simp only [E2,L5];rw [B39];decide,[.int (i:Int) tk,u'],.cons ⟨_,rfl⟩ (.cons ru .nil),⟨_,gT,rfl,_,rfl⟩⟩,rfl,
   ⟨_,x,hT,rfl,rfl,fun ys hy=>by rw [I.tuple_inj hy hq];exact hx⟩,⟨⟨_,b1⟩,a2.1.at fun o q=>(b2.2 it (F2 hne)).trans q⟩,fun b hb=>?_⟩
  have ltb:b<s.heap.objs.size:=by
   have e':b=e\/b=it:=by simpa using hb
   rcases e' with rfl | rfl
   ·exact ltE
   ·obtain ⟨o,q,_⟩:=h2;exact A9 q
  rw [qA9 (C2 ltb)];exact (hf b hb).1
 done:=by
  intro X hP hw hK hc i Ab s σ H E I hf st hg;subst hP hw hK;obtain ⟨xs,hq,hx⟩:=hg;obtain ⟨its,rv,p,hz⟩:=I.tuple hq;have hl':=rv.length;obtain ⟨⟨old,h1⟩,h2⟩:=st;have hsz:i=its.toArray.size:=by simp;lia
  subst hsz;exact wpAny_pyNext_enum_endD (qZ1 (A:=X.A.in1) (I.ok.hd hc) it l hl its.toArray) h1 ⟨h2,p⟩ fun h' eb=>⟨rfl,I.turnedL (t':=s.toks) (ch:=[e,it]) (fun b o hb q=>eb b o (fun z=>hb (by simp [z])) q) hf⟩
 self:=fun _ _ _ _ _ st h=>by
  obtain ⟨⟨old,h1⟩,h2⟩:=st;exact B69 h1 h
def qcH (K:Ab1) (ta:TA):TI:=fun σ H R=>ta σ H fun vs H1=>∃ l,vs=[.ref l]/\(∃ xs,SqT K H1 l xs)/\R (IteT K l) H1
theorem qQI {elts:List Expr} {k:Nat} {tpos:Pos} {a:Expr} {ta:TA} {p pos:Pos} (hg:Gl X "enumerate") (hm:X.mg "enumerate" = none) (hv:B33 "enumerate" = some (.type "enumerate")) (ha:PA X [a] ta) (hs:B35 [a] X.env=[(false,eval a X.env)]:=by rfl) :
  PI X (.Tuple elts k tpos) (.Call (.Name "enumerate" p) [a] [] pos) (qcH X.K ta):=by
 intro Ab s σ H R I h;refine Call_ (qG4 I hg hm hv (G4 (thn (ha pos Ab s σ H _ I h) fun us s1 ⟨vs,H1,I1,r1,q1⟩=>?_) hs rfl));obtain ⟨l,e,⟨xs,hq⟩,q⟩:=q1;subst e;obtain ⟨u,rfl,rx⟩:=qDS r1;cases rx;obtain ⟨its,rv,pl,hz⟩:=I1.tuple hq;have ltl:l<s1.heap.objs.size:=by obtain ⟨o,e,_⟩:=pl;exact A9 e
 refine qLC pl fun h' he hi hsz hk=>?_;refine B69 he ?_;have I2:Inv X Ab σ H1 { s1 with heap:=h' }:=I1.kept (t':=s1.toks) hk;refine ⟨s1.heap.objs.size+1,[s1.heap.objs.size+1,s1.heap.objs.size],_,_,H1,rfl,I2,qKQ l s1.heap.objs.size (s1.heap.objs.size+1) (Z1 _) (C2 ltl) (C2 (V1 ltl)),⟨⟨_,he⟩,hi⟩,fun b hb=>?_,q⟩;have e':b=s1.heap.objs.size+1\/b=s1.heap.objs.size:=by simpa using hb
 rcases e' with rfl | rfl
 ·exact I1.fpOk (Q9 _) (I1.hok.fresh (Q9 _))
 ·exact I1.fpOk (A6 _) (I1.hok.fresh (A6 _))
end
theorem qQW {K:Ab1} {a:Addr} {xs:List V} {g:TG} {tc:TT} {te:TE} {Kf:Hp->Prop} {σ0:St} {H0:Hp} {p:Addr} (Pv:Nat->St->Hp->Prop) (h0:Pv 0 σ0 H0) (hl:∀ i σ H,i<=xs.length->Pv i σ H->SqT K H a xs)
  (hs:∀ i x σ H T,xs[i]?=some x->Pv i σ H->H T=none->g (.ref T) σ (Ag H T (.tup [.int (i:Int),x])) fun σ2 H2=>tc σ2 H2 fun b H3=>if b=true then te σ2 H3 fun y H4=>∃ ys,H4 p=some (.lst ys)/\ys.length<B28/\Pv (i+1) σ2 (Ag H4 p (.lst (ys++[y]))) else Pv (i+1) σ2 H3)
  (hd:∀ σ H,Pv xs.length σ H->Kf H) :
  LcG (IteT K a) g tc te Kf σ0 H0 p:=by
 refine ⟨fun i m σ H=>m=xs.length - i/\i<=xs.length/\Pv i σ H,⟨xs.length,by simp,E5 _,h0⟩,?_⟩
 rintro i m σ H ⟨rfl,hi,q⟩;have hq:=hl i σ H hi q;by_cases hlt:i<xs.length
 ·refine .inr ⟨⟨xs,xs[i],hq,by simp [hlt]⟩,Pv (i+1),fun σ' H' p'=>⟨xs.length - (i+1),by lia,rfl,hlt,p'⟩,fun v H' y=>?_⟩
  obtain ⟨T,x,hT,e1,e2,y⟩:=y;subst e1 e2;exact hs i x σ H T (y xs hq) q hT
 ·have e:i=xs.length:=by lia
  subst e;exact .inl ⟨⟨xs,hq,rfl⟩,hd σ H q⟩
theorem qUZ {K:Ab1} {a:Addr} {xs:List V} {g:TG} {tb:TS} {D:Ends} {σ0:St} {H0:Hp} (Pv:Nat->St->Hp->Prop) (h0:Pv 0 σ0 H0) (hl:∀ i σ H,i<=xs.length->Pv i σ H->SqT K H a xs)
  (hs:∀ i x σ H T,xs[i]?=some x->Pv i σ H->H T=none->g (.ref T) σ (Ag H T (.tup [.int (i:Int),x])) fun σ2 H2=>tb { D with nx:=Pv (i+1),ct:=Pv (i+1),bk:=D.nx } σ2 H2)
  (hd:∀ σ H,Pv xs.length σ H->D.nx σ H) :
  ∃ W:Nat->Nat->St->Hp->Prop,(∃ m,W 0 m σ0 H0)/\∀ i m σ H,W i m σ H->
   ((IteT K a).stop i H/\D.nx σ H)\/((IteT K a).go i H/\∃ N:St->Hp->Prop,(∀ σ' H',N σ' H'->∃ m',m'<m/\W (i+1) m' σ' H')/\∀ x H',(IteT K a).yld i H x H'->g x σ H' fun σ2 H2=>tb { D with nx:=N,ct:=N,bk:=D.nx } σ2 H2):=by
 refine ⟨fun i m σ H=>m=xs.length - i/\i<=xs.length/\Pv i σ H,⟨xs.length,by simp,E5 _,h0⟩,?_⟩
 rintro i m σ H ⟨rfl,hi,q⟩;have hq:=hl i σ H hi q;by_cases hlt:i<xs.length
 ·refine .inr ⟨⟨xs,xs[i],hq,by simp [hlt]⟩,Pv (i+1),fun σ' H' p'=>⟨xs.length - (i+1),by lia,rfl,hlt,p'⟩,fun v H' y=>?_⟩
  obtain ⟨T,x,hT,e1,e2,y⟩:=y;subst e1 e2;exact hs i x σ H T (y xs hq) q hT
 ·have e:i=xs.length:=by lia
  subst e;exact .inl ⟨⟨xs,hq,rfl⟩,hd σ H q⟩
open PySem
section
variable {es:List Expr} {env:Env} {p:Pos}
end
@[irreducible] def cst (i:Int) (p:Pos):Expr:=.Constant (.int i) 0 p
theorem qc3 {P:(St->Hp->Prop)->Prop} {B:St->Hp->Prop} (h:∀ N:St->Hp->Prop,(∀ σ H,B σ H->N σ H)->P N):∃ N:St->Hp->Prop,(∀ σ' H',N σ' H'->B σ' H')/\P N:=⟨B,fun _ _ z=>z,h B fun _ _ z=>z⟩
theorem qUY {K:Ab1} {a:Addr} {xs:List V} {g:TG} {tb:TS} {D:Ends} {σ:St} {H:Hp} (Pv:Nat->St->Hp->Prop) (h0:Pv 0 σ H) (hl:∀ i σ H,i<=xs.length->Pv i σ H->SqL K H a xs)
  (hs:∀ i x σ H,xs[i]?=some x->Pv i σ H->∀ N:St->Hp->Prop,(∀ σ H,Pv (i+1) σ H->N σ H)->g x σ H fun σ2 H2=>tb { D with nx:=N,ct:=N,bk:=D.nx } σ2 H2) (hd:∀ σ H,Pv xs.length σ H->D.nx σ H) :
  ForG (Itl K a) g tb D σ H:=
 qFX Pv h0 hl (fun i x σ H hx hp=>hs i x σ H hx hp _ fun _ _ z=>z) hd
theorem qL6 {lo:Int} {n:Nat} {g:TG} {tb:TS} {D:Ends} {σ:St} {H:Hp} (Pv:Nat->St->Hp->Prop) (h0:Pv 0 σ H)
  (hs:∀ i σ H,i<n->Pv i σ H->∀ N:St->Hp->Prop,(∀ σ H,Pv (i+1) σ H->N σ H)->g (.int (lo+i)) σ H fun σ2 H2=>tb { D with nx:=N,ct:=N,bk:=D.nx } σ2 H2) (hd:∀ σ H,Pv n σ H->D.nx σ H) :
  ForG (Itr lo n) g tb D σ H:=
 qF9 Pv h0 (fun i σ H hi hp=>hs i σ H hi hp _ fun _ _ z=>z) hd
@[elab_as_elim] theorem us0 {α:Type} {P:List α->Prop} (us:List α) (hl:us.length=0) (h:P []):P us:=by
 match us,hl with
 | [],_=>exact h
@[elab_as_elim] theorem us1 {α:Type} {P:List α->Prop} (us:List α) (hl:us.length=1) (h:∀ a,P [a]):P us:=by
 match us,hl with
 | [a],_=>exact h a
@[elab_as_elim] theorem us2 {α:Type} {P:List α->Prop} (us:List α) (hl:us.length=2) (h:∀ a b,P [a,b]):P us:=by
 match us,hl with
 | [a,b],_=>exact h a b
@[elab_as_elim] theorem us3 {α:Type} {P:List α->Prop} (us:List α) (hl:us.length=3) (h:∀ a b c,P [a,b,c]):P us:=by
 match us,hl with
 | [a,b,c],_=>exact h a b c
@[elab_as_elim] theorem us4 {α:Type} {P:List α->Prop} (us:List α) (hl:us.length=4) (h:∀ a b c d,P [a,b,c,d]):P us:=by
 match us,hl with
 | [a,b,c,d],_=>exact h a b c d
end L2
namespace L2.G
open PySem PyProof.Rows
abbrev gSM:=StateT SortSt Sem
class NM where
 nm:Value->Int
 good:Value->Prop
variable [NM]
def gkv (p:Keyed):Int:=NM.nm p.1
def gIK (p:Keyed):Prop:=NM.good p.1
class LtOk (prog:B30) (w:World) (A:Around) (s:Shared) (κ0:B61):Prop where
 lt:∀ {x y:Value} {Q:Bool->Shared->Prop} {E:Aa1},NM.good x->NM.good y->Q (decide (NM.nm x<NM.nm y)) s->wpAny (model prog w) A (keyLt' κ0 x y) Q E s
def gK (xs:Array Keyed) (i:Nat):Int:=match xs[i]? with
 | some p=>NM.nm p.1
 | none=>0
def qH9 (xs:Array Keyed) (k:Nat):Prop:=∀ i j,i<=j->j<k->gK xs i<=gK xs j
def qC4 (xs:Array Keyed):Prop:=∀ p,p ∈ xs.toList->NM.good p.1
theorem qaI {xs:Array Keyed} {i:Nat} (hi:i<xs.size):gK xs i=NM.nm xs[i].1:=by unfold gK;rw [getElem?_pos xs i hi]
theorem qFW {xs ys:Array Keyed} {i j:Nat} (h:xs[i]?=ys[j]?):gK xs i=gK ys j:=by unfold gK;rw [h]
theorem qJT {xs:Array Keyed} {src d:Nat} (hs:src<xs.size) (hd:d<=src) (k:Nat) :
  gK (bubble xs src d) k=if k=src - d then gK xs src else if src - d<k/\k<=src then gK xs (k - 1) else gK xs k:=by
 have e:=getElem?_bubble hs d hd k;by_cases h1:k=src - d
 ·rw [if_pos h1] at e ⊢;exact qFW e
 ·rw [if_neg h1] at e ⊢;by_cases h2:src - d<k/\k<=src
  ·rw [if_pos h2] at e ⊢;exact qFW e
  ·rw [if_neg h2] at e ⊢;exact qFW e
theorem qHA {xs:Array Keyed} {i j:Nat} (hj:j<=xs.size) (k:Nat) :
  gK (mirror xs i j ((j - i) / 2)) k=if i<=k/\k<j then gK xs (i+j - 1 - k) else gK xs k:=by
 have e:=getElem?_mirror_all (i:=i) hj k;by_cases h1:i<=k/\k<j
 ·rw [if_pos h1] at e ⊢;exact qFW e
 ·rw [if_neg h1] at e ⊢;exact qFW e
theorem qB1 {xs:Array Keyed} {i j:Nat} (hj:j<=xs.size) (heq:∀ k,i<=k->k<j->gK xs k=gK xs (j - 1)) (k:Nat) :
  gK (mirror xs i j ((j - i) / 2)) k=gK xs k:=by
 rw [qHA hj]
 split
 ·rw [heq _ (by omega) (by omega),heq k (by omega) (by omega)]
 ·rfl
def qXT:Bool->Keyed->Array Keyed->Nat->Nat->Nat->gSM (Option Nat):=sortPriv% PySem.Builtin.gallop
def gbey (left:Bool) (key:Keyed) (arr:Array Keyed) (base i:Nat):gSM (Option Bool):=do
 let x <- elem' arr (base+i)
 if left=true then lt' x key else do
  let r <- lt' key x
  pure (r.map fun b=>!b)
section
variable {prog:B30} {w:World} {A:Around} {E:Aa1} {s:Shared} {κ0:B61} [LtOk prog w A s κ0]
theorem qH6 {st:SortSt} {x y:Keyed} {Q:Option Bool->SortSt->Prop} (hk:kindOf st=κ0) (hx:gIK x) (hy:gIK y) (h:Q (some (decide (gkv x<gkv y))) st):wpS (model prog w) A E s (lt' x y) Q st:=by
 rw [lt'_eq];refine B29 (B75 ?_);rw [hk];refine B29 (wpS_lift (B68 (LtOk.lt hx hy ⟨rfl,?_⟩)));exact B31 h
theorem qB6 {st:SortSt} {arr:Array Keyed} {i:Nat} {x:Keyed} {Q:Keyed->SortSt->Prop} (h:arr[i]?=some x) (hQ:Q x st):wpS (model prog w) A E s (elem' arr i) Q st:=by
 rw [elem'_eq,h];exact B31 hQ
def qAQ (left:Bool) (key:Keyed) (arr:Array Keyed) (base i:Nat):Bool:=match arr[base+i]? with
 | some x=>if left=true then decide (gkv x<gkv key) else decide (gkv x<=gkv key)
 | none=>false
theorem qH7 {st:SortSt} {left:Bool} {key:Keyed} {arr:Array Keyed} {base i:Nat} {Q:Option Bool->SortSt->Prop} (hk:kindOf st=κ0) (hkey:gIK key) (ha:∀ x ∈ arr.toList,gIK x) (hi:base+i<arr.size) (h:Q (some (qAQ left key arr base i)) st) :
  wpS (model prog w) A E s (gbey left key arr base i) Q st:=by
 unfold gbey;have e:arr[base+i]?=some (arr[base+i]'hi):=B8 hi;have hx:gIK (arr[base+i]'hi):=ha _ (by simp)
 unfold qAQ at h;rw [e] at h;refine B29 (qB6 e ?_);cases left with
 | true=>exact qH6 hk hx hkey h
 | false=>
  refine B29 (qH6 hk hkey hx ?_);refine B31 ?_;have:(!decide (gkv key<gkv arr[base+i]))=decide (gkv arr[base+i]<=gkv key):=by
   by_cases q:gkv key<gkv arr[base+i]
   ·rw [decide_eq_true q,decide_eq_false (by omega)];rfl
   ·rw [decide_eq_false q,decide_eq_true (by omega)];rfl
  show Q (some (!decide (gkv key<gkv arr[base+i]))) st;rw [this];exact h
theorem qFU {st:SortSt} {left:Bool} {key:Keyed} {arr:Array Keyed} {base n hint:Nat} {Q:Option Nat->SortSt->Prop} (hk:kindOf st=κ0) (hkey:gIK key) (ha:∀ x ∈ arr.toList,gIK x) (hn:base+n<=arr.size) (hh:hint<n)
  (mono:∀ i j,i<=j->j<n->qAQ left key arr base j=true->qAQ left key arr base i=true)
  (h:∀ k,k<=n->(∀ i,i<k->qAQ left key arr base i=true)->(∀ i,k<=i->i<n->qAQ left key arr base i=false)->Q (some k) st) :
  wpS (model prog w) A E s (qXT left key arr base n hint) Q st:=by
 have mono':∀ i j,i<=j->j<n->qAQ left key arr base i=false->qAQ left key arr base j=false:=fun i j hij hj e=>by
  cases q:qAQ left key arr base j with
  | false=>rfl
  | true=>rw [mono i j hij hj q] at e;cases e
 unfold qXT;show wpS _ _ _ _ (gbey left key arr base hint >>= _) _ _;refine B29 (qH7 hk hkey ha (by omega) ?_)
 dsimp only;cases e:qAQ left key arr base hint with
 | true=>
  rw [if_pos rfl];refine B29 (B56 (B43 (I:=fun x c st'=>st'=st/\∃ l o,c=(none,l,o)/\l<o/\x+1<=o/\hint+l<n/\qAQ left key arr base (hint+l)=true)
   (Q:=fun c st'=>st'=st/\∃ l o,c=(none,l,o)/\l<o/\hint+l<n/\qAQ left key arr base (hint+l)=true/\(o >= n - hint\/qAQ left key arr base (hint+o)=false)) ?step ?fin ⟨rfl,0,1,rfl,by omega,by omega,by omega,e⟩) ?post)
  case fin=>
   rintro c st' ⟨rfl,l,o,rfl,h1,h2,h3,h4⟩;exact ⟨rfl,l,o,rfl,h1,h3,h4,.inl (by omega)⟩
  case step=>
   rintro x c st' _ hx ⟨rfl,l,o,rfl,h1,h2,h3,h4⟩;dsimp only;by_cases hge:o >= n - hint
   ·rw [if_pos hge];exact B31 ⟨rfl,l,o,rfl,h1,h3,h4,.inl hge⟩
   ·rw [if_neg hge];show wpS _ _ _ _ (gbey left key arr base (hint+o) >>= _) _ _;refine B29 (qH7 hk hkey ha (by omega) ?_)
    dsimp only;cases e2:qAQ left key arr base (hint+o) with
    | false=>
     rw [if_pos (by rfl)]
     exact B31 ⟨rfl,l,o,rfl,h1,h3,h4,.inr e2⟩
    | true=>
     rw [if_neg (by simp)]
     exact B31 ⟨rfl,o,2 * o+1,rfl,by omega,by omega,by omega,e2⟩
  case post=>
   rintro c st' ⟨rfl,l,o,rfl,h1,h3,h4,h5⟩;dsimp only;have hl':∀ i,i<hint+l+1->qAQ left key arr base i=true:=fun i hi=>mono i (hint+l) (by omega) h3 h4
   have hr':∀ i,hint+min o (n - hint)<=i->i<n->qAQ left key arr base i=false:=fun i hi hin=>by
    rcases h5 with h5 | h5
    ·omega
    ·exact mono' (hint+o) i (by omega) hin h5
   refine B29 (B56 (B43 (I:=fun x c st''=>st''=st'/\∃ l r,c=(none,l,r)/\l<=r/\r<=n/\r - l<=n - x/\(∀ i,i<l->qAQ left key arr base i=true)/\∀ i,r<=i->i<n->qAQ left key arr base i=false)
    (Q:=fun c st''=>st''=st'/\∃ l,c=(none,l,l)/\l<=n/\(∀ i,i<l->qAQ left key arr base i=true)/\∀ i,l<=i->i<n->qAQ left key arr base i=false) ?bstep ?bfin ⟨rfl,hint+l+1,hint+min o (n - hint),rfl,by omega,by omega,by omega,hl',hr'⟩) ?bpost)
   case bfin=>
    rintro c st'' ⟨rfl,l,r,rfl,h1,h2,h3,h4,h5⟩;have:l=r:=by omega
    subst this;exact ⟨rfl,l,rfl,h2,h4,h5⟩
   case bpost=>
    rintro c st'' ⟨rfl,l,rfl,h1,h2,h3⟩;exact B31 (h l h1 h2 h3)
   case bstep=>
    rintro x c st'' _ hx ⟨rfl,l,r,rfl,h1,h2,h3,h4,h5⟩;dsimp only;by_cases hge:l >= r
    ·rw [if_pos hge];have:l=r:=by omega
     subst this;exact B31 ⟨rfl,l,rfl,h2,h4,h5⟩
    ·rw [if_neg hge];show wpS _ _ _ _ (gbey left key arr base (l+(r - l) / 2) >>= _) _ _;refine B29 (qH7 hk hkey ha (by omega) ?_)
     dsimp only;cases e9:qAQ left key arr base (l+(r - l) / 2) with
     | true=>
      rw [if_pos rfl];exact B31 ⟨rfl,_,_,rfl,by omega,h2,by omega,fun i hi=>mono i _ (by omega) (by omega) e9,h5⟩
     | false=>
      rw [if_neg B4];exact B31 ⟨rfl,_,_,rfl,by omega,by omega,by omega,h4,fun i hi hin=>mono' _ i hi hin e9⟩
 | false=>
  rw [if_neg B4];refine B29 (B56 (B43 (I:=fun x c st'=>st'=st/\∃ l o,c=(none,l,o)/\l<o/\x+1<=o/\l<=hint/\qAQ left key arr base (hint - l)=false)
   (Q:=fun c st'=>st'=st/\∃ l o,c=(none,l,o)/\l<o/\l<=hint/\qAQ left key arr base (hint - l)=false/\(o >= hint+1\/qAQ left key arr base (hint - o)=true)) ?step ?fin ⟨rfl,0,1,rfl,by omega,by omega,by omega,e⟩) ?post)
  case fin=>
   rintro c st' ⟨rfl,l,o,rfl,h1,h2,h3,h4⟩;exact ⟨rfl,l,o,rfl,h1,h3,h4,.inl (by omega)⟩
  case step=>
   rintro x c st' _ hx ⟨rfl,l,o,rfl,h1,h2,h3,h4⟩;dsimp only;by_cases hge:o >= hint+1
   ·rw [if_pos hge];exact B31 ⟨rfl,l,o,rfl,h1,h3,h4,.inl hge⟩
   ·rw [if_neg hge];show wpS _ _ _ _ (gbey left key arr base (hint - o) >>= _) _ _;refine B29 (qH7 hk hkey ha (by omega) ?_)
    dsimp only;cases e2:qAQ left key arr base (hint - o) with
    | true=>
     rw [if_pos rfl];exact B31 ⟨rfl,l,o,rfl,h1,h3,h4,.inr e2⟩
    | false=>
     rw [if_neg B4];exact B31 ⟨rfl,o,2 * o+1,rfl,by omega,by omega,by omega,e2⟩
  case post=>
   rintro c st' ⟨rfl,l,o,rfl,h1,h3,h4,h5⟩;dsimp only;have hl':∀ i,i<hint+1 - min o (hint+1)->qAQ left key arr base i=true:=fun i hi=>by
    rcases h5 with h5 | h5
    ·omega
    ·exact mono i (hint - o) (by omega) (by omega) h5
   have hr':∀ i,hint - l<=i->i<n->qAQ left key arr base i=false:=fun i hi hin=>mono' (hint - l) i hi hin h4;refine B29 (B56 (B43 (I:=fun x c st''=>st''=st'/\∃ l r,c=(none,l,r)/\l<=r/\r<=n/\r - l<=n - x/\(∀ i,i<l->qAQ left key arr base i=true)/\∀ i,r<=i->i<n->qAQ left key arr base i=false)
    (Q:=fun c st''=>st''=st'/\∃ l,c=(none,l,l)/\l<=n/\(∀ i,i<l->qAQ left key arr base i=true)/\∀ i,l<=i->i<n->qAQ left key arr base i=false) ?bstep ?bfin ⟨rfl,hint+1 - min o (hint+1),hint - l,rfl,by omega,by omega,by omega,hl',hr'⟩) ?bpost)
   case bfin=>
    rintro c st'' ⟨rfl,l,r,rfl,h1,h2,h3,h4,h5⟩;have:l=r:=by omega
    subst this;exact ⟨rfl,l,rfl,h2,h4,h5⟩
   case bpost=>
    rintro c st'' ⟨rfl,l,rfl,h1,h2,h3⟩;exact B31 (h l h1 h2 h3)
   case bstep=>
    rintro x c st'' _ hx ⟨rfl,l,r,rfl,h1,h2,h3,h4,h5⟩;dsimp only;by_cases hge:l >= r
    ·rw [if_pos hge];have:l=r:=by omega
     subst this;exact B31 ⟨rfl,l,rfl,h2,h4,h5⟩
    ·rw [if_neg hge];show wpS _ _ _ _ (gbey left key arr base (l+(r - l) / 2) >>= _) _ _;refine B29 (qH7 hk hkey ha (by omega) ?_)
     dsimp only;cases e9:qAQ left key arr base (l+(r - l) / 2) with
     | true=>
      rw [if_pos rfl];exact B31 ⟨rfl,_,_,rfl,by omega,h2,by omega,fun i hi=>mono i _ (by omega) (by omega) e9,h5⟩
     | false=>
      rw [if_neg B4];exact B31 ⟨rfl,_,_,rfl,by omega,by omega,by omega,h4,fun i hi hin=>mono' _ i hi hin e9⟩
end
end L2.G
namespace L2.G
open PySem PyProof.Rows
variable [NM]
structure gMR (R:Keyed->Keyed->Prop) (all out ra rb:List Keyed):Prop where
 perm:(out++(ra++rb)).Perm all
 up:out.Pairwise R
 ua:ra.Pairwise R
 ub:rb.Pairwise R
 la:∀ x ∈ out,∀ y ∈ ra,R x y
 lb:∀ x ∈ out,∀ y ∈ rb,R x y
section
variable {R:Keyed->Keyed->Prop} {all out ra rb xs:List Keyed}
theorem gMR.symm (h:gMR R all out ra rb):gMR R all out rb ra:=⟨((List.Perm.refl out).append (A16)).trans h.perm,h.up,h.ub,h.ua,h.lb,h.la⟩
theorem gMR.takeA (h:gMR R all out (xs++ra) rb) (c:∀ x ∈ xs,∀ y ∈ rb,R x y):gMR R all (out++xs) ra rb:=by
 have ua:=P5.mp h.ua;refine ⟨?_,P5.mpr ⟨h.up,ua.1,fun x hx y hy=>h.la x hx y (B3.mpr (.inl hy))⟩,ua.2.1,h.ub,fun x hx y hy=>?_,fun x hx y hy=>?_⟩
 ·have e:out++xs++(ra++rb)=out++((xs++ra)++rb):=by simp [Q4]
  rw [e];exact h.perm
 ·rcases B3.mp hx with hx | hx
  ·exact h.la x hx y (B3.mpr (.inr hy))
  ·exact ua.2.2 x hx y hy
 ·rcases B3.mp hx with hx | hx
  ·exact h.lb x hx y hy
  ·exact c x hx y hy
theorem gMR.takeB (h:gMR R all out ra (xs++rb)) (c:∀ x ∈ xs,∀ y ∈ ra,R x y):gMR R all (out++xs) ra rb:=(gMR.takeA h.symm c).symm
theorem gMR.allA (h:gMR R all out ra []):(out++ra).Perm all/\(out++ra).Pairwise R:=by
 have h':gMR R all out (ra++[]) []:=by rw [W7];exact h
 have q:=h'.takeA fun _ _ _ z=>nomatch z;exact ⟨by have:=q.perm;simpa using this,q.up⟩
theorem gMR.allB (h:gMR R all out [] rb):(out++rb).Perm all/\(out++rb).Pairwise R:=h.symm.allA
theorem gMR.lastA {z:Keyed} (h:gMR R all out [z] rb) (c:∀ y ∈ rb,R y z):(out++rb++[z]).Perm all/\(out++rb++[z]).Pairwise R:=by
 have h':gMR R all out [z] (rb++[]):=by rw [W7];exact h
 exact (h'.takeB fun x hx y hy=>by rw [A7.mp hy];exact c x hx).allA
end
abbrev grUp (x y:Keyed):Prop:=gkv x<=gkv y
abbrev grDn (x y:Keyed):Prop:=gkv y<=gkv x
def gRes (all r:List Keyed):Prop:=r.Perm all/\r.Pairwise grUp
def gSE (st st':SortSt):Prop:=kindOf st'=kindOf st/\arrOf st'=arrOf st/\B32 st'=B32 st/\failedOf st'=failedOf st
theorem gSE.refl (st:SortSt):gSE st st:=⟨rfl,rfl,rfl,rfl⟩
def gmLo:Array Keyed->Array Keyed->gSM (Array Keyed):=sortPriv% PySem.Builtin.mergeLo
def gmHi:Array Keyed->Array Keyed->gSM (Array Keyed):=sortPriv% PySem.Builtin.mergeHi
theorem qD4 {l:List Keyed} {i:Nat} {x:Keyed} (h:l[i]?=some x):l.drop i=[x]++l.drop (i+1):=by
 obtain ⟨hi,e⟩:=A4.mp h;rw [O6 hi,e]
 rfl
theorem qC2 {a:Array Keyed} {i:Nat} (h:i<a.size):∃ x,a[i]?=some x/\a.toList[i]?=some x/\x ∈ a.toList:=⟨a[i],B8 h,by simp [h],by simp⟩
theorem qAW (a:Array Keyed) (i j:Nat):(a.extract i j).toList=(a.toList.drop i).take (j - i):=by simp
theorem qGE {l:List Keyed} {i k:Nat} :l.drop i=(l.drop i).take k++l.drop (i+k):=by
 rw [<- t8,j7]
theorem qEB {left:Bool} {key:Keyed} {arr:Array Keyed} {base n:Nat} (hn:base+n<=arr.size) (u:(arr.toList.drop base).Pairwise grUp):∀ i j,i<=j->j<n->qAQ left key arr base j=true->qAQ left key arr base i=true:=by
 intro i j hij hj e;by_cases hij':i=j
 ·subst hij';exact e
 have hj':base+j<arr.size:=by omega
 have hi':base+i<arr.size:=by omega
 have le:gkv arr[base+i]<=gkv arr[base+j]:=by
  have:=F9.mp u i j (by simp;omega) (by simp;omega) (by omega)
  simpa using this
 unfold qAQ at e ⊢;rw [B8 hj'] at e;rw [B8 hi'];cases left with
 | true=>
  have e':decide (gkv arr[base+j]<gkv key)=true:=e;show decide (gkv arr[base+i]<gkv key)=true;have:=of_decide_eq_true e';exact decide_eq_true (by omega)
 | false=>
  have e':decide (gkv arr[base+j]<=gkv key)=true:=e;show decide (gkv arr[base+i]<=gkv key)=true;have:=of_decide_eq_true e';exact decide_eq_true (by omega)
theorem qNO {key:Keyed} {arr:Array Keyed} {base n k:Nat} (hk:k<=n) (hn:base+n<=arr.size) (h:∀ i,i<k->qAQ true key arr base i=true):∀ x ∈ (arr.toList.drop base).take k,gkv x<gkv key:=by
 intro x hx;obtain ⟨i,hi,rfl⟩:=J7 hx;simp only [C5,G3,C6] at hi;have e:=h i (by omega)
 unfold qAQ at e;rw [B8 (show base+i<arr.size by omega)] at e
 have e':decide (gkv arr[base+i]<gkv key)=true:=e;simpa using of_decide_eq_true e'
theorem qNP {key:Keyed} {arr:Array Keyed} {base n k:Nat} (hk:k<=n) (hn:base+n<=arr.size) (h:∀ i,i<k->qAQ false key arr base i=true):∀ x ∈ (arr.toList.drop base).take k,gkv x<=gkv key:=by
 intro x hx;obtain ⟨i,hi,rfl⟩:=J7 hx;simp only [C5,G3,C6] at hi;have e:=h i (by omega)
 unfold qAQ at e;rw [B8 (show base+i<arr.size by omega)] at e
 have e':decide (gkv arr[base+i]<=gkv key)=true:=e;simpa using of_decide_eq_true e'
theorem qL5 {key:Keyed} {arr:Array Keyed} {base n k:Nat} (hn:base+n<=arr.size) (h:∀ i,k<=i->i<n->qAQ true key arr base i=false):∀ x ∈ ((arr.toList.drop base).take n).drop k,gkv key<=gkv x:=by
 intro x hx;obtain ⟨i,hi,rfl⟩:=J7 hx;simp only [C5,G3,C6] at hi;have e:=h (k+i) (by omega) (by omega)
 unfold qAQ at e;rw [B8 (show base+(k+i)<arr.size by omega)] at e
 have e':decide (gkv arr[base+(k+i)]<gkv key)=false:=e;have:=of_decide_eq_false e';simp only [y7,y4,A29];omega
theorem qL4 {key:Keyed} {arr:Array Keyed} {base n k:Nat} (hn:base+n<=arr.size) (h:∀ i,k<=i->i<n->qAQ false key arr base i=false):∀ x ∈ ((arr.toList.drop base).take n).drop k,gkv key<gkv x:=by
 intro x hx;obtain ⟨i,hi,rfl⟩:=J7 hx;simp only [C5,G3,C6] at hi;have e:=h (k+i) (by omega) (by omega)
 unfold qAQ at e;rw [B8 (show base+(k+i)<arr.size by omega)] at e
 have e':decide (gkv arr[base+(k+i)]<=gkv key)=false:=e;have:=of_decide_eq_false e';simp only [y7,y4,A29];omega
end L2.G
namespace L2.G
open PySem PyProof.Rows
variable [NM]
theorem gifT {α:Type} {c:Prop} [Decidable c] {x y:gSM α} {Q:α->SortSt->Prop} {st:SortSt} (h:c) (k:wpS (model prog w) A E s x Q st):wpS (model prog w) A E s (if c then x else y) Q st:=by rw [if_pos h];exact k
theorem gifF {α:Type} {c:Prop} [Decidable c] {x y:gSM α} {Q:α->SortSt->Prop} {st:SortSt} (h:¬ c) (k:wpS (model prog w) A E s y Q st):wpS (model prog w) A E s (if c then x else y) Q st:=by rw [if_neg h];exact k
theorem gtwo {α:Type} {A:Prop} {M G:α->Prop} (h1:(∀ o,M o->G o)->A) (h2:∀ o,M o->G o):A:=h1 h2
section
variable {prog:B30} {w:World} {A:Around} {E:Aa1} {s:Shared} {κ0:B61} [LtOk prog w A s κ0]
theorem qXN {st:SortSt} {a b:Array Keyed} {Q:Array Keyed->SortSt->Prop} (hk:kindOf st=κ0) (ka:∀ x ∈ a.toList,gIK x) (kb:∀ x ∈ b.toList,gIK x) (ua:a.toList.Pairwise grUp) (ub:b.toList.Pairwise grUp) (na:0<a.size) (nb:0<b.size)
  (first:∀ y,b.toList[0]?=some y->∀ x ∈ a.toList,gkv y<=gkv x) (last:∀ z,a.toList[a.size - 1]?=some z->∀ y ∈ b.toList,gkv y<=gkv z)
  (h:∀ r st',gSE st st'->gRes (a.toList++b.toList) r.toList->Q r st'):wpS (model prog w) A E s (gmLo a b) Q st:=by
 have tl:(a.toList++b.toList).length=a.size+b.size:=by simp
 -- ways out
 have outB:∀ (out:Array Keyed) (ia:Nat),gMR grUp (a.toList++b.toList) out.toList (a.toList.drop ia) (b.toList.drop b.size)->gRes (a.toList++b.toList) (out++a.extract ia a.size++b.extract b.size b.size).toList:=by
  intro out ia m;have e:b.toList.drop b.size=[]:=d7 (by simp)
  rw [e] at m;have q:=m.allA;have e2:(out++a.extract ia a.size++b.extract b.size b.size).toList=out.toList++a.toList.drop ia:=by
   rw [D8,D8,qAW,qAW,e,B12,W7,C4 (by simp)]
  rw [e2];exact q
 have outA:∀ (out:Array Keyed) (ib:Nat),gMR grUp (a.toList++b.toList) out.toList (a.toList.drop a.size) (b.toList.drop ib)->gRes (a.toList++b.toList) (out++a.extract a.size a.size++b.extract ib b.size).toList:=by
  intro out ib m;have e:a.toList.drop a.size=[]:=d7 (by simp)
  rw [e] at m;have q:=m.allB;have e2:(out++a.extract a.size a.size++b.extract ib b.size).toList=out.toList++b.toList.drop ib:=by
   rw [D8,D8,qAW,qAW,e,B12,W7,C4 (by simp)]
  rw [e2];exact q
 have outL:∀ (out:Array Keyed) (ia ib:Nat),ia+1=a.size->gMR grUp (a.toList++b.toList) out.toList (a.toList.drop ia) (b.toList.drop ib)->gRes (a.toList++b.toList) (out++b.extract ib b.size++a.extract ia a.size).toList:=by
  intro out ia ib hia m;obtain ⟨z,_,hz,_⟩:=qC2 (a:=a) (i:=ia) (by lia)
  have e:a.toList.drop ia=[z]:=by rw [qD4 hz,d7 (by simp;lia)];rfl
  rw [e] at m;have q:=m.lastA fun y hy=>last z (by rw [show a.size - 1=ia by lia];exact hz) y (U3 hy)
  have e2:(out++b.extract ib b.size++a.extract ia a.size).toList=out.toList++b.toList.drop ib++[z]:=by
   rw [D8,D8,qAW,qAW,e,C4 (by simp),C4 (by simp;lia)]
  rw [e2];exact q
 -- the first of b
 obtain ⟨y0,hy0,hy0',_⟩:=qC2 (a:=b) (i:=0) nb;have m0:gMR grUp (a.toList++b.toList) #[y0].toList (a.toList.drop 0) (b.toList.drop 1):=by
  have m:gMR grUp (a.toList++b.toList) [] a.toList ([y0]++b.toList.drop 1):=by
   rw [<- qD4 hy0'];exact ⟨.refl _,.nil,ua,ub,(fun _ z=>nomatch z),(fun _ z=>nomatch z)⟩
  exact m.takeB fun x hx y hy=>by rw [A7.mp hx];exact first y0 hy0' y hy
 -- a step of b,a step of a
 have stepB:∀ {out:Array Keyed} {ia ib:Nat} {y:Keyed},gMR grUp (a.toList++b.toList) out.toList (a.toList.drop ia) (b.toList.drop ib)->b.toList[ib]?=some y->(∀ x ∈ a.toList.drop ia,gkv y<=gkv x)->gMR grUp (a.toList++b.toList) (out.push y).toList (a.toList.drop ia) (b.toList.drop (ib+1)):=by
  intro out ia ib y m hy c;rw [qD4 hy] at m;rw [V3];exact m.takeB fun x hx z hz=>by rw [A7.mp hx];exact c z hz
 have stepA:∀ {out:Array Keyed} {ia ib:Nat} {x:Keyed},gMR grUp (a.toList++b.toList) out.toList (a.toList.drop ia) (b.toList.drop ib)->a.toList[ia]?=some x->(∀ y ∈ b.toList.drop ib,gkv x<=gkv y)->gMR grUp (a.toList++b.toList) (out.push x).toList (a.toList.drop (ia+1)) (b.toList.drop ib):=by
  intro out ia ib x m hx c;rw [qD4 hx] at m;rw [V3];exact m.takeA fun z hz y hy=>by rw [A7.mp hz];exact c y hy
 have least:∀ {l:List Keyed} {i:Nat} {x:Keyed},l.Pairwise grUp->l[i]?=some x->∀ y ∈ l.drop i,gkv x<=gkv y:=by
  intro l i x u hx y hy;have u':=u.sublist (V2 i l);rw [qD4 hx] at u' hy;rcases B3.mp hy with hy | hy
  ·rw [A7.mp hy];exact P1 _
  ·exact (P5.mp u').2.2 x (by simp) y hy
 have room:∀ {out:Array Keyed} {ia ib:Nat},gMR grUp (a.toList++b.toList) out.toList (a.toList.drop ia) (b.toList.drop ib)->ia<a.size->ib<b.size->ia+ib<a.size+b.size:=fun _ _ _=>by lia
 unfold gmLo;show wpS _ _ _ _ (liftM (rule "list.sort.merge-lo") >>= _) _ _;refine B29 (wpS_lift (B53 ⟨rfl,?_⟩));refine B29 (qB6 hy0 ?_);dsimp only;by_cases hb1:b.size=1
 ·refine gifT (by simp [hb1]) ?_
  refine B31 (h _ _ (.refl st) ?_);have:=outB #[y0] 0 (by rw [hb1];exact m0)
  rw [hb1] at this ⊢;exact this
 refine gifF (by simp;lia) ?_
 by_cases ha1:a.size=1
 ·refine gifT (by simp [ha1]) ?_
  exact B31 (h _ _ (.refl st) (outL #[y0] 0 1 (by lia) m0))
 refine gifF (by simp;lia) ?_
 refine B29 (B75 ?_);refine B29 (B56 (B43
  (I:=fun x c st'=>gSE st st'/\∃ (out:Array Keyed) (ia ib mg:Nat),c=(none,out,ia,ib,mg)/\gMR grUp (a.toList++b.toList) out.toList (a.toList.drop ia) (b.toList.drop ib)/\ia+1<a.size/\ib<b.size/\x+1<=ia+ib)
  (Q:=fun c st'=>gSE st st'/\∃ r rest,c=(some r,rest)/\gRes (a.toList++b.toList) r.toList) ?ostep ?ofin ⟨.refl st,_,0,1,_,rfl,m0,by lia,by lia,by lia⟩) ?opost)
 case opost=>
  rintro c st' ⟨se,r,rest,rfl,hr⟩;exact B31 (h r st' se hr)
 case ofin=>
  rintro c st' ⟨se,out,ia,ib,mg,rfl,m,h1,h2,h3⟩
  lia
 case ostep=>
  rintro x c st1 _ hx ⟨se,out,ia,ib,mg,rfl,m,h1,h2,h3⟩;dsimp only;refine B29 (B56 (B43
   (I:=fun y c st'=>gSE st st'/\∃ (out:Array Keyed) (ia' ib' ac bc:Nat),c=(none,out,ia',ib',ac,bc)/\gMR grUp (a.toList++b.toList) out.toList (a.toList.drop ia') (b.toList.drop ib')/\ia'+1<a.size/\ib'<b.size/\ia+ib+y<=ia'+ib')
   (Q:=fun c st'=>gSE st st'/\((∃ r rest,c=(some r,rest)/\gRes (a.toList++b.toList) r.toList)\/∃ (out:Array Keyed) (ia' ib' ac bc:Nat),c=(none,out,ia',ib',ac,bc)/\gMR grUp (a.toList++b.toList) out.toList (a.toList.drop ia') (b.toList.drop ib')/\ia'+1<a.size/\ib'<b.size/\ia+ib+1<=ia'+ib')) ?istep ?ifin ⟨se,out,ia,ib,0,0,rfl,m,h1,h2,by lia⟩) ?ipost)
  case ifin=>
   rintro c st' ⟨se,out,ia',ib',ac,bc,rfl,m,g1,g2,g3⟩
   lia
  case istep=>
   rintro y c st' _ hy ⟨se,out,ia',ib',ac,bc,rfl,m,g1,g2,g3⟩;dsimp only;obtain ⟨yb,e1,e1',mb⟩:=qC2 (a:=b) (i:=ib') g2;obtain ⟨xa,e2,e2',ma⟩:=qC2 (a:=a) (i:=ia') (by lia)
   have hk':kindOf st'=κ0:=se.1.trans hk;refine B29 (qB6 e1 (B29 (qB6 e2 (B29 (qH6 hk' (kb _ mb) (ka _ ma) ?_)))));dsimp only;by_cases hw:gkv yb<gkv xa
   ·rw [decide_eq_true hw,if_pos rfl];refine B29 (qB6 e1 ?_);have m':=stepB m e1' fun x hx=>by have:=least ua e2' x hx;lia
    by_cases hbe:ib'+1=b.size
    ·refine gifT (by simp [hbe]) ?_
     refine B31 ⟨se,.inl ⟨_,_,rfl,?_⟩⟩;rw [hbe] at m' ⊢;exact outB _ _ m'
    ·refine gifF (by simp;exact hbe) ?_
     split
     ·exact B31 ⟨se,.inr ⟨_,_,_,_,_,rfl,m',g1,by lia,by lia⟩⟩
     ·exact B31 ⟨se,_,_,_,_,_,rfl,m',g1,by lia,by lia⟩
   ·rw [decide_eq_false hw,if_neg B4];refine B29 (qB6 e2 ?_);have m':=stepA m e2' fun y hy=>by have:=least ub e1' y hy;lia
    by_cases hae:ia'+1+1=a.size
    ·refine gifT (by simp [hae]) ?_
     exact B31 ⟨se,.inl ⟨_,_,rfl,outL _ _ _ hae m'⟩⟩
    ·refine gifF (by simp;exact hae) ?_
     split
     ·exact B31 ⟨se,.inr ⟨_,_,_,_,_,rfl,m',by lia,g2,by lia⟩⟩
     ·exact B31 ⟨se,_,_,_,_,_,rfl,m',by lia,g2,by lia⟩
  case ipost=>
   rintro c st2 ⟨se,⟨r,rest,rfl,hr⟩ | ⟨out,ia1,ib1,ac,bc,rfl,m,g1,g2,g3⟩⟩
   ·exact B31 ⟨se,r,_,rfl,hr⟩
   dsimp only;refine B29 (wpS_lift (B53 ⟨rfl,?_⟩));refine B29 (B56 (B43
    (I:=fun y c st'=>gSE st st'/\∃ (out:Array Keyed) (ia' ib' mg ac bc:Nat),c=(none,out,ia',ib',mg,ac,bc)/\gMR grUp (a.toList++b.toList) out.toList (a.toList.drop ia') (b.toList.drop ib')/\ia'+1<a.size/\ib'<b.size/\ia1+ib1+y<=ia'+ib')
    (Q:=fun c st'=>gSE st st'/\((∃ r rest,c=(some r,rest)/\gRes (a.toList++b.toList) r.toList)\/∃ (out:Array Keyed) (ia' ib' mg ac bc:Nat),c=(none,out,ia',ib',mg,ac,bc)/\gMR grUp (a.toList++b.toList) out.toList (a.toList.drop ia') (b.toList.drop ib')/\ia'+1<a.size/\ib'<b.size/\ia1+ib1<=ia'+ib')) ?gstep ?gfin ⟨se,out,ia1,ib1,_,ac,bc,rfl,m,g1,g2,by lia⟩) ?gpost)
   case gfin=>
    rintro c st' ⟨se,out,ia',ib',mg,ac,bc,rfl,m,q1,q2,q3⟩
    lia
   case gpost=>
    rintro c st3 ⟨se,⟨r,rest,rfl,hr⟩ | ⟨out,ia',ib',mg,ac,bc,rfl,m,q1,q2,q3⟩⟩
    ·exact B31 ⟨se,r,_,rfl,hr⟩
    dsimp only;refine B29 (B48 (B31 ?_));exact ⟨⟨se.1,se.2.1,se.2.2.1,se.2.2.2⟩,out,ia',ib',_,rfl,m,q1,q2,by lia⟩
   case gstep=>
    rintro y c st0 _ hy ⟨se,out,ia',ib',mg,ac,bc,rfl,m,q1,q2,q3⟩;dsimp only;obtain ⟨yb,e1,e1',mb⟩:=qC2 (a:=b) (i:=ib') q2;have hm:b.toList.drop ib'=[yb]++b.toList.drop (ib'+1):=qD4 e1';apply gtwo (α:=Nat) (M:=fun _=>True)
    ·intro J;by_cases hmg:mg > 1
     ·refine gifT hmg ?_;refine B29 (B48 ?_);generalize mg - 1=n;exact J n trivial
     ·refine gifF hmg ?_;refine B29 (B48 ?_);generalize mg=n;exact J n trivial
    ·intro n _;have se':gSE st st0:=se;refine B29 (qB6 e1 ?_);refine B29 (qFU (left:=false) (n:=a.size - ia') (hint:=0) (se.1.trans hk) (kb _ mb) ka (by lia) (by lia) (qEB (by lia) (ua.sublist (V2 _ _))) fun k k1 k2 k3=>?_)
     dsimp only;have gt1:∀ x ∈ a.toList.drop (ia'+k),gkv yb<=gkv x:=fun x hx=>by
      have q:=qL4 (base:=ia') (n:=a.size - ia') (by lia) k3 x
      rw [C4 (by simp),t8] at q
      exact p9 (q hx)
     apply gtwo (α:=Array Keyed) (M:=fun o=>gMR grUp (a.toList++b.toList) o.toList (a.toList.drop (ia'+k)) (b.toList.drop ib')/\ia'+k+1<a.size)
     ·intro J;by_cases k0:k > 0
      ·refine gifT k0 ?_;have mk:gMR grUp (a.toList++b.toList) (out++a.extract ia' (ia'+k)).toList (a.toList.drop (ia'+k)) (b.toList.drop ib'):=by
        rw [D8,qAW,show ia'+k - ia'=k by lia]
        rw [qGE (l:=a.toList) (i:=ia') (k:=k)] at m;exact m.takeA fun x hx z hz=>by
         have q1:=qNP k1 (by lia) k2 x hx
         have q2:=least ub e1' z hz;show gkv x<=gkv z
         lia
       by_cases c1:ia'+k+1=a.size
       ·refine gifT (by simp [c1]) ?_
        exact B31 ⟨se',.inl ⟨_,_,rfl,outL _ _ _ c1 mk⟩⟩
       refine gifF (by simp;exact c1) ?_
       by_cases c2:ia'+k=a.size
       ·refine gifT (by simp [c2]) ?_
        refine B31 ⟨se',.inl ⟨_,_,rfl,?_⟩⟩;rw [c2] at mk ⊢;exact outA _ _ mk
       refine gifF (by simp;exact c2) ?_
       generalize out++a.extract ia' (ia'+k)=o at mk ⊢;exact J o ⟨mk,by lia⟩
      ·refine gifF k0 ?_;have k00:k=0:=by lia
       subst k00;exact J out ⟨m,by lia⟩
     ·rintro o ⟨mk,kp⟩;refine B29 (qB6 e1 ?_);have m1:=stepB mk e1' gt1;by_cases hbe:ib'+1=b.size
      ·refine gifT (by simp [hbe]) ?_
       refine B31 ⟨se',.inl ⟨_,_,rfl,?_⟩⟩;rw [hbe] at m1 ⊢;exact outB _ _ m1
      refine gifF (by simp;exact hbe) ?_
      obtain ⟨xa,e2,e2',ma⟩:=qC2 (a:=a) (i:=ia'+k) (by lia)
      refine B29 (qB6 e2 ?_);refine B29 (qFU (left:=true) (n:=b.size - (ib'+1)) (hint:=0) (se.1.trans hk) (ka _ ma) kb (by lia) (by lia) (qEB (by lia) (ub.sublist (V2 _ _))) fun k' j1 j2 j3=>?_)
      dsimp only;have ge2:∀ y ∈ b.toList.drop (ib'+1+k'),gkv xa<=gkv y:=fun y hy=>by
       have q:=qL5 (base:=ib'+1) (n:=b.size - (ib'+1)) (by lia) j3 y
       rw [C4 (by simp),t8] at q
       exact q hy
      generalize o.push yb=o1 at m1 ⊢;apply gtwo (α:=Array Keyed) (M:=fun o=>gMR grUp (a.toList++b.toList) o.toList (a.toList.drop (ia'+k)) (b.toList.drop (ib'+1+k'))/\ib'+1+k'<b.size)
      ·intro J;by_cases k0':k' > 0
       ·rw [if_pos k0'];have m2:gMR grUp (a.toList++b.toList) (o1++b.extract (ib'+1) (ib'+1+k')).toList (a.toList.drop (ia'+k)) (b.toList.drop (ib'+1+k')):=by
         rw [D8,qAW,show ib'+1+k' - (ib'+1)=k' by lia]
         rw [qGE (l:=b.toList) (i:=ib'+1) (k:=k')] at m1;exact m1.takeB fun x hx z hz=>by
          have q1:=qNO j1 (by lia) j2 x hx
          have q2:=least ua e2' z hz;show gkv x<=gkv z
          lia
        by_cases hb2:ib'+1+k'=b.size
        ·refine gifT (by simp [hb2]) ?_
         refine B31 ⟨se',.inl ⟨_,_,rfl,?_⟩⟩;rw [hb2] at m2 ⊢;exact outB _ _ m2
        refine gifF (by simp;exact hb2) ?_
        generalize o1++b.extract (ib'+1) (ib'+1+k')=o2 at m2 ⊢;exact J o2 ⟨m2,by lia⟩
       ·rw [if_neg k0'];have k0'':k'=0:=by lia
        subst k0'';exact J o1 ⟨m1,by lia⟩
      ·rintro o2 ⟨m2,kp'⟩;refine B29 (qB6 e2 ?_);have m3:=stepA m2 e2' ge2;by_cases hae:ia'+k+1+1=a.size
       ·refine gifT (by simp [hae]) ?_
        exact B31 ⟨se',.inl ⟨_,_,rfl,outL _ _ _ hae m3⟩⟩
       refine gifF (by simp;exact hae) ?_
       split
       ·exact B31 ⟨se',.inr ⟨_,_,_,_,_,_,rfl,m3,by lia,by lia,by lia⟩⟩
       ·exact B31 ⟨se',_,_,_,_,_,_,rfl,m3,by lia,by lia,by lia⟩
end
end L2.G
namespace L2.G
open PySem PyProof.Rows
variable [NM]
theorem qDA {l:List Keyed} {i:Nat} {x:Keyed} (h0:0<i) (h:l[i - 1]?=some x):(l.take i).reverse=[x]++(l.take (i - 1)).reverse:=by
 obtain ⟨j,rfl⟩:∃ j,i=j+1:=⟨i - 1,by lia⟩
 have h':l[j]?=some x:=h;rw [C8,h',C9,Z3]
 rfl
theorem qJQ {l:List Keyed} {i j:Nat} (h:i<=j):(l.take j).reverse=((l.drop i).take (j - i)).reverse++(l.take i).reverse:=by
 rw [<- Z3];congr 1;have e:=B13 (l:=l) (i:=i) (j:=j - i);rw [show i+(j - i)=j by lia] at e
 exact e
section
variable {prog:B30} {w:World} {A:Around} {E:Aa1} {s:Shared} {κ0:B61} [LtOk prog w A s κ0]
theorem qXO {st:SortSt} {a b:Array Keyed} {Q:Array Keyed->SortSt->Prop} (hk:kindOf st=κ0) (ka:∀ x ∈ a.toList,gIK x) (kb:∀ x ∈ b.toList,gIK x) (ua:a.toList.Pairwise grUp) (ub:b.toList.Pairwise grUp) (na:0<a.size) (nb:0<b.size)
  (first:∀ y,b.toList[0]?=some y->∀ x ∈ a.toList,gkv y<=gkv x) (last:∀ z,a.toList[a.size - 1]?=some z->∀ y ∈ b.toList,gkv y<=gkv z)
  (h:∀ r st',gSE st st'->gRes (a.toList++b.toList) r.toList->Q r st'):wpS (model prog w) A E s (gmHi a b) Q st:=by
 have back:∀ {l:List Keyed},l.Perm (a.toList++b.toList)/\l.Pairwise grDn->gRes (a.toList++b.toList) l.reverse:=fun {l} q=>⟨(z8 l).trans q.1,X4.mpr q.2⟩;have outA:∀ (out:Array Keyed) (nb':Nat),gMR grDn (a.toList++b.toList) out.toList (a.toList.take 0).reverse (b.toList.take nb').reverse->gRes (a.toList++b.toList) (a.extract 0 0++b.extract 0 nb'++out.reverse).toList:=by
  intro out nb' m;have q:=back (gMR.allB m);have e2:(a.extract 0 0++b.extract 0 nb'++out.reverse).toList=(out.toList++(b.toList.take nb').reverse).reverse:=by
   rw [D8,D8,qAW,qAW,U4,Z3,A30];simp
  rw [e2];exact q
 have outB:∀ (out:Array Keyed) (na':Nat),gMR grDn (a.toList++b.toList) out.toList (a.toList.take na').reverse (b.toList.take 0).reverse->gRes (a.toList++b.toList) (a.extract 0 na'++b.extract 0 0++out.reverse).toList:=by
  intro out na' m;have q:=back (gMR.allA m);have e2:(a.extract 0 na'++b.extract 0 0++out.reverse).toList=(out.toList++(a.toList.take na').reverse).reverse:=by
   rw [D8,D8,qAW,qAW,U4,Z3,A30];simp
  rw [e2];exact q
 obtain ⟨y0,hy0,hy0',_⟩:=qC2 (a:=b) (i:=0) nb;have outF:∀ (out:Array Keyed) (na':Nat),gMR grDn (a.toList++b.toList) out.toList (a.toList.take na').reverse (b.toList.take 1).reverse->gRes (a.toList++b.toList) (b.extract 0 1++a.extract 0 na'++out.reverse).toList:=by
  intro out na' m;have e:(b.toList.take 1).reverse=[y0]:=by rw [qDA (by decide) hy0'];simp
  rw [e] at m;have q:=back (m.symm.lastA fun y hy=>first y0 hy0' y (O1 (V9.mp hy)));have e1:b.toList.take 1=[y0]:=by have:=congrArg List.reverse e;simpa using this
  have e2:(b.extract 0 1++a.extract 0 na'++out.reverse).toList=(out.toList++(a.toList.take na').reverse++[y0]).reverse:=by
   rw [D8,D8,qAW,qAW,U4];simp only [Y6,q9,e1];simp
  rw [e2];exact q
 obtain ⟨z0,hz0,hz0',_⟩:=qC2 (a:=a) (i:=a.size - 1) (by lia)
 have m0:gMR grDn (a.toList++b.toList) #[z0].toList (a.toList.take (a.size - 1)).reverse (b.toList.take b.size).reverse:=by
  have m:gMR grDn (a.toList++b.toList) [] ([z0]++(a.toList.take (a.size - 1)).reverse) (b.toList.take b.size).reverse:=by
   rw [<- qDA na hz0',C4 (by simp),C4 (by simp)]
   refine ⟨?_,.nil,X4.mpr ua,X4.mpr ub,(fun _ z=>nomatch z),(fun _ z=>nomatch z)⟩;exact (z8 _).append (z8 _)
  exact m.takeA fun x hx y hy=>by rw [A7.mp hx];exact last z0 hz0' y (O1 (V9.mp hy))
 have stepB:∀ {out:Array Keyed} {na' nb':Nat} {y:Keyed},gMR grDn (a.toList++b.toList) out.toList (a.toList.take na').reverse (b.toList.take nb').reverse->0<nb'->b.toList[nb' - 1]?=some y->(∀ x ∈ (a.toList.take na').reverse,gkv x<=gkv y)->gMR grDn (a.toList++b.toList) (out.push y).toList (a.toList.take na').reverse (b.toList.take (nb' - 1)).reverse:=by
  intro out na' nb' y m h0 hy c;rw [qDA h0 hy] at m;rw [V3];exact m.takeB fun x hx z hz=>by rw [A7.mp hx];exact c z hz
 have stepA:∀ {out:Array Keyed} {na' nb':Nat} {x:Keyed},gMR grDn (a.toList++b.toList) out.toList (a.toList.take na').reverse (b.toList.take nb').reverse->0<na'->a.toList[na' - 1]?=some x->(∀ y ∈ (b.toList.take nb').reverse,gkv y<=gkv x)->gMR grDn (a.toList++b.toList) (out.push x).toList (a.toList.take (na' - 1)).reverse (b.toList.take nb').reverse:=by
  intro out na' nb' x m h0 hx c;rw [qDA h0 hx] at m;rw [V3];exact m.takeA fun z hz y hy=>by rw [A7.mp hz];exact c y hy
 have most:∀ {l:List Keyed} {i:Nat} {x:Keyed},l.Pairwise grUp->0<i->l[i - 1]?=some x->∀ y ∈ (l.take i).reverse,gkv y<=gkv x:=by
  intro l i x u h0 hx y hy;have u':((l.take i).reverse).Pairwise grDn:=X4.mpr (u.sublist (X6 i l));rw [qDA h0 hx] at u' hy;rcases B3.mp hy with hy | hy
  ·rw [A7.mp hy];exact P1 _
  ·exact (P5.mp u').2.2 x (by simp) y hy
 unfold gmHi;show wpS _ _ _ _ (liftM (rule "list.sort.merge-hi") >>= _) _ _;refine B29 (wpS_lift (B53 ⟨rfl,?_⟩));refine B29 (qB6 hz0 ?_);dsimp only;by_cases ha1:a.size - 1=0
 ·refine gifT (by simp [ha1]) ?_
  refine B31 (h _ _ (.refl st) ?_);rw [ha1] at m0 ⊢;exact outA _ _ m0
 refine gifF (by simp;lia) ?_
 by_cases hb1:b.size=1
 ·refine gifT (by simp [hb1]) ?_
  refine B31 (h _ _ (.refl st) ?_);rw [hb1] at m0 ⊢;exact outF _ _ m0
 refine gifF (by simp;lia) ?_
 refine B29 (B75 ?_);refine B29 (B56 (B43
  (I:=fun x c st'=>gSE st st'/\∃ (na' nb':Nat) (out:Array Keyed) (mg:Nat),c=(none,na',nb',out,mg)/\gMR grDn (a.toList++b.toList) out.toList (a.toList.take na').reverse (b.toList.take nb').reverse/\(0<na'/\na'<=a.size)/\(1<nb'/\nb'<=b.size)/\na'+nb'+x+1<=a.size+b.size)
  (Q:=fun c st'=>gSE st st'/\∃ r rest,c=(some r,rest)/\gRes (a.toList++b.toList) r.toList) ?ostep ?ofin ⟨.refl st,_,_,_,_,rfl,m0,by lia,by lia,by lia⟩) ?opost)
 case opost=>
  rintro c st' ⟨se,r,rest,rfl,hr⟩;exact B31 (h r st' se hr)
 case ofin=>
  rintro c st' ⟨se,na',nb',out,mg,rfl,m,h1,h2,h3⟩
  lia
 case ostep=>
  rintro x c st1 _ hx ⟨se,na1,nb1,out,mg,rfl,m,h1,h2,h3⟩;dsimp only;refine B29 (B56 (B43
   (I:=fun y c st'=>gSE st st'/\∃ (na' nb':Nat) (out:Array Keyed) (ac bc:Nat),c=(none,na',nb',out,ac,bc)/\gMR grDn (a.toList++b.toList) out.toList (a.toList.take na').reverse (b.toList.take nb').reverse/\(0<na'/\na'<=a.size)/\(1<nb'/\nb'<=b.size)/\na'+nb'+y<=na1+nb1)
   (Q:=fun c st'=>gSE st st'/\((∃ r rest,c=(some r,rest)/\gRes (a.toList++b.toList) r.toList)\/∃ (na' nb':Nat) (out:Array Keyed) (ac bc:Nat),c=(none,na',nb',out,ac,bc)/\gMR grDn (a.toList++b.toList) out.toList (a.toList.take na').reverse (b.toList.take nb').reverse/\(0<na'/\na'<=a.size)/\(1<nb'/\nb'<=b.size)/\na'+nb'+1<=na1+nb1)) ?istep ?ifin ⟨se,na1,nb1,out,0,0,rfl,m,h1,h2,by lia⟩) ?ipost)
  case ifin=>
   rintro c st' ⟨se,na',nb',out,ac,bc,rfl,m,g1,g2,g3⟩
   lia
  case istep=>
   rintro y c st' _ hy ⟨se,na',nb',out,ac,bc,rfl,m,g1,g2,g3⟩;dsimp only;obtain ⟨yb,e1,e1',mb⟩:=qC2 (a:=b) (i:=nb' - 1) (by lia)
   obtain ⟨xa,e2,e2',ma⟩:=qC2 (a:=a) (i:=na' - 1) (by lia)
   have hk':kindOf st'=κ0:=se.1.trans hk;refine B29 (qB6 e1 (B29 (qB6 e2 (B29 (qH6 hk' (kb _ mb) (ka _ ma) ?_)))));dsimp only;by_cases hw:gkv yb<gkv xa
   ·rw [decide_eq_true hw,if_pos rfl];refine B29 (qB6 e2 ?_);have m':=stepA m (by lia) e2' fun z hz=>by have:=most ub (by lia) e1' z hz;lia
    by_cases hae:na' - 1=0
    ·refine gifT (by simp [hae]) ?_
     refine B31 ⟨se,.inl ⟨_,_,rfl,?_⟩⟩;rw [hae] at m' ⊢;exact outA _ _ m'
    ·refine gifF (by simp;lia) ?_
     split
     ·exact B31 ⟨se,.inr ⟨_,_,_,_,_,rfl,m',by lia,by lia,by lia⟩⟩
     ·exact B31 ⟨se,_,_,_,_,_,rfl,m',by lia,by lia,by lia⟩
   ·rw [decide_eq_false hw,if_neg B4];refine B29 (qB6 e1 ?_);have m':=stepB m (by lia) e1' fun z hz=>by have:=most ua (by lia) e2' z hz;lia
    by_cases hbe:nb' - 1=1
    ·refine gifT (by simp [hbe]) ?_
     refine B31 ⟨se,.inl ⟨_,_,rfl,?_⟩⟩;rw [hbe] at m' ⊢;exact outF _ _ m'
    ·refine gifF (by simp;lia) ?_
     split
     ·exact B31 ⟨se,.inr ⟨_,_,_,_,_,rfl,m',by lia,by lia,by lia⟩⟩
     ·exact B31 ⟨se,_,_,_,_,_,rfl,m',by lia,by lia,by lia⟩
  case ipost=>
   rintro c st2 ⟨se,⟨r,rest,rfl,hr⟩ | ⟨na2,nb2,out,ac,bc,rfl,m,g1,g2,g3⟩⟩
   ·exact B31 ⟨se,r,_,rfl,hr⟩
   dsimp only;refine B29 (wpS_lift (B53 ⟨rfl,?_⟩));refine B29 (B56 (B43
    (I:=fun y c st'=>gSE st st'/\∃ (na' nb':Nat) (out:Array Keyed) (mg ac bc:Nat),c=(none,na',nb',out,mg,ac,bc)/\gMR grDn (a.toList++b.toList) out.toList (a.toList.take na').reverse (b.toList.take nb').reverse/\(0<na'/\na'<=a.size)/\(1<nb'/\nb'<=b.size)/\na'+nb'+y<=na2+nb2)
    (Q:=fun c st'=>gSE st st'/\((∃ r rest,c=(some r,rest)/\gRes (a.toList++b.toList) r.toList)\/∃ (na' nb':Nat) (out:Array Keyed) (mg ac bc:Nat),c=(none,na',nb',out,mg,ac,bc)/\gMR grDn (a.toList++b.toList) out.toList (a.toList.take na').reverse (b.toList.take nb').reverse/\(0<na'/\na'<=a.size)/\(1<nb'/\nb'<=b.size)/\na'+nb'<=na2+nb2)) ?gstep ?gfin ⟨se,na2,nb2,out,_,ac,bc,rfl,m,g1,g2,by lia⟩) ?gpost)
   case gfin=>
    rintro c st' ⟨se,na',nb',out,mg,ac,bc,rfl,m,q1,q2,q3⟩
    lia
   case gpost=>
    rintro c st3 ⟨se,⟨r,rest,rfl,hr⟩ | ⟨na',nb',out,mg,ac,bc,rfl,m,q1,q2,q3⟩⟩
    ·exact B31 ⟨se,r,_,rfl,hr⟩
    dsimp only;refine B29 (B48 (B31 ?_));exact ⟨⟨se.1,se.2.1,se.2.2.1,se.2.2.2⟩,na',nb',out,_,rfl,m,q1,q2,by lia⟩
   case gstep=>
    rintro y c st0 _ hy ⟨se,na',nb',out,mg,ac,bc,rfl,m,q1,q2,q3⟩;dsimp only;obtain ⟨yb,e1,e1',mb⟩:=qC2 (a:=b) (i:=nb' - 1) (by lia)
    apply gtwo (α:=Nat) (M:=fun _=>True)
    ·intro J;by_cases hmg:mg > 1
     ·refine gifT hmg ?_;refine B29 (B48 ?_);generalize mg - 1=n;exact J n trivial
     ·refine gifF hmg ?_;refine B29 (B48 ?_);generalize mg=n;exact J n trivial
    ·intro n _;have se':gSE st st0:=se;refine B29 (qB6 e1 ?_);refine B29 (qFU (left:=false) (base:=0) (n:=na') (hint:=na' - 1) (se.1.trans hk) (kb _ mb) ka (by lia) (by lia) (qEB (by lia) ua) fun k k1 k2 k3=>?_)
     dsimp only;have le1:∀ x ∈ (a.toList.take k).reverse,gkv x<=gkv yb:=fun x hx=>qNP (base:=0) k1 (by lia) k2 x (by simpa using hx)
     apply gtwo (α:=Array Keyed) (M:=fun o=>gMR grDn (a.toList++b.toList) o.toList (a.toList.take k).reverse (b.toList.take nb').reverse/\0<k)
     ·intro J;by_cases k0:na' - k > 0
      ·refine gifT k0 ?_;have mk:gMR grDn (a.toList++b.toList) (out++(a.extract k na').reverse).toList (a.toList.take k).reverse (b.toList.take nb').reverse:=by
        rw [D8,U4,qAW];rw [qJQ (l:=a.toList) (i:=k) (j:=na') (by lia)] at m
        exact m.takeA fun x hx z hz=>by
         have q1:=qL4 (base:=0) (n:=na') (by lia) k3 x (by rw [Y6,A97];exact V9.mp hx)
         have q2:=most ub (by lia) e1' z hz
         show gkv z<=gkv x
         lia
       by_cases c1:k=0
       ·refine gifT (by simp [c1]) ?_
        refine B31 ⟨se',.inl ⟨_,_,rfl,?_⟩⟩;subst c1;exact outA _ _ mk
       refine gifF (by simp;exact c1) ?_
       generalize out++(a.extract k na').reverse=o at mk ⊢;exact J o ⟨mk,by lia⟩
      ·refine gifF k0 ?_;have k00:k=na':=by lia
       subst k00;exact J out ⟨m,by lia⟩
     ·rintro o ⟨mk,kp⟩;refine B29 (qB6 e1 ?_);have m1:=stepB mk (by lia) e1' le1
      by_cases hbe:nb' - 1=1
      ·refine gifT (by simp [hbe]) ?_
       refine B31 ⟨se',.inl ⟨_,_,rfl,?_⟩⟩;rw [hbe] at m1 ⊢;exact outF _ _ m1
      refine gifF (by simp;lia) ?_
      obtain ⟨xa,e2,e2',ma⟩:=qC2 (a:=a) (i:=k - 1) (by lia)
      refine B29 (qB6 e2 ?_);refine B29 (qFU (left:=true) (base:=0) (n:=nb' - 1) (hint:=nb' - 1 - 1) (se.1.trans hk) (ka _ ma) kb (by lia) (by lia) (qEB (by lia) ub) fun k' j1 j2 j3=>?_)
      dsimp only;have lt2:∀ y ∈ (b.toList.take k').reverse,gkv y<=gkv xa:=fun y hy=>by
       have q:=qNO (base:=0) j1 (by lia) j2 y (by simpa using hy)
       lia
      generalize o.push yb=o1 at m1 ⊢;apply gtwo (α:=Array Keyed) (M:=fun o=>gMR grDn (a.toList++b.toList) o.toList (a.toList.take k).reverse (b.toList.take k').reverse/\1<k')
      ·intro J;by_cases k0':nb' - 1 - k' > 0
       ·rw [if_pos k0'];have m2:gMR grDn (a.toList++b.toList) (o1++(b.extract k' (nb' - 1)).reverse).toList (a.toList.take (k)).reverse (b.toList.take k').reverse:=by
         rw [D8,U4,qAW];rw [qJQ (l:=b.toList) (i:=k') (j:=nb' - 1) (by lia)] at m1
         exact m1.takeB fun x hx z hz=>by
          have q1:=qL5 (base:=0) (n:=nb' - 1) (by lia) j3 x (by rw [Y6,A97];exact V9.mp hx)
          have q2:=most ua (by lia) e2' z hz
          show gkv z<=gkv x
          lia
        by_cases hb1':k'=1
        ·refine gifT (by simp [hb1']) ?_
         refine B31 ⟨se',.inl ⟨_,_,rfl,?_⟩⟩;subst hb1';exact outF _ _ m2
        refine gifF (by simp;exact hb1') ?_
        by_cases hb0':k'=0
        ·refine gifT (by simp [hb0']) ?_
         refine B31 ⟨se',.inl ⟨_,_,rfl,?_⟩⟩;subst hb0';exact outB _ _ m2
        refine gifF (by simp;exact hb0') ?_
        generalize o1++(b.extract k' (nb' - 1)).reverse=o2 at m2 ⊢;exact J o2 ⟨m2,by lia⟩
       ·rw [if_neg k0'];have k0'':k'=nb' - 1:=by lia
        subst k0'';exact J o1 ⟨m1,by lia⟩
      ·rintro o2 ⟨m2,kp'⟩;refine B29 (qB6 e2 ?_);have m3:=stepA m2 (by lia) e2' lt2
       by_cases hae:k - 1=0
       ·refine gifT (by simp [hae]) ?_
        refine B31 ⟨se',.inl ⟨_,_,rfl,?_⟩⟩;rw [hae] at m3 ⊢;exact outA _ _ m3
       refine gifF (by simp;lia) ?_
       split
       ·exact B31 ⟨se',.inr ⟨_,_,_,_,_,_,rfl,m3,by lia,by lia,by lia⟩⟩
       ·exact B31 ⟨se',_,_,_,_,_,_,rfl,m3,by lia,by lia,by lia⟩
end
end L2.G
namespace L2.G
open PySem PyProof.Rows
variable [NM]
theorem qNN (b:Nat):∀ (r:List Keyed) (k:Nat) (xs:Array Keyed),b+k+r.length<=xs.size->((r.zipIdx k).foldl (fun a (p:Keyed × Nat)=>a.setIfInBounds (b+p.2) p.1) xs).toList=xs.toList.take (b+k)++r++xs.toList.drop (b+k+r.length)
 | [],k,xs,_=>by simp
 | p::r,k,xs,h=>by
  have hl:b+k<xs.toList.length:=by simp at h ⊢;lia
  rw [List.zipIdx_cons,W9,qNN b r (k+1) _ (by simp at h ⊢;lia)]
  simp only [o9,E2];have e1:(xs.toList.set (b+k) p).take (b+(k+1))=xs.toList.take (b+k)++[p]:=by
   rw [<- A54,C8,List.take_set_of_le (A6 _),W3 hl]
   rfl
  have e2:(xs.toList.set (b+k) p).drop (b+(k+1)+r.length)=xs.toList.drop (b+k+(r.length+1)):=by
   rw [List.drop_set_of_lt (by lia)]
   congr 1
   lia
  rw [e1,e2];simp
def gSeg (xs:Array Keyed) (lo hi:Nat):Prop:=∀ i j,lo<=i->i<=j->j<hi->gK xs i<=gK xs j
theorem qUW {xs:Array Keyed} {i:Nat} (h:i<xs.size):gK xs i=gkv (xs[i]'h):=qaI h
theorem qJS {xs:Array Keyed} {i:Nat} {x:Keyed} (h:xs[i]?=some x):gK xs i=gkv x:=by
 unfold gK;rw [h]
 rfl
theorem qH8 {left:Bool} {key:Keyed} {arr:Array Keyed} {base i:Nat} (h:base+i<arr.size):qAQ left key arr base i=if left=true then decide (gK arr (base+i)<gkv key) else decide (gK arr (base+i)<=gkv key):=by
 unfold qAQ;rw [B8 h,qUW h]
theorem qI4 {left:Bool} {key:Keyed} {arr:Array Keyed} {base n:Nat} (hn:base+n<=arr.size) (u:gSeg arr base (base+n)):∀ i j,i<=j->j<n->qAQ left key arr base j=true->qAQ left key arr base i=true:=by
 intro i j hij hj e;have le:=u (base+i) (base+j) (by lia) (by lia) (by lia)
 rw [qH8 (by lia)] at e ⊢
 cases left with
 | true=>
  have:=of_decide_eq_true e;exact decide_eq_true (by lia)
 | false=>
  have:=of_decide_eq_true e;exact decide_eq_true (by lia)
theorem qNK {xs:Array Keyed} {lo hi:Nat} (h:hi<=xs.size) (u:gSeg xs lo hi):(xs.extract lo hi).toList.Pairwise grUp:=by
 rw [F9];intro i j hi' hj' hij;have e:(xs.extract lo hi).size=hi - lo:=by simp;lia
 have hi2:i<hi - lo:=by simp at hi';lia
 have hj2:j<hi - lo:=by simp at hj';lia
 have:=u (lo+i) (lo+j) (by lia) (by lia) (by lia)
 rw [qUW (by lia),qUW (by lia)] at this
 simpa using this
theorem qFV {xs:Array Keyed} {lo hi:Nat} {x:Keyed} (m:x ∈ (xs.extract lo hi).toList):∃ j,lo<=j/\j<hi/\j<xs.size/\gK xs j=gkv x:=by
 obtain ⟨i,hi',e⟩:=J7 m;have h2:i<hi - lo/\i<xs.size - lo:=by simp at hi';lia
 refine ⟨lo+i,by lia,by lia,by lia,?_⟩
 rw [qUW (by lia),<- e]
 simp
theorem qUU {xs:Array Keyed} {lo hi i:Nat} {x:Keyed} (m:(xs.extract lo hi).toList[i]?=some x):gK xs (lo+i)=gkv x:=by
 obtain ⟨hi',e⟩:=A4.mp m;have h2:i<hi - lo/\i<xs.size - lo:=by simp at hi';lia
 rw [qUW (by lia),<- e]
 simp
theorem qcL {xs ys:Array Keyed} {b:Nat} {r:List Keyed} (e:ys.toList=xs.toList.take b++r++xs.toList.drop (b+r.length)) (hb:b+r.length<=xs.size) (j:Nat) :
  (j<b\/b+r.length<=j->gK ys j=gK xs j)/\(b<=j->j<b+r.length->∃ x,r[j - b]?=some x/\gK ys j=gkv x):=by
 have lt:(xs.toList.take b).length=b:=by simp;lia
 constructor
 ·intro hj;apply qFW;rw [<- E4,<- E4,e,Q4];rcases hj with hj | hj
  ·rw [J3 (by lia),Z6 hj]
  ·rw [G0 (by lia),lt,G0 (by lia),A55]
   congr 1
   lia
 ·intro h1 h2;refine ⟨r[j - b]'(by lia),A5 _,qJS ?_⟩
  rw [<- E4,e,Q4,G0 (by lia),lt,J3 (by lia)]
  exact A5 _
section
variable {prog:B30} {w:World} {A:Around} {E:Aa1} {s:Shared} {κ0:B61} [LtOk prog w A s κ0]
theorem qXM {st st':SortSt} {Q:PUnit->SortSt->Prop} (h:Q ⟨⟩ st'):wpS (model prog w) A E s (set st':StateT SortSt Sem PUnit) Q st:=by
 unfold wpS;rw [StateT.run_set];exact B27 ⟨rfl,h⟩
structure gSG (κ0:B61) (a₀:Array Keyed) (st:SortSt):Prop where
 perm:(arrOf st).Perm a₀
 kind:kindOf st=κ0
 failed:failedOf st=none
theorem gSG.size {a₀:Array Keyed} {st:SortSt} (h:gSG κ0 a₀ st):(arrOf st).size=a₀.size:=h.perm.size_eq
theorem gSG.ik {a₀:Array Keyed} {st:SortSt} (h:gSG κ0 a₀ st) (h0:qC4 a₀):∀ x ∈ (arrOf st).toList,gIK x:=fun x hx=>h0 x ((Y0.mp h.perm).mem_iff.mp hx)
theorem qXP {a₀:Array Keyed} {st:SortSt} {i sa na p nb q:Nat} {pre post:List (Nat × Nat × Nat)} {Q:Bool->SortSt->Prop} (h0:qC4 a₀) (g:gSG κ0 a₀ st)
  (hp:(B32 st).toList=pre++(sa,na,p)::(sa+na,nb,q)::post) (hi:i=pre.length) (hna:0<na) (hnb:0<nb) (hsz:sa+na+nb<=a₀.size)
  (ua:gSeg (arrOf st) sa (sa+na)) (ub:gSeg (arrOf st) (sa+na) (sa+na+nb))
  (h:∀ st',gSG κ0 a₀ st'->(B32 st').toList=pre++(sa,na+nb,p)::post->gSeg (arrOf st') sa (sa+na+nb)->(∀ k,k<sa\/sa+na+nb<=k->gK (arrOf st') k=gK (arrOf st) k)->Q true st') :
  wpS (model prog w) A E s (mergeAt' i) Q st:=by
 have p1:(B32 st)[i]?=some (sa,na,p):=by
  rw [<- E4,hp,hi,G0 (A6 _),A15]
  rfl
 have p2:(B32 st)[i+1]?=some (sa+na,nb,q):=by
  rw [<- E4,hp,hi,G0 (by lia),show pre.length+1 - pre.length=1 by lia]
  rfl
 have p3:(((B32 st).setIfInBounds i (sa,na+nb,p)).eraseIdxIfInBounds (i+1)).toList=pre++(sa,na+nb,p)::post:=by
  rw [Array.toList_eraseIdxIfInBounds,o9,hp,hi];rw [List.set_append_right _ _ (A6 _),A15,List.eraseIdx_append_of_length_le (by lia),show pre.length+1 - pre.length=1 by lia]
  rfl
 have size:=g.size;have ik:=g.ik h0;unfold mergeAt';refine B29 (B75 ?_);dsimp only;rw [p1,p2];dsimp only;obtain ⟨kb,ekb,_,mkb⟩:=qC2 (a:=arrOf st) (i:=sa+na) (by lia)
 have kkb:gK (arrOf st) (sa+na)=gkv kb:=qJS ekb;refine B29 (qXM (B29 (qB6 ekb ?_)));have g1:gSG κ0 a₀ (setPending st (((B32 st).setIfInBounds i (sa,na+nb,p)).eraseIdxIfInBounds (i+1))):=⟨g.perm,g.kind,g.failed⟩;show wpS _ _ _ _ (qXT false kb (arrOf st) sa na 0 >>= _) _ _;refine B29 (qFU g1.kind (ik kb mkb) ik (by lia) hna (qI4 (by lia) ua) fun k hk h1 h2=>?_)
 have a1:∀ j,sa<=j->j<sa+k->gK (arrOf st) j<=gkv kb:=fun j hl hj=>by
  have e:=h1 (j - sa) (by lia)
  rw [qH8 (by lia),show sa+(j - sa)=j by lia] at e
  exact of_decide_eq_true e
 have a2:∀ j,sa+k<=j->j<sa+na->gkv kb<gK (arrOf st) j:=fun j hl hj=>by
  have e:=h2 (j - sa) (by lia) (by lia)
  rw [qH8 (by lia),show sa+(j - sa)=j by lia] at e
  have:=of_decide_eq_false e
  lia
 dsimp only;by_cases ek:na - k=0
 ·refine gifT (by simpa using ek) ?_
  refine B31 (h _ g1 p3 (fun i j hl hij hj=>?_) fun _ _=>rfl);show gK (arrOf st) i<=gK (arrOf st) j;by_cases c1:j<sa+na
  ·exact ua i j hl hij c1
  ·by_cases c2:i<sa+na
   ·have q1:=a1 i hl (by lia)
    have q2:=ub (sa+na) j (by lia) (by lia) hj
    lia
   ·exact ub i j (by lia) hij hj
 refine gifF (by simpa using ek) ?_
 rw [show sa+k+(na - k) - 1=sa+na - 1 by lia]
 obtain ⟨kz,ekz,_,mkz⟩:=qC2 (a:=arrOf st) (i:=sa+na - 1) (by lia)
 have kkz:gK (arrOf st) (sa+na - 1)=gkv kz:=qJS ekz;refine B29 (qB6 ekz ?_);show wpS _ _ _ _ (qXT true kz (arrOf st) (sa+na) nb (nb - 1) >>= _) _ _;refine B29 (qFU g1.kind (ik kz mkz) ik (by lia) (by lia) (qI4 (by lia) ub) fun m hm h3 h4=>?_)
 have b1:∀ j,sa+na<=j->j<sa+na+m->gK (arrOf st) j<gkv kz:=fun j hl hj=>by
  have e:=h3 (j - (sa+na)) (by lia)
  rw [qH8 (by lia),show sa+na+(j - (sa+na))=j by lia] at e
  exact of_decide_eq_true e
 have b2:∀ j,sa+na+m<=j->j<sa+na+nb->gkv kz<=gK (arrOf st) j:=fun j hl hj=>by
  have e:=h4 (j - (sa+na)) (by lia) (by lia)
  rw [qH8 (by lia),show sa+na+(j - (sa+na))=j by lia] at e
  have:=of_decide_eq_false e
  lia
 dsimp only;by_cases em:m=0
 ·refine gifT (by simpa using em) ?_
  refine B31 (h _ g1 p3 (fun i j hl hij hj=>?_) fun _ _=>rfl);show gK (arrOf st) i<=gK (arrOf st) j;by_cases c1:j<sa+na
  ·exact ua i j hl hij c1
  ·by_cases c2:i<sa+na
   ·have q1:=ua i (sa+na - 1) hl (by lia) (by lia)
    have q2:=b2 j (by lia) hj
    lia
   ·exact ub i j (by lia) hij hj
 refine gifF (by simpa using em) ?_
 have sx:((arrOf st).extract (sa+k) (sa+na)).size=na - k:=by simp;lia
 have sy:((arrOf st).extract (sa+na) (sa+na+m)).size=m:=by simp;lia
 have ux:=qNK (xs:=arrOf st) (lo:=sa+k) (hi:=sa+na) (by lia) fun i j hl hij hj=>ua i j (by lia) hij hj
 have uy:=qNK (xs:=arrOf st) (lo:=sa+na) (hi:=sa+na+m) (by lia) fun i j hl hij hj=>ub i j hl hij (by lia)
 have kx:∀ x ∈ ((arrOf st).extract (sa+k) (sa+na)).toList,gIK x:=fun x hx=>ik x (by rw [qAW] at hx;exact U3 (O1 hx))
 have ky:∀ x ∈ ((arrOf st).extract (sa+na) (sa+na+m)).toList,gIK x:=fun x hx=>ik x (by rw [qAW] at hx;exact U3 (O1 hx))
 have fst:∀ y,((arrOf st).extract (sa+na) (sa+na+m)).toList[0]?=some y->∀ x ∈ ((arrOf st).extract (sa+k) (sa+na)).toList,gkv y<=gkv x:=by
  intro y hy x hx;have e:=qUU hy;obtain ⟨j,j1,j2,_,ej⟩:=qFV hx;have:=a2 j j1 j2;rw [Nat.add_zero] at e
  lia
 have lst:∀ z,((arrOf st).extract (sa+k) (sa+na)).toList[((arrOf st).extract (sa+k) (sa+na)).size - 1]?=some z->∀ y ∈ ((arrOf st).extract (sa+na) (sa+na+m)).toList,gkv y<=gkv z:=by
  intro z hz y hy;have e:=qUU hz;obtain ⟨j,j1,j2,_,ej⟩:=qFV hy;have:=b1 j j1 j2;rw [sx,show sa+k+(na - k - 1)=sa+na - 1 by lia] at e
  lia
 have fin:∀ (r:Array Keyed) (st2:SortSt),gSE (setPending st (((B32 st).setIfInBounds i (sa,na+nb,p)).eraseIdxIfInBounds (i+1))) st2->gRes (((arrOf st).extract (sa+k) (sa+na)).toList++((arrOf st).extract (sa+na) (sa+na+m)).toList) r.toList->
   Q true (setArr st2 (r.toList.zipIdx.foldl (fun a (p:Keyed × Nat)=>a.setIfInBounds (sa+k+p.2) p.1) (arrOf st2))):=by
  rintro r st2 ⟨q1,q2,q3,q4⟩ ⟨rp,ru⟩;have q2':arrOf st2=arrOf st:=q2;have rl:r.toList.length=na - k+m:=by
   rw [rp.length_eq,B0,C6,C6,sx,sy]
  have e:=qNN (sa+k) r.toList 0 (arrOf st2) (by rw [q2',rl];lia)
  rw [Nat.add_zero,q2'] at e;have LK:=qcL e (by rw [rl];lia)
  have e0:(arrOf st).toList=(arrOf st).toList.take (sa+k)++(((arrOf st).extract (sa+k) (sa+na)).toList++((arrOf st).extract (sa+na) (sa+na+m)).toList)++(arrOf st).toList.drop (sa+k+r.toList.length):=by
   rw [qAW,qAW,rl,show sa+na - (sa+k)=na - k by lia,show sa+na+m - (sa+na)=m by lia]
   have t1:(arrOf st).toList.drop (sa+na)=((arrOf st).toList.drop (sa+k)).drop (na - k):=by rw [t8];congr 1;lia
   have t2:(arrOf st).toList.drop (sa+k)=((arrOf st).toList.drop (sa+k)).take (na - k+m)++(arrOf st).toList.drop (sa+k+(na - k+m)):=qGE;rw [t1,<- B13,Q4,<- t2,j7]
  have gp:(r.toList.zipIdx.foldl (fun a (p:Keyed × Nat)=>a.setIfInBounds (sa+k+p.2) p.1) (arrOf st)).Perm (arrOf st):=by
   rw [Y0,e]
   conv=>rhs;rw [e0]
   exact (j6 _ rp).append_right _
  have lowR:∀ x ∈ r.toList,∀ i,sa<=i->i<sa+k->gK (arrOf st) i<=gkv x:=by
   intro x hx i hl hi;rcases B3.mp (rp.mem_iff.mp hx) with hx | hx
   ·obtain ⟨j,j1,j2,_,ej⟩:=qFV hx;rw [<- ej];exact ua i j hl (by lia) j2
   ·obtain ⟨j,j1,j2,_,ej⟩:=qFV hx;have z1:=a1 i hl hi;have z2:=ub (sa+na) j (by lia) j1 (by lia)
    lia
  have highR:∀ x ∈ r.toList,∀ j,sa+na+m<=j->j<sa+na+nb->gkv x<=gK (arrOf st) j:=by
   intro x hx j hl hj;rcases B3.mp (rp.mem_iff.mp hx) with hx | hx
   ·obtain ⟨i,j1,j2,_,ej⟩:=qFV hx;have z1:=ua i (sa+na - 1) (by lia) (by lia) (by lia)
    have z2:=b2 j hl hj
    lia
   ·obtain ⟨i,j1,j2,_,ej⟩:=qFV hx;rw [<- ej];exact ub i j j1 (by lia) hj
  rw [q2'];refine h _ ⟨gp.trans g.perm,q1.trans g.kind,q4.trans g.failed⟩ ((congrArg A73 q3).trans p3) ?_ fun j hj=>(LK j).1 (by rw [rl];lia)
  intro i j hl hij hj;show gK (r.toList.zipIdx.foldl (fun a (p:Keyed × Nat)=>a.setIfInBounds (sa+k+p.2) p.1) (arrOf st)) i<=gK (r.toList.zipIdx.foldl (fun a (p:Keyed × Nat)=>a.setIfInBounds (sa+k+p.2) p.1) (arrOf st)) j;have K1:∀ j,j<sa+k\/sa+k+(na - k+m)<=j->gK (r.toList.zipIdx.foldl (fun a (p:Keyed × Nat)=>a.setIfInBounds (sa+k+p.2) p.1) (arrOf st)) j=gK (arrOf st) j:=fun j hj=>(LK j).1 (by rw [rl];exact hj)
  have K2:∀ j,sa+k<=j->j<sa+k+(na - k+m)->∃ x,r.toList[j - (sa+k)]?=some x/\gK (r.toList.zipIdx.foldl (fun a (p:Keyed × Nat)=>a.setIfInBounds (sa+k+p.2) p.1) (arrOf st)) j=gkv x:=fun j h1 h2=>(LK j).2 h1 (by rw [rl];exact h2)
  by_cases c1:i<sa+k
  ·rw [K1 i (.inl c1)];by_cases c2:j<sa+k
   ·rw [K1 j (.inl c2)];exact ua i j hl hij (by lia)
   ·by_cases c3:j<sa+k+(na - k+m)
    ·obtain ⟨x,ex,kx2⟩:=K2 j (by lia) c3
     rw [kx2];exact lowR x (B5 ex) i hl c1
    ·rw [K1 j (.inr (by lia))]
     have z1:=a1 i hl c1;have z2:=ub (sa+na) j (by lia) (by lia) hj
     lia
  ·by_cases c2:i<sa+k+(na - k+m)
   ·obtain ⟨x,ex,kx2⟩:=K2 i (by lia) c2
    rw [kx2];by_cases c3:j<sa+k+(na - k+m)
    ·obtain ⟨y,ey,ky2⟩:=K2 j (by lia) c3
     rw [ky2];by_cases c4:i=j
     ·rw [c4] at ex;rw [ex] at ey;cases ey;exact P1 _
     ·obtain ⟨x1,x2⟩:=A4.mp ex;obtain ⟨y1,y2⟩:=A4.mp ey;have:=F9.mp ru (i - (sa+k)) (j - (sa+k)) x1 y1 (by lia)
      rw [x2,y2] at this;exact this
    ·rw [K1 j (.inr (by lia))]
     exact highR x (B5 ex) j (by lia) hj
   ·rw [K1 i (.inr (by lia)),K1 j (.inr (by lia))]
    exact ub i j (by lia) hij hj
 by_cases c:na - k<=m
 ·refine gifT c ?_;show wpS _ _ _ _ (gmLo ((arrOf st).extract (sa+k) (sa+na)) ((arrOf st).extract (sa+na) (sa+na+m)) >>= _) _ _;refine B29 (qXN g1.kind kx ky ux uy (by rw [sx];lia) (by rw [sy];lia) fst lst fun r st2 se rs=>?_)
  refine B29 (B48 (B29 (B75 (B31 ?_))));have e:(failedOf st2).isNone=true:=by rw [se.2.2.2,g1.failed];rfl
  show Q (failedOf st2).isNone _;rw [e];exact fin r st2 se rs
 ·refine gifF c ?_;show wpS _ _ _ _ (gmHi ((arrOf st).extract (sa+k) (sa+na)) ((arrOf st).extract (sa+na) (sa+na+m)) >>= _) _ _;refine B29 (qXO g1.kind kx ky ux uy (by rw [sx];lia) (by rw [sy];lia) fst lst fun r st2 se rs=>?_)
  refine B29 (B48 (B29 (B75 (B31 ?_))));have e:(failedOf st2).isNone=true:=by rw [se.2.2.2,g1.failed];rfl
  show Q (failedOf st2).isNone _;rw [e];exact fin r st2 se rs
end
end L2.G
namespace L2.G
open PySem PyProof.Rows
variable [NM]
def gOut (xs ys:Array Keyed) (lo hi:Nat):Prop:=∀ k,k<lo\/hi<=k->gK ys k=gK xs k
theorem gOut.refl (xs:Array Keyed) (lo hi:Nat):gOut xs xs lo hi:=fun _ _=>rfl
theorem gOut.trans {xs ys zs:Array Keyed} {lo hi:Nat} (h1:gOut xs ys lo hi) (h2:gOut ys zs lo hi):gOut xs zs lo hi:=fun k hk=>(h2 k hk).trans (h1 k hk)
theorem gOut.wide {xs ys:Array Keyed} {lo hi lo' hi':Nat} (h:gOut xs ys lo hi) (a:lo'<=lo) (b:hi<=hi'):gOut xs ys lo' hi':=fun k hk=>h k (by lia)
theorem gSG.lay {κ0:B61} {a₀:Array Keyed} {st:SortSt} (g:gSG κ0 a₀ st) {ys:Array Keyed} (p:ys.Perm (arrOf st)):gSG κ0 a₀ (setArr st ys):=⟨p.trans g.perm,g.kind,g.failed⟩
theorem qP7 {xs:Array Keyed} {i j:Nat} (hj:j<=xs.size):gOut xs (mirror xs i j ((j - i) / 2)) i j:=fun k hk=>by rw [qHA hj,if_neg (by lia)]
section
variable {prog:B30} {w:World} {A:Around} {E:Aa1} {s:Shared} {κ0:B61} [LtOk prog w A s κ0] {a₀:Array Keyed}
theorem qH5 {st:SortSt} {i j:Nat} {Q:Option Bool->SortSt->Prop} (h0:qC4 a₀) (g:gSG κ0 a₀ st) (hi:i<a₀.size) (hj:j<a₀.size) (h:Q (some (decide (gK (arrOf st) i<gK (arrOf st) j))) st):wpS (model prog w) A E s (ltAt' i j) Q st:=by
 have hi2:i<(arrOf st).size:=by rw [g.size];exact hi
 have hj2:j<(arrOf st).size:=by rw [g.size];exact hj
 obtain ⟨x,ex,_,mx⟩:=qC2 hi2;obtain ⟨y,ey,_,my⟩:=qC2 hj2;rw [qJS ex,qJS ey] at h;rw [ltAt'_eq];refine B29 (B75 ?_);exact B29 (qB6 ex (B29 (qB6 ey (qH6 g.kind (g.ik h0 x mx) (g.ik h0 y my) h))))
theorem qXS {st:SortSt} {lo n ok:Nat} {Q:Bool->SortSt->Prop} (h0:qC4 a₀) (g:gSG κ0 a₀ st) (hn:lo+n<=a₀.size) (hok:ok<=n) (u:gSeg (arrOf st) lo (lo+ok))
  (h:∀ st2,gSG κ0 a₀ st2->B32 st2=B32 st->gSeg (arrOf st2) lo (lo+n)->gOut (arrOf st) (arrOf st2) lo (lo+n)->Q true st2):wpS (model prog w) A E s (binarySort' lo n ok) Q st:=by
 rw [binarySort'_eq];refine B29 (B56 (B43 (I:=fun k c st2=>c=(none,())/\gSG κ0 a₀ st2/\B32 st2=B32 st/\gSeg (arrOf st2) lo (lo+min k n)/\gOut (arrOf st) (arrOf st2) lo (lo+n))
  (Q:=fun c st2=>c=(none,())/\gSG κ0 a₀ st2/\B32 st2=B32 st/\gSeg (arrOf st2) lo (lo+n)/\gOut (arrOf st) (arrOf st2) lo (lo+n)) ?step ?fin ?init) ?post)
 case post=>
  rintro c st2 ⟨rfl,g2,pe,u2,o2⟩;exact B31 (h st2 g2 pe u2 o2)
 case init=>
  refine ⟨rfl,g,rfl,fun i j hl hij hj=>?_,.refl _ _ _⟩;by_cases h1:ok=0
  ·rw [show i=j by lia]
   exact P1 _
  ·exact u i j hl hij (by lia)
 case fin=>
  rintro c st2 ⟨hc,g2,pe,u2,o2⟩;rw [show min (max (max ok 1) n) n=n by lia] at u2
  exact ⟨hc,g2,pe,u2,o2⟩
 case step=>
  rintro k c st2 hak hkn ⟨rfl,g2,pe,u2,o2⟩;rw [show min k n=k by lia] at u2
  have hk:lo+k<a₀.size:=by lia
  refine B29 (B56 (B43 (I:=fun x c st3=>st3=st2/\∃ l r,c=(none,l,r)/\l<=r/\r<=k/\r - l<=k - x/\
    (∀ i,lo<=i->i<lo+l->gK (arrOf st2) i<=gK (arrOf st2) (lo+k))/\(∀ i,lo+r<=i->i<lo+k->gK (arrOf st2) (lo+k)<gK (arrOf st2) i))
   (Q:=fun c st3=>st3=st2/\∃ l r,c=(none,l,r)/\l<=k/\
    (∀ i,lo<=i->i<lo+l->gK (arrOf st2) i<=gK (arrOf st2) (lo+k))/\(∀ i,lo+l<=i->i<lo+k->gK (arrOf st2) (lo+k)<gK (arrOf st2) i)) ?istep ?ifin ?iinit) ?ipost)
  case iinit=>exact ⟨rfl,0,k,rfl,by lia,by lia,by lia,fun i _ hi=>by lia,fun i h1 h2=>by lia⟩
  case ifin=>
   rintro c st3 ⟨rfl,l,r,rfl,hlr,hrk,hm,ha,hb⟩;have e:l=r:=by lia
   rw [<- e] at hb hrk;exact ⟨rfl,l,r,rfl,hrk,ha,hb⟩
  case istep=>
   rintro x c st3 _ hxk ⟨rfl,l,r,rfl,hlr,hrk,hm,ha,hb⟩;dsimp only;by_cases hge:l >= r
   ·refine gifT hge ?_;have e:l=r:=by lia
    rw [<- e] at hb hrk;exact B31 ⟨rfl,l,r,rfl,hrk,ha,hb⟩
   ·refine gifF hge ?_;refine B29 (qH5 h0 g2 hk (by lia) ?_)
    by_cases less:gK (arrOf st3) (lo+k)<gK (arrOf st3) (lo+(l+r) / 2)
    ·rw [decide_eq_true less];dsimp only;refine gifT rfl ?_;refine B31 ⟨rfl,l,(l+r) / 2,rfl,by lia,by lia,by lia,ha,fun i h1 h2=>?_⟩
     have:=u2 (lo+(l+r) / 2) i (by lia) h1 h2
     lia
    ·rw [decide_eq_false less];dsimp only;rw [if_neg B4];refine B31 ⟨rfl,(l+r) / 2+1,r,rfl,by lia,by lia,by lia,fun i h3 h1=>?_,hb⟩
     have:=u2 i (lo+(l+r) / 2) h3 (by lia) (by lia)
     lia
  case ipost=>
   rintro c st3 ⟨rfl,l,r,rfl,hlk,ha,hb⟩;have hks:lo+k<(arrOf st3).size:=by rw [g2.size];exact hk
   show wpS _ _ _ _ (moveDown' (lo+k) (lo+l) >>= fun _=>pure (L6 (none,()))) _ _;rw [moveDown'_eq];refine B29 (B48 (B31 ⟨rfl,g2.lay (bubble_perm _ _ _),pe,?_,o2.trans ?_⟩))
   ·rw [show min (k+1) n=k+1 by lia]
    intro i j hl hij hj;show gK (bubble (arrOf st3) (lo+k) (lo+k - (lo+l))) i<=gK (bubble (arrOf st3) (lo+k) (lo+k - (lo+l))) j;rw [qJT hks (by lia),qJT hks (by lia),show lo+k - (lo+k - (lo+l))=lo+l by lia]
    repeat' split
    all_goals first
     | (exfalso;lia)
     | exact P1 _
     | exact ha _ (by lia) (by lia)
     | exact p9 (hb _ (by lia) (by lia))
     | exact u2 _ _ (by lia) (by lia) (by lia)
   ·intro i hi;show gK (bubble (arrOf st3) (lo+k) (lo+k - (lo+l))) i=gK (arrOf st3) i;rw [qJT hks (by lia),if_neg (by lia),if_neg (by lia)]
abbrev gCUp:=Option (Option Nat) × Nat
abbrev gCDn:=Option (Option Nat) × Nat × Nat
def gupL (lo a m:Nat):gSM gCUp:=
 forIn [a:m] ((none,a):gCUp) fun _ c=>do
  let t <- ltAt' (lo+c.snd) (lo+c.snd - 1)
  match t with
  | some less=>if less=true then pure (j4 (none,c.snd)) else pure (L6 (none,c.snd+1))
  | _=>pure (j4 (some none,c.snd))
def qUS (lo n m:Nat):gSM (Option Nat):=do
 reverseSlice' lo (lo+n)
 let c <- gupL lo n m
 match c.fst with
 | some r=>pure r
 | none=>pure (some c.snd)
def gdnL (lo n m:Nat):gSM gCDn:=
 forIn [n:m] ((none,n,0):gCDn) fun _ c=>do
  let t <- ltAt' (lo+c.snd.fst) (lo+c.snd.fst - 1)
  match t with
  | some less=>
   if less=true then
    if c.snd.snd > 0 then do
     reverseSlice' (lo+c.snd.fst - (c.snd.snd+1)) (lo+c.snd.fst)
     pure (L6 (none,c.snd.fst+1,0))
    else pure (L6 (none,c.snd.fst+1,0))
   else do
    let t <- ltAt' (lo+c.snd.fst - 1) (lo+c.snd.fst)
    match t with
    | some more=>
     if more=true then pure (j4 (none,c.snd.fst,c.snd.snd))
     else pure (L6 (none,c.snd.fst+1,c.snd.snd+1))
    | _=>pure (j4 (some none,c.snd.fst,c.snd.snd))
  | _=>pure (j4 (some none,c.snd.fst,c.snd.snd))
def gdnP (lo n m:Nat):gSM (Option Nat):=do
 liftM (rule "list.sort.descending-run")
 let c <- gdnL lo (n+1) m
 match c.fst with
 | some r=>pure r
 | none=>
  if c.snd.snd > 0 then do
   reverseSlice' (lo+c.snd.fst - (c.snd.snd+1)) (lo+c.snd.fst)
   qUS lo c.snd.fst m
  else qUS lo c.snd.fst m
theorem qBE {α β:Type} {x y:gSM α} {f g:α->gSM β} (h:x=y) (k:∀ a,f a=g a):(x >>= f)=(y >>= g):=by rw [h,show f=g from funext k]
theorem qUT (lo m:Nat):countRun' lo m=(do
  let c <- gupL lo 1 m
  match c.fst with
  | some r=>pure r
  | none=>
   if (c.snd == m)=true then pure (some c.snd)
   else if c.snd > 1 then do
    let t <- ltAt' lo (lo+c.snd - 1)
    match t with
    | some rose=>if rose=true then pure (some c.snd) else do
      reverseSlice' lo (lo+c.snd)
      gdnP lo c.snd m
    | _=>pure none
   else gdnP lo c.snd m):=by
 rw [countRun'_eq];unfold gdnP qUS gdnL gupL;refine qBE rfl fun c=>?_;obtain ⟨r,n⟩:=c;cases r with
 | some r=>rfl
 | none=>
  have last:∀ c3:gCUp,(match c3.fst with | some r=>pure r | none=>pure (some c3.snd):gSM (Option Nat))=(match c3.fst with | some r=>pure r | none=>pure (some c3.snd)):=fun _=>rfl
  dsimp only
  split
  ·rfl
  ·split
   ·refine qBE rfl fun x=>?_;cases x with
    | none=>rfl
    | some rose=>
     dsimp only
     split
     ·rfl
     ·refine qBE rfl fun _=>qBE rfl fun _=>qBE rfl fun c2=>?_;obtain ⟨r2,n2,q2⟩:=c2;cases r2 with
      | some r2=>rfl
      | none=>
       dsimp only
       split
       ·refine qBE rfl fun _=>qBE rfl fun _=>qBE rfl fun c3=>?_;obtain ⟨r3,n3⟩:=c3;cases r3 <;> rfl
       ·refine qBE rfl fun _=>qBE rfl fun c3=>?_;obtain ⟨r3,n3⟩:=c3;cases r3 <;> rfl
   ·refine qBE rfl fun _=>qBE rfl fun c2=>?_;obtain ⟨r2,n2,q2⟩:=c2;cases r2 with
    | some r2=>rfl
    | none=>
     dsimp only
     split
     ·refine qBE rfl fun _=>qBE rfl fun _=>qBE rfl fun c3=>?_;obtain ⟨r3,n3⟩:=c3;cases r3 <;> rfl
     ·refine qBE rfl fun _=>qBE rfl fun c3=>?_;obtain ⟨r3,n3⟩:=c3;cases r3 <;> rfl
def gFal (xs:Array Keyed) (lo hi:Nat):Prop:=∀ i j,lo<=i->i<=j->j<hi->gK xs j<=gK xs i
theorem qR0 {st:SortSt} {lo a m:Nat} {Q:gCUp->SortSt->Prop} (h0:qC4 a₀) (g:gSG κ0 a₀ st) (hm:lo+m<=a₀.size) (ha:1<=a) (han:a<=m) (u:gSeg (arrOf st) lo (lo+a))
  (h:∀ n,a<=n->n<=m->gSeg (arrOf st) lo (lo+n)->(n=m\/gK (arrOf st) (lo+n)<gK (arrOf st) (lo+n - 1))->Q (none,n) st):wpS (model prog w) A E s (gupL lo a m) Q st:=by
 unfold gupL;refine B43 (I:=fun x c st2=>st2=st/\c=(none,x)/\gSeg (arrOf st) lo (lo+x)) ?step ?fin ⟨rfl,rfl,u⟩
 case fin=>
  rintro c st2 ⟨rfl,rfl,u2⟩;rw [show max a m=m by lia] at u2 ⊢
  exact h m han (A6 _) u2 (.inl rfl)
 case step=>
  rintro x c st2 hax hxn ⟨rfl,rfl,u2⟩;dsimp only;refine B29 (qH5 h0 g (by lia) (by lia) ?_)
  by_cases less:gK (arrOf st2) (lo+x)<gK (arrOf st2) (lo+x - 1)
  ·rw [decide_eq_true less];dsimp only;refine gifT rfl ?_;exact B31 (h x hax (by lia) u2 (.inr less))
  ·rw [decide_eq_false less];dsimp only;rw [if_neg B4];refine B31 ⟨rfl,rfl,fun i j hl hij hj=>?_⟩;by_cases hjx:j<lo+x
   ·exact u2 i j hl hij hjx
   ·have ej:j=lo+x:=by lia
    rw [ej];by_cases ei:i=lo+x
    ·rw [ei];exact P1 _
    ·have:=u2 i (lo+x - 1) hl (by lia) (by lia)
     lia
theorem qNJ {st:SortSt} {lo n m:Nat} {Q:Option Nat->SortSt->Prop} (h0:qC4 a₀) (g:gSG κ0 a₀ st) (hm:lo+m<=a₀.size) (h1:1<=n) (hnm:n<=m) (u:gFal (arrOf st) lo (lo+n))
  (h:∀ k st2,gSG κ0 a₀ st2->B32 st2=B32 st->1<=k->k<=m->gSeg (arrOf st2) lo (lo+k)->gOut (arrOf st) (arrOf st2) lo (lo+m)->Q (some k) st2):wpS (model prog w) A E s (qUS lo n m) Q st:=by
 unfold qUS;have hsz:lo+n<=(arrOf st).size:=by rw [g.size];lia
 rw [C02];refine B29 (B48 ?_);have g2:gSG κ0 a₀ (setArr st (mirror (arrOf st) lo (lo+n) ((lo+n - lo) / 2))):=g.lay (mirror_perm _ _ _ _);refine B29 (qR0 h0 g2 hm h1 hnm ?_ fun k hk1 hk2 uk _=>B31 (h k _ g2 rfl (by lia) hk2 uk ((qP7 hsz).wide (A6 _) (by lia))))
 intro i j hl hij hj;show gK (mirror (arrOf st) lo (lo+n) ((lo+n - lo) / 2)) i<=gK (mirror (arrOf st) lo (lo+n) ((lo+n - lo) / 2)) j;rw [qHA hsz,qHA hsz,if_pos (by lia),if_pos (by lia)]
 exact u _ _ (by lia) (by lia) (by lia)
theorem qXQ {st:SortSt} {lo n m:Nat} {Q:gCDn->SortSt->Prop} (h0:qC4 a₀) (g:gSG κ0 a₀ st) (hm:lo+m<=a₀.size) (h1:1<=n) (hnm:n<=m) (u:gFal (arrOf st) lo (lo+n))
  (h:∀ k e st2,gSG κ0 a₀ st2->B32 st2=B32 st->n<=k->k<=m->gFal (arrOf st2) lo (lo+k)->e+1<=k->(∀ i,lo+k - (e+1)<=i->i<lo+k->gK (arrOf st2) i=gK (arrOf st2) (lo+k - 1))->gOut (arrOf st) (arrOf st2) lo (lo+m)->Q (none,k,e) st2) :
  wpS (model prog w) A E s (gdnL lo n m) Q st:=by
 unfold gdnL;refine B43 (I:=fun x c st2=>∃ e,c=(none,x,e)/\gSG κ0 a₀ st2/\B32 st2=B32 st/\gFal (arrOf st2) lo (lo+x)/\e+1<=x/\
   (∀ i,lo+x - (e+1)<=i->i<lo+x->gK (arrOf st2) i=gK (arrOf st2) (lo+x - 1))/\gOut (arrOf st) (arrOf st2) lo (lo+m)) ?step ?fin ⟨0,rfl,g,rfl,u,by lia,fun i h1 h2=>by congr 1;lia,.refl _ _ _⟩
 case fin=>
  rintro c st2 ⟨e,rfl,g2,pe,u2,hq,he,o2⟩;rw [show max n m=m by lia] at u2 hq he ⊢
  exact h m e st2 g2 pe hnm (A6 _) u2 hq he o2
 case step=>
  rintro x c st2 hax hxn ⟨e,rfl,g2,pe,u2,hq,he,o2⟩;dsimp only;have hsz:lo+x<=(arrOf st2).size:=by rw [g2.size];lia
  refine B29 (qH5 h0 g2 (by lia) (by lia) ?_)
  by_cases less:gK (arrOf st2) (lo+x)<gK (arrOf st2) (lo+x - 1)
  ·rw [decide_eq_true less];dsimp only;refine gifT rfl ?_;have more:∀ ys:Array Keyed,(∀ k,gK ys k=gK (arrOf st2) k)->gFal ys lo (lo+(x+1)):=by
    intro ys hk i j hl hij hj;rw [hk,hk];by_cases hjx:j<lo+x
    ·exact u2 i j hl hij hjx
    ·have ej:j=lo+x:=by lia
     rw [ej];by_cases ei:i=lo+x
     ·rw [ei];exact P1 _
     ·have:=u2 i (lo+x - 1) hl (by lia) (by lia)
      lia
   by_cases hpos:e > 0
   ·rw [if_pos hpos,C02];refine B29 (B48 (B31 ⟨0,rfl,g2.lay (mirror_perm _ _ _ _),pe,more _ (qB1 hsz he),by lia,fun i h1 h2=>by congr 1;lia,o2.trans ?_⟩))
    exact fun k _=>qB1 hsz he k
   ·refine gifF hpos ?_;exact B31 ⟨0,rfl,g2,pe,more _ (fun _=>rfl),by lia,fun i h1 h2=>by congr 1;lia,o2⟩
  ·rw [decide_eq_false less];dsimp only;rw [if_neg B4];refine B29 (qH5 h0 g2 (by lia) (by lia) ?_)
   by_cases big:gK (arrOf st2) (lo+x - 1)<gK (arrOf st2) (lo+x)
   ·rw [decide_eq_true big];dsimp only;refine gifT rfl ?_;exact B31 (h x e st2 g2 pe hax (by lia) u2 hq he o2)
   ·rw [decide_eq_false big];dsimp only;rw [if_neg B4];have ex:gK (arrOf st2) (lo+x)=gK (arrOf st2) (lo+x - 1):=by lia
    refine B31 ⟨e+1,rfl,g2,pe,fun i j hl hij hj=>?_,by lia,fun i h1 h2=>?_,o2⟩
    ·by_cases hjx:j<lo+x
     ·exact u2 i j hl hij hjx
     ·have ej:j=lo+x:=by lia
      rw [ej];by_cases ei:i=lo+x
      ·rw [ei];exact P1 _
      ·rw [ex];exact u2 i (lo+x - 1) hl (by lia) (by lia)
    ·rw [show lo+(x+1) - 1=lo+x by lia]
     by_cases ei:i=lo+x
     ·rw [ei]
     ·rw [ex];exact he i (by lia) (by lia)
theorem qR1 {st:SortSt} {lo n m:Nat} {Q:Option Nat->SortSt->Prop} (h0:qC4 a₀) (g:gSG κ0 a₀ st) (hm:lo+m<=a₀.size) (hnm:n+1<=m) (u:gFal (arrOf st) lo (lo+(n+1)))
  (h:∀ k st2,gSG κ0 a₀ st2->B32 st2=B32 st->1<=k->k<=m->gSeg (arrOf st2) lo (lo+k)->gOut (arrOf st) (arrOf st2) lo (lo+m)->Q (some k) st2):wpS (model prog w) A E s (gdnP lo n m) Q st:=by
 unfold gdnP;refine B29 (wpS_lift (B53 ⟨rfl,?_⟩));refine B29 (qXQ h0 g hm (by lia) hnm u fun k e st2 g2 pe hk1 hk2 u2 hq he o2=>?_)
 dsimp only;have hsz:lo+k<=(arrOf st2).size:=by rw [g2.size];lia
 by_cases hpos:e > 0
 ·rw [if_pos hpos,C02];refine B29 (B48 (qNJ h0 (g2.lay (mirror_perm _ _ _ _)) hm (by lia) hk2 ?_ fun k2 st3 g3 pe3 a1 a2 u3 o3=>h k2 st3 g3 (pe3.trans pe) a1 a2 u3 ?_))
  ·intro i j hl hij hj;show gK (mirror (arrOf st2) _ _ _) j<=gK (mirror (arrOf st2) _ _ _) i;rw [qB1 hsz he,qB1 hsz he];exact u2 i j hl hij hj
  ·exact o2.trans (gOut.trans (fun k _=>qB1 hsz he k) o3)
 ·refine gifF hpos ?_;exact qNJ h0 g2 hm (by lia) hk2 u2 fun k2 st3 g3 pe3 a1 a2 u3 o3=>h k2 st3 g3 (pe3.trans pe) a1 a2 u3 (o2.trans o3)
theorem qXR {st:SortSt} {lo m:Nat} {Q:Option Nat->SortSt->Prop} (h0:qC4 a₀) (g:gSG κ0 a₀ st) (hm:lo+m<=a₀.size) (h1:1<=m)
  (h:∀ k st2,gSG κ0 a₀ st2->B32 st2=B32 st->1<=k->k<=m->gSeg (arrOf st2) lo (lo+k)->gOut (arrOf st) (arrOf st2) lo (lo+m)->Q (some k) st2):wpS (model prog w) A E s (countRun' lo m) Q st:=by
 rw [qUT];refine B29 (qR0 h0 g hm (A6 1) h1 (fun i j hl hij hj=>by rw [show i=j by lia];exact P1 _) fun n hn1 hn2 un or=>?_)
 dsimp only;by_cases e:n=m
 ·refine gifT (by simpa using e) ?_
  exact B31 (h n st g rfl hn1 hn2 un (.refl _ _ _))
 ·refine gifF (by simpa using e) ?_
  have hlt:gK (arrOf st) (lo+n)<gK (arrOf st) (lo+n - 1):=or.resolve_left e;by_cases hgt:n > 1
  ·refine gifT hgt ?_;refine B29 (qH5 h0 g (by lia) (by lia) ?_)
   by_cases rose:gK (arrOf st) lo<gK (arrOf st) (lo+n - 1)
   ·rw [decide_eq_true rose];dsimp only;refine gifT rfl ?_;exact B31 (h n st g rfl hn1 hn2 un (.refl _ _ _))
   ·rw [decide_eq_false rose];dsimp only;rw [if_neg B4,C02];have hsz:lo+n<=(arrOf st).size:=by rw [g.size];lia
    have same:∀ k,lo<=k->k<lo+n->gK (arrOf st) k=gK (arrOf st) (lo+n - 1):=by
     intro k hl hk;have a1:=un lo k (by lia) hl hk
     have a2:=un k (lo+n - 1) hl (by lia) (by lia)
     lia
    refine B29 (B48 (qR1 h0 (g.lay (mirror_perm _ _ _ _)) hm (by lia) ?_ fun k st2 g2 pe a1 a2 u2 o2=>h k st2 g2 pe a1 a2 u2 (gOut.trans (fun k _=>qB1 hsz same k) o2)))
    intro i j hl hij hj;show gK (mirror (arrOf st) _ _ _) j<=gK (mirror (arrOf st) _ _ _) i;rw [qB1 hsz same,qB1 hsz same];by_cases hjn:j<lo+n
    ·rw [same i hl (by lia),same j (by lia) hjn]
     exact P1 _
    ·have ej:j=lo+n:=by lia
     rw [ej];by_cases ei:i=lo+n
     ·rw [ei];exact P1 _
     ·rw [same i hl (by lia)]
      exact p9 hlt
  ·refine gifF hgt ?_;have e1:n=1:=by lia
   rw [e1] at hlt;rw [e1];refine qR1 h0 g hm (by lia) ?_ h
   intro i j hl hij hj;by_cases ei:i=j
   ·rw [ei];exact P1 _
   ·have ei:i=lo:=by lia
    have ej:j=lo+1:=by lia
    rw [ei,ej];exact p9 hlt
end
end L2.G
namespace L2.G
open PySem PyProof.Rows
variable [NM]
def qD3 (xs:Array Keyed):List (Nat × Nat × Nat)->Nat->Nat->Prop
 | [],a,b=>a=b
 | r::rs,a,b=>r.1=a/\0<r.2.1/\gSeg xs a (a+r.2.1)/\qD3 xs rs (a+r.2.1) b
theorem qIQ {xs:Array Keyed} :∀ {l:List (Nat × Nat × Nat)} {a b:Nat},qD3 xs l a b->a+l.length<=b
 | [],a,b,h=>by
  have:a=b:=h;simp
  lia
 | r::rs,a,b,h=>by
  have:=qIQ h.2.2.2;have:=h.2.1;simp
  lia
theorem gruns_app {xs:Array Keyed} :∀ {l m:List (Nat × Nat × Nat)} {a b:Nat},qD3 xs (l++m) a b ↔ ∃ c,qD3 xs l a c/\qD3 xs m c b
 | [],m,a,b=>⟨fun h=>⟨a,rfl,h⟩,fun ⟨c,e,h⟩=>by cases (show a=c from e);exact h⟩
 | r::rs,m,a,b=>by
  constructor
  ·rintro ⟨h1,h2,h3,h4⟩;obtain ⟨c,q1,q2⟩:=gruns_app.mp h4;exact ⟨c,⟨h1,h2,h3,q1⟩,q2⟩
  ·rintro ⟨c,⟨h1,h2,h3,q1⟩,q2⟩;exact ⟨h1,h2,h3,gruns_app.mpr ⟨c,q1,q2⟩⟩
theorem qJR {xs ys:Array Keyed} :∀ {l:List (Nat × Nat × Nat)} {a b:Nat},(∀ k,a<=k->k<b->gK ys k=gK xs k)->qD3 xs l a b->qD3 ys l a b
 | [],a,b,_,h=>h
 | r::rs,a,b,e,h=>by
  have le:=qIQ h.2.2.2;refine ⟨h.1,h.2.1,fun i j hl hij hj=>?_,qJR (fun k h1 h2=>e k (by lia) h2) h.2.2.2⟩
  rw [e i hl (by lia),e j (by lia) (by lia)]
  exact h.2.2.1 i j hl hij hj
theorem qUR {α:Type} :∀ {l:List α} {i:Nat},i+1<l.length->∃ pre x y post,l=pre++x::y::post/\pre.length=i
 | [],_,h=>by simp at h
 | [x],_,h=>by simp at h
 | x::y::r,0,_=>⟨[],x,y,r,rfl,rfl⟩
 | x::y::r,i+1,h=>by
  obtain ⟨pre,a,b,post,e,el⟩:=qUR (l:=y::r) (i:=i) (by simp at h ⊢;lia)
  exact ⟨x::pre,a,b,post,by rw [e];rfl,by simp [el]⟩
section
variable {prog:B30} {w:World} {A:Around} {E:Aa1} {s:Shared} {κ0:B61} [LtOk prog w A s κ0] {a₀:Array Keyed}
theorem qHP {st:SortSt} {i b:Nat} {Q:Bool->SortSt->Prop} (h0:qC4 a₀) (g:gSG κ0 a₀ st) (r:qD3 (arrOf st) (B32 st).toList 0 b) (hb:b<=a₀.size) (hi:i+1<(B32 st).size)
  (h:∀ st2,gSG κ0 a₀ st2->qD3 (arrOf st2) (B32 st2).toList 0 b->(B32 st2).size+1=(B32 st).size->(∀ k,b<=k->gK (arrOf st2) k=gK (arrOf st) k)->Q true st2):wpS (model prog w) A E s (mergeAt' i) Q st:=by
 obtain ⟨pre,⟨sa,na,p⟩,⟨sb,nb,q⟩,post,e,el⟩:=qUR (l:=(B32 st).toList) (i:=i) (by simpa using hi)
 rw [e] at r;obtain ⟨c,r1,r2⟩:=gruns_app.mp r;obtain ⟨x1,x2,x3,y1,y2,y3,r4⟩:=r2;dsimp only at x1 x2 x3 y1 y2 y3 r4;subst x1;subst y1;have le:=qIQ r4;refine qXP h0 g e el.symm x2 y2 (by lia) x3 y3 fun st2 g2 pe u o=>h st2 g2 ?_ ?_ fun k hk=>o k (.inr (by lia))
 ·rw [pe];refine gruns_app.mpr ⟨sa,qJR (fun k _ hk=>o k (.inl hk)) r1,rfl,by show 0<na+nb;lia,?_,?_⟩
  ·show gSeg _ sa (sa+(na+nb));rw [<- A54];exact u
  ·show qD3 _ post (sa+(na+nb)) b;rw [<- A54];exact qJR (fun k hk _=>o k (.inr hk)) r4
 ·have l1:=congrArg V5 pe;have l2:=congrArg V5 e;simp at l1 l2
  lia
theorem qNM (f:Nat × Nat × Nat->Nat × Nat × Nat) (y:Nat × Nat × Nat):∀ l:List (Nat × Nat × Nat),(l++[y]).modify l.length f=l++[f y]
 | []=>rfl
 | z::l=>by
  show z::(l++[y]).modify l.length f=z::(l++[f y]);rw [qNM f y l]
theorem qNL {xs:Array Keyed} {p:Array (Nat × Nat × Nat)} {b pw:Nat} {f:Nat × Nat × Nat->Nat × Nat × Nat} (hf:∀ y,(f y).1=y.1/\(f y).2.1=y.2.1) (r:qD3 xs p.toList 0 b):qD3 xs (p.modify (p.size - 1) f).toList 0 b:=by
 rw [Array.toList_modify,<- C6];generalize p.toList=l at r;rcases List.eq_nil_or_concat l with e | ⟨l',y,e⟩
 ·rw [e] at r ⊢;exact r
 ·rw [e] at r ⊢;rw [List.concat_eq_append] at r ⊢;obtain ⟨c,q1,q2⟩:=gruns_app.mp r;rw [B0,B9,A53,qNM];refine gruns_app.mpr ⟨c,q1,?_⟩;obtain ⟨z1,z2,z3,z4⟩:=q2;have h1:=(hf y).1;have h2:=(hf y).2;refine ⟨h1.trans z1,by rw [h2];exact z2,by rw [h2];exact z3,by rw [h2];exact z4⟩
theorem qUQ {st:SortSt} {Q:Unit->SortSt->Prop} (h0:qC4 a₀) (g:gSG κ0 a₀ st) (hp:B32 st=#[]) (h:∀ st2,gSG κ0 a₀ st2->qH9 (arrOf st2) a₀.size->Q () st2):wpS (model prog w) A E s sortRuns' Q st:=by
 rw [sortRuns'_eq];refine B29 (B75 ?_);dsimp only;rw [g.size];refine B29 (B56 (B43
  (I:=fun x c st2=>∃ lo,c=(none,lo)/\x<=lo/\lo<=a₀.size/\gSG κ0 a₀ st2/\qD3 (arrOf st2) (B32 st2).toList 0 lo)
  (Q:=fun c st2=>c.1=none/\gSG κ0 a₀ st2/\qD3 (arrOf st2) (B32 st2).toList 0 a₀.size) ?step ?fin ⟨0,rfl,A6 _,E5 _,g,by rw [hp];rfl⟩) ?post)
 case fin=>
  rintro c st2 ⟨lo,rfl,h1,h2,g2,r2⟩;have e:lo=a₀.size:=by lia
  rw [e] at r2;exact ⟨rfl,g2,r2⟩
 case post=>
  rintro ⟨c,lo⟩ st2 ⟨e,g2,r2⟩;cases (show c=none from e);dsimp only;have le:=qIQ r2;refine B29 (B56 (B43 (I:=fun x c st3=>c=(none,())/\gSG κ0 a₀ st3/\qD3 (arrOf st3) (B32 st3).toList 0 a₀.size/\(B32 st3).size+x<=a₀.size)
   (Q:=fun c st3=>c=(none,())/\gSG κ0 a₀ st3/\qD3 (arrOf st3) (B32 st3).toList 0 a₀.size/\(B32 st3).size<=1) ?_ ?_ ⟨rfl,g2,r2,by simpa using le⟩) ?_)
  ·rintro x c st3 _ _ ⟨rfl,g3,r3,le3⟩;refine B29 (B75 ?_);by_cases c1:(B32 st3).size<=1
   ·rw [if_pos c1];exact B31 ⟨rfl,g3,r3,c1⟩
   ·rw [if_neg c1];refine B29 (qHP h0 g3 r3 (A6 _) ?_ fun st4 g4 r4 l4 _=>?_)
    ·repeat' split
     all_goals lia
    ·rw [if_neg (by simp)]
     exact B31 ⟨rfl,g4,r4,by lia⟩
  ·rintro c st3 ⟨e,g3,r3,le3⟩;exact ⟨e,g3,r3,by lia⟩
  ·rintro c st3 ⟨rfl,g3,r3,le3⟩;refine B31 (h st3 g3 ?_);have l3:(B32 st3).toList.length<=1:=by simpa using le3
   generalize (B32 st3).toList=l at r3 l3
   match l,r3,l3 with
   | [],r3,_=>
    have e:0=a₀.size:=r3;intro i j _ hj
    lia
   | [r],r3,_=>
    have e:0+r.2.1=a₀.size:=r3.2.2.2;intro i j hij hj;exact r3.2.2.1 i j (E5 _) hij (by lia)
   | _::_::_,_,l3=>simp at l3
 case step=>
  rintro x c st2 _ hx ⟨lo,rfl,hxl,hlo,g2,r2⟩;dsimp only;by_cases c1:lo >= a₀.size
  ·rw [if_pos c1];have e:lo=a₀.size:=by lia
   rw [e] at r2;exact B31 ⟨rfl,g2,r2⟩
  rw [if_neg c1];refine B29 (qXR h0 g2 (by lia) (by lia) fun k st3 g3 pe3 k1 k2 u3 o3=>?_)
  have r3:qD3 (arrOf st3) (B32 st3).toList 0 lo:=by
   rw [pe3];exact qJR (fun j _ hj=>o3 j (.inl hj)) r2
  dsimp only;have tail:∀ (st5:SortSt) (n:Nat),gSG κ0 a₀ st5->1<=n->lo+n<=a₀.size->gSeg (arrOf st5) lo (lo+n)->qD3 (arrOf st5) (B32 st5).toList 0 lo->
    gSG κ0 a₀ (setPending st5 ((B32 st5).push (lo,n,0)))/\qD3 (arrOf st5) ((B32 st5).push (lo,n,0)).toList 0 (lo+n):=by
   intro st5 n g5 h1 h2 u5 r5;refine ⟨⟨g5.perm,g5.kind,g5.failed⟩,?_⟩;rw [V3];exact gruns_app.mpr ⟨lo,r5,rfl,h1,u5,rfl⟩
  by_cases c2:k<minRun' a₀.size a₀.size 0
  ·rw [if_pos c2];refine B29 (wpS_lift (B53 ⟨rfl,?_⟩));refine B29 (qXS h0 g3 (by lia) (by lia) u3 fun st4 g4 pe4 u4 o4=>?_)
   have r4:qD3 (arrOf st4) (B32 st4).toList 0 lo:=by
    rw [pe4];exact qJR (fun j _ hj=>o4 j (.inl hj)) r3
   rw [if_neg (by simp)]
   refine B29 (B75 ?_);cases eb:(B32 st4).back? with
   | none=>
    dsimp only;refine B29 (B48 (B31 ?_));obtain ⟨g9,r9⟩:=tail st4 (min (a₀.size - lo) (minRun' a₀.size a₀.size 0)) g4 (by lia) (by lia) u4 r4
    exact ⟨_,rfl,by lia,by lia,g9,r9⟩
   | some t=>
    obtain ⟨s1,n1,q1⟩:=t;dsimp only;refine B29 (B56 (B43 (I:=fun _ c st6=>c=(none,())/\gSG κ0 a₀ st6/\qD3 (arrOf st6) (B32 st6).toList 0 lo/\gSeg (arrOf st6) lo (lo+(min (a₀.size - lo) (minRun' a₀.size a₀.size 0))))
     (Q:=fun c st6=>c=(none,())/\gSG κ0 a₀ st6/\qD3 (arrOf st6) (B32 st6).toList 0 lo/\gSeg (arrOf st6) lo (lo+(min (a₀.size - lo) (minRun' a₀.size a₀.size 0)))) ?_ (fun _ _ q=>q) ⟨rfl,g4,r4,u4⟩) ?_)
    ·rintro x c st6 _ _ ⟨rfl,g6,r6,u6⟩;refine B29 (B75 ?_);by_cases c7:(B32 st6).size > 1
     ·rw [if_pos c7];cases ep:(B32 st6)[(B32 st6).size - 2]? with
      | none=>
       dsimp only;exact B31 ⟨rfl,g6,r6,u6⟩
      | some t=>
       obtain ⟨s2,n2,old⟩:=t;dsimp only
       split
       ·exact B31 ⟨rfl,g6,r6,u6⟩
       ·refine B29 (qHP h0 g6 r6 (by lia) (by lia) fun st7 g7 r7 _ o7=>?_)
        rw [if_neg (by simp)]
        refine B31 ⟨rfl,g7,r7,fun i j hl hij hj=>?_⟩;rw [o7 i hl,o7 j (by lia)]
        exact u6 i j hl hij hj
     ·rw [if_neg c7];exact B31 ⟨rfl,g6,r6,u6⟩
    ·rintro c st6 ⟨rfl,g6,r6,u6⟩;dsimp only;refine B29 (B48 (B29 (B48 (B31 ?_))));obtain ⟨g9,r9⟩:=tail (setPending st6 ((B32 st6).modify ((B32 st6).size - 1) fun x=>(x.fst,x.2.fst,power' a₀.size (2 * s1+n1) (2 * s1+n1+n1+(min (a₀.size - lo) (minRun' a₀.size a₀.size 0))) a₀.size))) (min (a₀.size - lo) (minRun' a₀.size a₀.size 0)) ⟨g6.perm,g6.kind,g6.failed⟩ (by lia) (by lia) u6 (qNL (pw:=0) (fun _=>⟨rfl,rfl⟩) r6)
     exact ⟨_,rfl,by lia,by lia,g9,r9⟩
  ·rw [if_neg c2];refine B29 (B75 ?_);cases eb:(B32 st3).back? with
   | none=>
    dsimp only;refine B29 (B48 (B31 ?_));obtain ⟨g9,r9⟩:=tail st3 k g3 (by lia) (by lia) u3 r3
    exact ⟨_,rfl,by lia,by lia,g9,r9⟩
   | some t=>
    obtain ⟨s1,n1,q1⟩:=t;dsimp only;refine B29 (B56 (B43 (I:=fun _ c st6=>c=(none,())/\gSG κ0 a₀ st6/\qD3 (arrOf st6) (B32 st6).toList 0 lo/\gSeg (arrOf st6) lo (lo+k))
     (Q:=fun c st6=>c=(none,())/\gSG κ0 a₀ st6/\qD3 (arrOf st6) (B32 st6).toList 0 lo/\gSeg (arrOf st6) lo (lo+k)) ?_ (fun _ _ q=>q) ⟨rfl,g3,r3,u3⟩) ?_)
    ·rintro x c st6 _ _ ⟨rfl,g6,r6,u6⟩;refine B29 (B75 ?_);by_cases c7:(B32 st6).size > 1
     ·rw [if_pos c7];cases ep:(B32 st6)[(B32 st6).size - 2]? with
      | none=>
       dsimp only;exact B31 ⟨rfl,g6,r6,u6⟩
      | some t=>
       obtain ⟨s2,n2,old⟩:=t;dsimp only
       split
       ·exact B31 ⟨rfl,g6,r6,u6⟩
       ·refine B29 (qHP h0 g6 r6 (by lia) (by lia) fun st7 g7 r7 _ o7=>?_)
        rw [if_neg (by simp)]
        refine B31 ⟨rfl,g7,r7,fun i j hl hij hj=>?_⟩;rw [o7 i hl,o7 j (by lia)]
        exact u6 i j hl hij hj
     ·rw [if_neg c7];exact B31 ⟨rfl,g6,r6,u6⟩
    ·rintro c st6 ⟨rfl,g6,r6,u6⟩;dsimp only;refine B29 (B48 (B29 (B48 (B31 ?_))));obtain ⟨g9,r9⟩:=tail (setPending st6 ((B32 st6).modify ((B32 st6).size - 1) fun x=>(x.fst,x.2.fst,power' a₀.size (2 * s1+n1) (2 * s1+n1+n1+k) a₀.size))) k ⟨g6.perm,g6.kind,g6.failed⟩ (by lia) (by lia) u6 (qNL (pw:=0) (fun _=>⟨rfl,rfl⟩) r6)
     exact ⟨_,rfl,by lia,by lia,g9,r9⟩
end
end L2.G
namespace L2
open PySem PySem.Spec PyProof.Rows
section
variable {prog:B30} {w:World} {A:Around} {E:Aa1} {s:Shared}
end
section
variable {X:Cx}
theorem qUM:∀ {vs:List Value} {ns:List Int},vs.length=ns.length->(∀ (i:Nat) (v:Value),vs[i]?=some v->∃ n t,ns[i]?=some n/\v=.int n t)->B38 vs ns
 | [],[],_,_=>.nil
 | [],_::_,h,_=>by simp at h
 | _::_,[],h,_=>by simp at h
 | v::vs,n::ns,h,f=>by
  obtain ⟨m,t,e1,e2⟩:=f 0 v rfl;cases (show n=m from D7 e1);rw [e2];exact .cons _ _ (qUM (by simpa using h) fun i u hu=>by simpa using f (i+1) u (by simpa using hu))
theorem qaD {κ:Type} :∀ {Af:List (κ × V)} {vs:List (κ × Value)},KV Af vs->Af.map (·.1)=vs.map (·.1):=by
 intro Af vs r;unfold KV at r
 induction r with
 | nil=>rfl
 | cons h t ih=>rw [D0,D0,ih,h.1]
def Itd (lo:Int) (n:Nat):It:=⟨fun i _=>i<n,fun i H x H'=>H'=H/\x=.int (lo - i),fun i _=>n<=i⟩
theorem qSY {K:Ab1} {tg:Expr} (it:Addr) (lo:Int) (n:Nat):Turn P w K tg (Itd lo n) [it] it (fun i h=>IsRangeIter h it (lo+(i:Nat) * (-1)) ((n:Int) - (i:Nat)) (-1)) where
 mem:=A7.mpr rfl
 obj:=fun i h st b hb=>by
  cases A7.mp hb;exact ⟨_,st,fun v z=>nomatch (show A05 _=u9 v from z)⟩
 keep:=fun i h h' st k=>k it (A7.mpr rfl) _ st
 item:=by
  intro X hP hw hK hc i Ab s σ H E I hf st hg;subst hP hw hK;obtain ⟨f0,f1,f2,f3,f4,f5⟩:=hf it (A7.mpr rfl);refine (Walks.range (prog:=X.prog) (w:=X.w) (I.ok.hd hc) it lo (-1) n).item i s _ _ hg st fun v h' tk hv st' kk=>?_;obtain ⟨t,rfl⟩:=hv;have I1:Inv X Ab σ H { s with heap:=h',toks:=tk }:=I.turned (fun b o hb e=>kk b o (by simpa using hb) e) f0 f1 f3 f4 f5
  refine ⟨_,rfl,qSA (s:={ s with heap:=h',toks:=tk }) (n:="range_iterator") st' rfl rfl (by decide) ⟨.int (lo - i),H,I1,⟨t,?_⟩,⟨rfl,rfl⟩,st',fun b hb=>(hf b hb).1⟩⟩
  rw [show lo+(i:Int) * (-1)=lo - i by lia]
 done:=by
  intro X hP hw hK hc i Ab s σ H E I hf st hg;subst hP hw hK;obtain ⟨f0,f1,f2,f3,f4,f5⟩:=hf it (A7.mpr rfl);have hle:n<=i:=hg;exact wpAny_pyNext_range_end (I.ok.hd hc) st (by lia) fun h' eb=>⟨rfl,I.turned (t':=s.toks) (fun b o hb e=>eb b o hb e) f0 f1 f3 f4 f5⟩
 self:=fun _ _ _ _ _ st h=>wpAny_pyIter_rangeiter st h
def qdV (ta:TA):TI:=fun σ H R=>ta σ H fun vs H1=>∃ i j:Int,vs=[.int i,.int j,.int (-1)]/\(-(2 ^ 62)<=i/\i<2 ^ 62/\-(2 ^ 62)<=j/\j<2 ^ 62)/\R (Itd i (i - j).toNat) H1
theorem qTN {tg a b c:Expr} {ta:TA} {p pos:Pos} (hg:Gl X "range") (hm:X.mg "range" = none) (ha:PA X [a,b,c] ta) (hs:B35 [a,b,c] X.env=[(false,eval a X.env),(false,eval b X.env),(false,eval c X.env)]:=by rfl)
  (hs2:B35 [b,c] X.env=[(false,eval b X.env),(false,eval c X.env)]:=by rfl):PI X tg (.Call (.Name "range" p) [a,b,c] [] pos) (qdV ta):=by
 intro Ab s σ H R I h;refine Call_ (qG4 I hg hm boot_range (G4 (thn (ha pos Ab s σ H _ I h) fun us s1 ⟨vs,H1,I1,r1,q1⟩=>?_) (by rw [hs,hs2]) (by rw [hs2];rfl)))
 obtain ⟨i,j,e,⟨q1,q2,q3,q4⟩,q⟩:=q1;subst e;obtain ⟨u1,rr,rfl,⟨t1,rfl⟩,r2⟩:∃ u rr,us=u::rr/\RelV (.int i) u/\Vals [.int j,.int (-1)] rr:=by cases r1 with | cons r rr=>exact ⟨_,_,rfl,r,rr⟩
 obtain ⟨u2,u3,rfl,⟨t2,rfl⟩,⟨t3,rfl⟩⟩:=qKC r2;refine call_range_3 (by decide) ?_ (E9 (c6 (by lia)))
 refine wpAny_pyIter_range (B22 ..) (PySem.W.small_down q1 q2 q3 q4) ?_;have I2:Inv X Ab σ H1 { s1 with heap:=s1.heap.push { cls:=.type "range",data:=.fields #[.int i t1,.int j t2,.int (-1) t3] },toks:=s1.toks }:=I1.kept fun b o e=>A3 _ e;refine ⟨(s1.heap.push { cls:=.type "range",data:=.fields #[.int i t1,.int j t2,.int (-1) t3] }).objs.size,[(s1.heap.push { cls:=.type "range",data:=.fields #[.int i t1,.int j t2,.int (-1) t3] }).objs.size],_,_,H1,rfl,
  I2.kept (t':=s1.toks) fun b o e=>A3 _ e,qSY _ i (i - j).toNat,?_,fun b hb=>?_,q⟩
 ·have e1:i+((0:Nat):Int) * (-1)=i:=by simp
  have e2:(((i - j).toNat:Nat):Int) - ((0:Nat):Int)=Q1 i j (-1):=by rw [PySem.W.rangeSize_downNat];simp
  show IsRangeIter _ _ (i+((0:Nat):Int) * (-1)) ((((i - j).toNat:Nat):Int) - ((0:Nat):Int)) (-1);rw [e1,e2];exact A8 _ rfl
 ·cases A7.mp hb;exact I2.fpOk (A6 _) (I2.hok.fresh (A6 _))
theorem qR2 {lo:Int} {n:Nat} {g:TG} {tb:TS} {D:Ends} {σ:St} {H:Hp} (Pv:Nat->St->Hp->Prop) (h0:Pv 0 σ H)
  (hs:∀ i σ H,i<n->Pv i σ H->g (.int (lo - i)) σ H fun σ2 H2=>tb { D with nx:=Pv (i+1),ct:=Pv (i+1),bk:=D.nx } σ2 H2) (hd:∀ σ H,Pv n σ H->D.nx σ H) :
  ForG (Itd lo n) g tb D σ H:=by
 refine ⟨fun i m σ H=>m=n - i/\i<=n/\Pv i σ H,⟨n,by simp,E5 _,h0⟩,fun i m σ H ⟨e,hi,p⟩=>?_⟩
 rcases Nat.lt_or_ge i n with hlt | hge
 ·refine .inr ⟨hlt,Pv (i+1),fun σ' H' p'=>⟨n - (i+1),by lia,rfl,hlt,p'⟩,fun x H' y=>?_⟩
  rw [y.1,y.2];exact hs i σ H hlt p
 ·have e2:i=n:=by lia
  rw [e2] at p;exact .inl ⟨hge,hd σ H p⟩
theorem qTW (hu:X.A.units<cLine):OpR X (B46 .NotEq) (fun x y H Q=>∃ p l xs,x=.ref p/\y=.ref l/\SqL X.K H p xs/\SqL X.K H l []/\Q (.bl (!xs.isEmpty)) H):=by
 intro Ab s σ H x y v u Q I rx ry h;obtain ⟨p,l,xs,rfl,rfl,h1,h2,q⟩:=h;cases rx;cases ry;obtain ⟨its,r1,p1,z1⟩:=I.list h1;obtain ⟨its2,r2,p2,z2⟩:=I.list h2;cases r2;cases r1 with
 | nil=>exact B04 (e:=fun _=>true) p1.isList p2.isList rfl hu (fun j h _=>absurd h (by simp)) _ _ _ _ ⟨.bl false,H,I,rfl,q⟩
 | cons a r=>exact A59 p1.isList p2.isList (by simp) hu _ _ _ _ ⟨.bl true,H,I,rfl,q⟩
end
open PySem.AutoSeq1 in
section
variable {X:Cx}
end
def topI (b:Int) (l:List Int):Int:=l.foldl (fun b x=>if x > b then x else b) b
section
variable {prog:B30} {w:World} {A:Around} {R:Result->Shared->Prop} {I:Addr} {fp wr:List Addr} {n:Nat} {P:Nat->Value->Prop} {St:Nat->Heap->Prop}
end
section
variable {prog:B30} {w:World} {A:Around} {E:Aa1} {s:Shared}
theorem qNZ {id:String} {b:Builtin} {args:List Value} {kw:List (Str × Value)} {Q:Aa1} (hk:builtinKind id=none) (hp:plainId id=true) (hb:entryFor table id=some b) (ha:argsOk id ⟨args,kw⟩)
  (hc:wpAny (model prog w) A.in1 (b ⟨args,kw⟩) (fun fin s'=>∃ c',fin=.again c'/\c'.quiet=true/\B64 (model prog w) A c' (fun r s'=>∃ v,r=.ok (.ret v)/\Q v s') s') E s):wpAny (model prog w) A (call (.builtin id) args kw) Q E s:=by
 refine wpAny_call (codeAny_call_builtin hp hb ?_);have h2:=B42 hc (Q':=fun fin s'=>match fin with
   | .done f=>(match (Except.ok f:Result) with | .ok (.ret v)=>Q v s' | .ok _=>False | .error e=>E e s')
   | .again c'=>c'.quiet=true/\B64 (model prog w) A c' (fun r s'=>match r with | .ok (.ret v)=>Q v s' | .ok _=>False | .error e=>E e s') s')
  (fun fin s' ⟨c',e,h1,h2⟩=>by subst e;exact ⟨h1,B73 h2 fun r s' ⟨v,e,q⟩=>by subst e;exact q⟩) fun _ _ h'=>h'
 simp only [checkBuiltinCall,hk];cases sg:Manifest.signature? id with
 | none=>exact B27 h2
 | some sig=>
  have ha':Bind.checkArgs id sig ⟨args,kw⟩=pure ():=by simpa only [argsOk,sg] using ha
  simp only [ha'];exact B27 h2
end
section
variable {X:Cx}
def topD (dv:Option Int):List Int->Option Int
 | []=>dv
 | y::r=>some (topI y r)
end
theorem qHE:entryFor table "dict.update.loop" = some Builtin.«dict.update.loop»:=entryFor_of_tree (by kernel_rfl)
theorem qCS:plainId "dict.update.loop" = true:=by decide +kernel
theorem qP1:typeLookup (.type "list") "keys" = pure none:=by rw [typeLookup_type,C04];kernel_rfl
section
variable {prog:B30} {w:World} {A:Around} {E:Aa1} {s:Shared}
theorem qNE {a:Addr} {o:Obj} {xs:Array Value} {k:Nat} {Q:Option Value->Shared->Prop} (hx:s.heap.get? a=some o) (hc:o.cls=.type "list") (hdat:o.data=.seq xs k) (hd:o.dict=none) (hA:A.handled=none)
  (h:∀ h' tk,(∀ b u,s.heap.get? b=some u->h'.get? b=some u)->Q none { s with heap:=h',toks:=tk }):wpAny (model prog w) A (getAttr? (.ref a) "keys") Q E s:=by
 obtain ⟨c,dct,dat,sl⟩:=o;simp only at hc hdat hd;subst hc hdat hd;obtain ⟨hp,g,dr,tk,os⟩:=s;have hT:∀ tk',(⟨hp,g,dr,tk',os⟩:Shared).TypeIs (.ref a) "list":=fun _=>⟨_,hx,rfl⟩;have f1:=sub_AttributeError;have f3:=a8.lookup;have f4:=a8.bind (.ref a);have f5:=am_list_getattr_none;unfold getAttr? getAttrBy? getAttrBy
 repeat (any_goals (first | assumption | exact hT _ | ((with_reducible show wpAny _ _ (call (Value.builtin "list.__getattribute__") _ _) _ _ _);refine B93 a8 (hT _) am_entry_list_getattribute (F.args_list_getattribute_2 _ _) (meets_getattribute_miss_list a xs k sl "keys" _ qP1 (by decide +kernel) (by decide +kernel)) ⟨hx,hA,fun h' tk' e hx'=>?_⟩) | wp_step))
 obtain ⟨t',u',he⟩:=hx'.there;show wpAny _ _ (getattributeRaised _ _ _ _ _ _ _) _ _ _;unfold getattributeRaised
 repeat (any_goals (first | assumption | wp_step))
 exact h _ _ hx'.of.keeps
end
section
variable {prog:B30} {w:World} {A:Around} {R:Result->Shared->Prop} {I:Addr} {fp wr:List Addr} {n:Nat} {P:Nat->Value->Prop} {St:Nat->Heap->Prop}
theorem qXY (W:Walks prog w A.in1 I fp wr n P St) (h0:Heap) (d:Addr) (hdf:d ∉ fp) (ps:List (Int × Value)) (hn:ps.length=n) (hz:n<=B28)
  (tup:∀ i v,P i v->∃ r k t x,v=.ref r/\r ∉ wr/\r ≠ d/\h0.IsTuple r #[.int k t,x]/\ps[i]?=some (k,x)) :
  ∀ (m i:Nat) (j:Int) (tj:Tok) (s:Shared) (Af:List (Key × Value)),n - i=m->i<=n->St i s.heap->s.heap.DictOf (qB0 prog w) d Af->Af.length<=i->(∀ b o,b ∉ wr->b ≠ d->h0.get? b=some o->s.heap.get? b=some o)->
  (∀ h' tk,h'.DictOf (qB0 prog w) d ((ps.drop i).foldl (fun m q=>stored m (E3 q.1) q.2) Af)->(∀ b o,b ∉ wr->b ≠ d->h0.get? b=some o->h'.get? b=some o)->R (.ok (.ret .none)) { s with heap:=h',toks:=tk })->
  B64 (model prog w) A (.builtin "dict.update.loop" ⟨[.ref d,.ref I,.int j tj,.none],[]⟩) R s:=by
 have hdw:d ∉ wr:=fun h=>hdf (W.sub _ h);intro m
 induction m with
 | zero=>
  intro i j tj s Af hm hi st hd hl hk hR;have e:i=n:=by lia
  refine B44 qHE ?_;rw [F1 qCS _];show wpAny _ A.in1 (pyNext (.ref I) >>= _) _ _ s;refine B26 (W.done s _ _ (e ▸ st) fun h' tk hk'=>?_);show wpAny _ A.in1 (z9 d [] >>= fun _=>ret L0) _ _ _;rw [d8 (by lia)] at hR
  exact B26 (B27 (B27 (hR h' tk (hd.at fun o eo=>hk' d o hdw eo) fun b o hb hbd eb=>hk' b o hb (hk b o hb hbd eb))))
 | succ m ih=>
  intro i j tj s Af hm hi st hd hl hk hR;have hlt:i<n:=by lia
  refine B44 qHE ?_;rw [F1 qCS _];show wpAny _ A.in1 (pyNext (.ref I) >>= _) _ _ s;refine B26 (W.item i s _ _ hlt st fun v h' tk hP st' hk'=>?_);obtain ⟨r,k,t,x,rfl,hrw,hrd,ht,ep⟩:=tup i v hP;have ed:ps.drop i=(k,x)::ps.drop (i+1):=by
   obtain ⟨hi',e⟩:=A4.mp ep;rw [O6 hi',e]
  rw [ed] at hR;have ht2:h'.IsTuple r #[.int k t,x]:=by
   obtain ⟨o,e1,e2,e3⟩:=ht;exact ⟨o,hk' r o hrw (hk r o hrw hrd e1),e2,e3⟩
  obtain ⟨o,ho,hoc,no,hod⟩:=ht2;have hd2:h'.DictOf (qB0 prog w) d Af:=hd.at fun o eo=>hk' d o hdw eo;refine B26 (B34 (B26 ?_));show wpAny _ A.in1 (tryCatch (W4 (.ref r)) _) _ _ _;refine B58 ?_;unfold W4;refine B26 (B62 (T:="tuple") ⟨o,ho,hoc⟩ ?_);rw [if_pos (by decide)]
  refine B26 (B47 ho hod (B27 ?_));show wpAny _ A.in1 (B71 [Q6 k t,x] (dictSet d (.int k t) x)) _ _ _;refine B34 (wpAny_dictSet_pairs (hsz:=by lia) (k:=E3 k) (by rw [qS0];exact qNG k t) hd2 fun h2 hd3 sb=>?_)
  have len3:(stored Af (E3 k) x).length<=i+1:=by
   unfold stored
   split
   ·rw [A0];lia
   ·rw [B0,B9];lia
  refine B27 ⟨B50 qCS _,ih (i+1) _ _ _ (stored Af (E3 k) x) (by lia) hlt (W.frame _ _ _ st' fun b hb o eb=>?_) hd3 len3 (fun b o hb hbd eb=>?_) fun h3 tk3 hd4 hk4=>hR h3 tk3 hd4 hk4⟩
  ·rw [sb.2 b (fun z:b=d=>hdf (z ▸ hb))];exact eb
  ·rw [sb.2 b hbd];exact hk' b o hb (hk b o hb hbd eb)
end
section
variable {prog:B30} {w:World} {A:Around} {E:Aa1} {s:Shared}
theorem qO2 {l:Addr} {o:Obj} {its:Array Value} {nl:Nat} {ps:List (Int × Value)} {Q:Aa1} (hA:A.handled=none) (hl:s.heap.get? l=some o) (hc:o.cls=.type "list") (hdat:o.data=.seq its nl) (hdn:o.dict=none) (hn:ps.length=its.size) (hz:its.size<=B28)
  (tup:∀ (i:Nat) v,its[i]?=some v->∃ r k t x,v=.ref r/\s.heap.IsTuple r #[.int k t,x]/\ps[i]?=some (k,x))
  (h:∀ h' tk,h'.DictOf (qB0 prog w) s.heap.objs.size (ps.foldl (fun m q=>stored m (E3 q.1) q.2) [])->(∀ b u,s.heap.get? b=some u->h'.get? b=some u)->Q (.ref s.heap.objs.size) { s with heap:=h',toks:=tk }) :
  wpAny (model prog w) A (call (.type "dict") [.ref l]) Q E s:=by
 refine callType_codes (Q₁:=fun obj s₁=>obj=.ref s.heap.objs.size/\s₁={ s with heap:=s.heap.push { cls:=.type "dict",data:=.dict #[] } }) A79 (A31 _) A67 (kt_code_dict_new _ ⟨rfl,rfl⟩) ?_;rintro obj s₁ ⟨rfl,rfl⟩;have nw:(s.heap.push { cls:=.type "dict",data:=.dict #[] }).DictOf (qB0 prog w) s.heap.objs.size []:=A90 s.heap;have hl':(s.heap.push { cls:=.type "dict",data:=.dict #[] }).get? l=some o:=A3 _ hl;have hll:l<s.heap.objs.size:=A9 hl;refine ⟨nw.typeIs,A56 _ _,?_⟩;unfold Builtin.«dict.__init__»;refine B26 ?_;unfold A00;refine B26 (C05 nw.typeIs ?_);show wpAny _ _ (pure (s.heap.objs.size,[C7 l])) _ _ _;refine B27 ?_;show wpAny _ _ (V8 "dict.__init__" s.heap.objs.size (.ref l) [] .none) _ _ _;unfold V8;refine B26 (B62 (T:="list") ⟨o,hl',hc⟩ ?_);rw [if_pos (by decide)]
 refine B26 (qNE hl' hc hdat hdn hA fun h1 tk1 k1=>?_);rw [if_pos (show (none:Option Value).isNone=true from rfl)];have hl1:h1.IsList l its:=⟨o,k1 _ _ hl',hc,nl,hdat⟩;have hlt1:l<h1.objs.size:=A9 (k1 _ _ hl');have hdl:s.heap.objs.size<h1.objs.size:=by
  obtain ⟨_,_,_,e,_⟩:=nw;exact A9 (k1 _ _ e)
 refine B26 (B53 (B26 (B51 hl1 ?_)));refine B27 ⟨B50 qCS _,?_⟩;refine qXY (n:=its.size) (A23 (A:=A.in1.in1) hA _ l (C2 hlt1) its) h1 s.heap.objs.size ?_ ps hn hz (fun i v hv=>?_) its.size 0 _ _ _ [] rfl (E5 _) ⟨⟨_,A8 _ rfl,rfl,rfl⟩,hl1.push _⟩ ((nw.keep k1).push _) (A6 _) (fun b u hb hbd eb=>A3 _ eb) fun h' tk hd' hk'=>?_
 ·simp only [C1,O2,or_false,not_or];exact ⟨C2 hdl,R9 hll⟩
 ·obtain ⟨r,k,t,x,e1,e2,e3⟩:=tup i v hv;obtain ⟨or,hr,hr2,hr3⟩:=e2;have hrs:=A9 hr;refine ⟨r,k,t,x,e1,?_,C2 hrs,⟨or,k1 _ _ (A3 _ hr),hr2,hr3⟩,e3⟩;simp only [C1,O2,or_false];exact C2 (T1 hrs hdl)
 ·refine ⟨rfl,h h' tk hd' fun b u eb=>?_⟩;have hbs:=A9 eb;refine hk' b u ?_ (C2 hbs) (k1 _ _ (A3 _ eb));simp only [C1,O2,or_false];exact C2 (T1 hbs hdl)
end
theorem qGX {α β:Type} {F:α->β->Prop} :∀ {l₁:List α} {l₂:List β} {i:Nat} {a:α},Paired F l₁ l₂->l₁[i]?=some a->∃ b,l₂[i]?=some b/\F a b
 | _,_,_,_,.nil,e=>by simp at e
 | _,_,0,_,.cons r _,e=>by simp at e;subst e;exact ⟨_,rfl,r⟩
 | _,_,i+1,a,.cons _ t,e=>by
  obtain ⟨b,h1,h2⟩:=qGX (i:=i) (a:=a) t (by simpa using e)
  exact ⟨b,by simpa using h1,h2⟩
theorem qJA {h:Heap} {p:Addr} {its:Array Value} (x:PlainL h p its):∃ o,h.get? p=some o/\o.cls=.type "list"/\o.dict=none/\∃ n,o.data=.seq its n:=by
 obtain ⟨o,n,h2,h3,h4,h5⟩:=x;exact ⟨o,h2,h3,h4,n,h5⟩
section
variable {X:Cx}
def qQM (H:Hp) (K:Ab1) (rs:List Addr) (ps:List (Int × V)):Prop:=Paired (fun r (q:Int × V)=>SqT K H r [.int q.1,q.2]) rs ps
def qCR (Af:List (Key × V)) (ps:List (Int × V)):List (Key × V):=ps.foldl (fun m q=>putK m (E3 q.1) q.2) Af
theorem qKS:∀ (ps:List (Int × V)) (Af:List (Key × V)),(qCR Af ps).length<=Af.length+ps.length
 | [],Af=>by simp [qCR]
 | q::ps,Af=>by
  have:=qKS ps (putK Af (E3 q.1) q.2);have:=qC5 Af (E3 q.1) q.2;show (qCR (putK Af (E3 q.1) q.2) ps).length<=Af.length+(q::ps).length;rw [E2]
  lia
theorem qTD {Ab:Aa2} {σ:St} {H:Hp} (I:Inv X Ab σ H s):∀ {rs:List Addr} {ps:List (Int × V)},qQM H X.K rs ps->
  ∃ qs:List (Int × Value),Paired (fun r (q:Int × Value)=>∃ t,s.heap.IsTuple r #[.int q.1 t,q.2]) rs qs/\Paired (fun (p:Int × V) (q:Int × Value)=>p.1=q.1/\RelV p.2 q.2) ps qs:=by
 intro rs ps h;unfold qQM at h
 induction h with
 | nil=>exact ⟨[],.nil,.nil⟩
 | @cons r q rs ps h t ih=>
  obtain ⟨qs,h1,h2⟩:=ih;obtain ⟨its,rv,pl,hz⟩:=I.tuple h;obtain ⟨u1,u2,rfl,⟨tk,rfl⟩,r2⟩:=qKC rv;exact ⟨(q.1,u2)::qs,.cons ⟨tk,pl⟩ h1,.cons ⟨rfl,r2⟩ h2⟩
theorem qZW:∀ {ps:List (Int × V)} {qs:List (Int × Value)} {Af:List (Key × V)} {vs:List (Key × Value)},Paired (fun (p:Int × V) (q:Int × Value)=>p.1=q.1/\RelV p.2 q.2) ps qs->KV Af vs->KV (qCR Af ps) (qs.foldl (fun m q=>stored m (E3 q.1) q.2) vs):=by
 intro ps qs Af vs h
 induction h generalizing Af vs with
 | nil=>exact fun r=>r
 | cons h t ih=>
  intro r;refine ih ?_;dsimp only;rw [<- h.1];exact r.put _ h.2
theorem qSL (hc:X.calm=true):qCL X (.type "dict") (fun xs H Q=>∃ (p:Addr) (rs:List Addr) (ps:List (Int × V)),xs=[.ref p]/\SqL X.K H p (rs.map V.ref)/\qQM H X.K rs ps/\∀ d,H d=none->Q (.ref d) (Ag H d (.dK (qCR [] ps)))):=by
 intro Ab s σ H xs us Q I r h;obtain ⟨p,rs,ps,rfl,hq,hp,q⟩:=h;obtain ⟨u,rfl,rx⟩:=qDS r;cases rx;obtain ⟨its,rv,pl,hz⟩:=I.list hq;obtain ⟨qs,h1,h2⟩:=qTD I hp;have l0:=rv.length;rw [A0] at l0;have l1:rs.length=qs.length:=B7 h1;have l2:ps.length=qs.length:=B7 h2;obtain ⟨o,ho,hoc,hod,n,hdat⟩:=qJA pl;rw [A0] at hz;refine qO2 (ps:=qs) (I.ok.hd hc) ho hoc hdat hod (by simp;lia) (by simp;lia) (fun i v hv=>?_) fun h' tk hd' hk=>?_
 ·have hv':its[i]?=some v:=by simpa using hv
  have hi:i<rs.length:=by rw [l0];exact (A4.mp hv').1
  obtain ⟨u,hu,ru⟩:=rv.get (i:=i) (x:=.ref rs[i]) (by rw [B6,A5 hi];rfl)
  rw [hv'] at hu;cases hu;cases ru;obtain ⟨b,hb,t,ht⟩:=qGX h1 (A5 hi);exact ⟨rs[i],b.1,t,b.2,rfl,ht,hb⟩
 ·have z:(qCR [] ps).length<=B28:=by
   have:=qKS ps [];simp at this
   lia
  refine ⟨.ref s.heap.objs.size,_,I.laid (a:=s.heap.objs.size) (o:=.dK (qCR [] ps)) (t':=tk) hk (A6 _) (qVB z (beq_eq_false_iff_ne.mpr (F2 (C2 I.big))) (qZW h2 .nil) hd'),rfl,q _ (I.hok.fresh (A6 _))⟩
def qdG (K:Ab1):R2:=fun x y H Q=>∃ a b xs ys,x=.ref a/\y=.ref b/\SqT K H a xs/\SqT K H b ys/\ys ≠ []/\xs.length+ys.length<=B28/\(xs=[]->Q (.ref b) H)/\(xs ≠ []->∀ p,H p=none->Q (.ref p) (Ag H p (.tup (xs++ys))))
theorem qTZ:OpR X (B55 .Add) (qdG X.K):=by
 intro Ab s σ H x y v u Q I rx ry h;obtain ⟨a,b,xs,ys,rfl,rfl,ha,hb,hy,hz,q1,q2⟩:=h;by_cases hx:xs=[]
 ·subst hx;cases rx;cases ry;obtain ⟨its,r1,p1,_⟩:=I.tuple ha;obtain ⟨its2,r2,p2,_⟩:=I.tuple hb;cases r1;obtain ⟨⟨cls,dd,data,sl⟩,ho,hc,n,hd⟩:=id p1;obtain ⟨⟨cls2,dd2,data2,sl2⟩,ho2,hc2,n2,hd2⟩:=id p2;simp only at hc hd hc2 hd2;subst hc hd hc2 hd2;exact concat_meets ⟨_,ho,rfl⟩ ⟨_,ho2,rfl⟩ noFill_tuple_add seq_tuple_add d0 b8 (Z7 _ _) (tuple_addW0 a b #[] its2.toArray n n2 dd dd2 sl sl2 rfl) ⟨ho,ho2,.ref b,H,I,rfl,q1 rfl⟩
 ·exact qa3 Ab s σ H (.ref a) (.ref b) v u Q I rx ry ⟨a,b,xs,ys,rfl,rfl,ha,hb,hx,hz,fun z=>absurd z hy,fun _=>q2 hx⟩
end
open PySem
def g5:Nat->Nat
 | 0=>0
 | n+1=>5 * g5 n+1
structure TabG (byText:Bool) (t:B77) (n:Nat):Prop where
 pow:∃ k,3<=k/\t.mask+1=2 ^ k
 dum:t.dummies=#[]
 plain:t.plain=true
 led:t.led=!byText
 size:t.place.size=n
 up:t.place.toList.Pairwise (·<·)
 le:∀ j ∈ t.place.toList,j<=t.mask
section
variable {byText:Bool} {t:B77} {n:Nat}
end
section
variable {mask:Nat} {owner:Array (Option Nat)}
end
structure Own (N:Nat) (L:List Nat) (owner:Array (Option Nat)):Prop where
 size:owner.size=N
 nd:L.Nodup
 lt:∀ j ∈ L,j<N
 at_:∀ (m j:Nat),L[m]?=some j->owner[j]?=some (some m)
 no:∀ j,j<N->j ∉ L->owner[j]?=some none
section
variable {prog:B30} {w:World} {A:Around} {E:Aa1} {s:Shared}
end
section
variable {prog:B30} {w:World} {A:Around} {R:Result->Shared->Prop} {I:Addr} {fp wr:List Addr} {G:Array B88->Array B88->Prop} {n:Nat} {P:Nat->Value->Prop} {St:Nat->Shared->Prop}
end
section
variable {prog:B30} {w:World} {A:Around} {E:Aa1} {s:Shared}
end
section
variable {prog:B30} {w:World} {A:Around} {E:Aa1} {s:Shared} {a I:Addr} {es:Array (Int × Value)} {ep:Nat} {t:B77} {i:Nat}
end
section
variable {X:Cx}
end
section
variable {prog:B30} {w:World} {A:Around} {E:Aa1} {s:Shared}
end
section
variable {X:Cx}
end
structure Ex (B:Heap) (l:List Env) (e:Addr) (cls:Value) (dd:Option Addr) (nt:Bool) (h:Heap):Prop where
 stays:B.StaysIn h
 new:B.get? e=none
 frames:h.FunFrames B l
 rec_:∃ (oe:Obj) (vs:Array Value) (x1:Value),h.get? e=some oe/\oe.cls=cls/\oe.dict=dd/\oe.data=.fields vs/\vs[1]?=some x1/\
  ((x1=.none/\nt=false)\/∃ (T:Addr) (oT:Obj) (ts:Array Value) (x3:Value),x1=.ref T/\B.get? T=none/\T ≠ e/\h.get? T=some oT/\oT.data=.fields ts/\ts[3]?=some x3)
section
variable {M:Model} {A:Around} {E:Aa1} {s:Shared} {B:Heap} {env:Env} {outer l:List Env} {L e:Addr} {cls:Value} {dd:Option Addr} {nt:Bool} {Q:Unit->Shared->Prop}
end
def Kp (outer:List Env) (H':Hp) (h0:Heap) (b:Addr):Prop:=(∃ o,H' b=some o)\/((∃ o,h0.get? b=some o)/\b ∉ frs outer)
structure XD (P:B30) (w:World) (outer l:List Env) (H:Hp) (h0:Heap) (e:Addr) (cls:Value) (dd:Option Addr) (H':Hp) (B:Heap) (nt:Bool) (h:Heap):Prop where
 un:Un (frs outer) [] H H' h0 h
 hok:HOk P w H' h
 ex:Ex B l e cls dd nt h
 kp:∀ b o,h.get? b=some o->Kp outer H' h0 b->B.get? b=some o
 ne:H' e=none
 ge:h0.objs.size<=e
def XP (X:Cx) (G:XK) (ev:Value) (s':Shared):Prop:=X.A.frames=some X.stack/\∃ (e:Addr) (cls:Value) (dd:Option Addr) (H':Hp) (B:Heap) (nt:Bool),ev=.ref e/\s'.os=X.s₀.os/\AllBare s'.gens/\XD X.prog X.w X.outer X.stack X.H₀ X.s₀.heap e cls dd H' B nt s'.heap/\G cls dd H'
section
variable {X:Cx} {E:XK} {G:XK} {Ab:Aa2} {σ:St} {H:Hp} {s s':Shared}
end
section
variable {P:B30} {w:World} {K:Ab1} {mg:Ab0} {base:Heap}
end
section
variable {X:Cx} {Ab:Aa2} {σ:St} {H:Hp} {s:Shared} {ev:Value}
end
section
variable {X:Cx}
end
def bmV:List Value:=[.type "ValueError",.type "Exception",.type "BaseException",.type "object"]
def xcIn (K:Ab1) (C:Addr) (init:Option Value):Bool:=match K.lookup C with
 | some ⟨.type "type",_,.cls cd,sl⟩=>(match cd.mro,sl.toList with
  | .ref C'::bm,[_,_,_,_,some (.builtin n),_]=>C' == C && n == "ValueError.__new__" && !cd.hasDel && cd.hasDict && PySem.W.tailIn K bmV bm && PySem.W.nsOkIn K cd.ns && r8 K cd.ns "__init__" == some init
  | _,_=>false)
 | _=>false
structure XCls (K:Ab1) (C:Addr) (init:Option Value):Prop where
 cls:xcIn K C init=true
 set:O5 K (.ref C) "__setattr__" = some (some (.builtin "object.__setattr__"))
 kp:N9 K (.ref C)=true
section
variable {prog:B30} {w:World} {A:Around} {E:Aa1} {h:Heap} {g:Array B88} {d:Drawn} {t:Nat} {os:OsState} {K:Ab1} {C x:Addr} {init:Option Value} {mA:Ab0} {name:Str} {v:Value} {ns:List Str}
end
section
variable {prog:B30} {w:World} {A:Around} {R:Result->Shared->Prop} {h:Heap} {g:Array B88} {d:Drawn} {t:Nat} {os:OsState} {K:Ab1} {C fI:Addr} {rest:List Value}
end
section
variable {M:Model} {A:Around} {E:Aa1} {env:Env} {K:Ab1} {C:Addr} {init:Option Value}
end
section
variable {X:Cx} {Ab:Aa2} {σ:St} {H:Hp} {s:Shared}
end
section
variable {X:Cx}
end
structure XGet (K:Ab1) (C:Addr):Prop where
 ga:O5 K (.ref C) "__getattribute__" = some (some (.builtin "BaseException.__getattribute__"))
 gt:O5 K (.ref C) "__getattr__" = some none
 be:A48 K C (.type "BaseException")=some true
 hd:A62 K C=true
section
variable {prog:B30} {w:World} {A:Around} {E:Aa1} {s:Shared} {K:Ab1} {x C:Addr} {ox:Obj} {od:Option Obj} {name:Str} {tk:Tok}
end
structure XTy (K:Ab1) (C:Addr):Prop extends XGet K C where
 ca:O5 K (.ref C) "__class__" = some (some (.builtin "object.__class__"))
 cn:w5 K (.builtin "object.__class__") "__get__" = some (some (.builtin "getset_descriptor.__get__"))
 ct:A88 K (.builtin "object.__class__")=some true
 cm:A48 K C (.type "object")=some true
section
variable {K:Ab1}
end
section
variable {X:Cx}
end
structure RoomH (k:Nat) (A:Around):Prop where
 dp:A.depth+3 * k+5<recursionLimit
 un:A.units+16 * k+200<cLine
structure FnOkH (P:B30) (w:World) (K:Ab1) (mg:Ab0) (base:Heap) (CX:CXT) (k:Nat) (f:Addr) (fd:B49) (ps:List Str) (sp:Sp):Prop where
 len:∀ vs H Q E,sp vs H Q E->vs.length=ps.length
 run:∀ (A:Around) (outer:List Env) (s:Shared) (H:Hp) (args:Args) (us:List Value) (vs:List V) (Q:VK) (E:XK),RoomH k A->Env0 P w K mg base A outer s H->BindsTo s fd args (ps.zip us)->Vals vs us->sp vs H Q E->
  B64 (model P w) A (.call (.ref f) args) (CR CX outer P w H s Q E) s
section
variable {P:B30} {w:World} {K:Ab1} {mg:Ab0} {base:Heap}
end
section
variable {X:Cx} {CX:CXT} {k:Nat} {f C:Addr} {fd:B49} {ps:List Str} {sp:Sp} {dvs:List V} {ds:List Value} {E:XK} {x m:Str} {p pos apos:Pos} {e o:Expr} {es:List Expr} {ta:TE} {t:TA}
end
section
variable {X:Cx}
end
section
variable {prog:B30} {w:World} {A:Around} {E:Aa1} {s:Shared}
end
section
variable {X:Cx}
theorem qMJ (hc:X.calm=true):qCL X (.builtin "sum") (fun xs H Q=>∃ (p:Addr) (ns:List Int),xs=[.ref p]/\SqL X.K H p (ns.map V.int)/\Q (.int ns.sum) H):=by
 intro Ab s σ H xs us Q I r h;obtain ⟨p,ns,rfl,hq,q⟩:=h;obtain ⟨u,rfl,rx⟩:=qDS r;cases rx;obtain ⟨its,rv,pl,hz⟩:=I.list hq;have hi:=qD9 rv;obtain ⟨xs,hx⟩:=hi.allInts.items;have hl':s.heap.IsList p (intItems xs):=hx ▸ pl.isList;refine sum_intListG (I.ok.hd hc) hl' fun h' tk t' hk=>?_;have e1:ns=xs.toList.map (·.1):=by
  rw [<- nums_intItems,<- hx];exact (show numsOf its.toArray.toList=ns from hi.numsOf).symm
 have e2:preSum (numAt xs) xs.size=ns.sum:=by
  rw [preSum_eq,C4 (by simp),e1]
 rw [e2];exact ⟨.int ns.sum,H,I.kept fun b o e=>hk b o e,⟨_,rfl⟩,q⟩
end
structure LcScopeO (X:Cx) (scope:Scope) (own:List Str) (fv:List Nat):Prop where
 kind:scope.kind=.function
 names:∀ y ∈ scope.names,y.2=.local->scope.names.lookup y.1=some .local
 cells:∀ y ∈ scope.names,y.2=.cell->scope.names.lookup y.1=some .cell
 frees:∀ y ∈ scope.names,y.2=.free->scope.names.lookup y.1=some .free
 free:∀ y ∈ scope.names,y.2=.free->X.env.kindOf y.1=some .cell\/X.env.kindOf y.1=some .free
 nd:(own++fv.map fun i=>X.N.getD i P2).Nodup
 fvs:∀ i ∈ fv,i<X.N.length/\scope.names.lookup (X.N.getD i P2)=some .free
 owns:∀ x ∈ own,scope.names.lookup x=some .local\/scope.names.lookup x=some .cell
section
variable {X:Cx} {Ab:Aa2} {σ:St} {H:Hp} {s:Shared}
end
section
variable {X:Cx} {tg iter elt:Expr} {ifs:List Expr} {scope:Scope} {pos:Pos} {own:List Str} {fv:List Nat} {wi:TI} {g:TG} {tc:TT} {te:TE}
end
abbrev tpK (prog:B30) (w:World):=B87 (qB0 prog w)
theorem qOD {h h':Heap} {k:List Key} {b:Addr} (x:(tpK prog w).is h k b) (e:∀ o,h.get? b=some o->h'.get? b=some o):(tpK prog w).is h' k b:=by
 obtain ⟨o,its,n,h1,h2⟩:=x;exact ⟨o,its,n,e _ h1,h2⟩
theorem qaS {h h':Heap} {d:Addr} {xs:List (List Key × Addr × Value)} (x:h.DictOfH (tpK prog w) d xs) (e:∀ o,h.get? d=some o->h'.get? d=some o) (ek:∀ x ∈ xs,∀ o,h.get? x.2.1=some o->h'.get? x.2.1=some o):h'.DictOfH (tpK prog w) d xs:=by
 obtain ⟨o,es,ep,h1,h2,h3,h4,h5,h6⟩:=x;exact ⟨o,es,ep,e _ h1,h2,h3,h4,fun x hx=>qOD (h5 x hx) (ek x hx),h6⟩
theorem qMV {xs:List (List Key × Addr × Value)} {k:List Key} {b:Addr} {v:Value} {F:Addr->Prop} (hx:∀ x ∈ xs,F x.2.1) (hb:F b):∀ x ∈ B94 xs k b v,F x.2.1:=by
 intro x hm;unfold B94 at hm
 split at hm
 ·obtain ⟨y,hy,rfl⟩:=D5.mp hm;unfold putAt
  split
  ·exact hx y hy
  ·exact hx y hy
 ·rcases B3.mp hm with h | h
  ·exact hx x h
  ·simp only [A7] at h;subst h;exact hb
section
variable {prog:B30} {w:World} {A:Around} {R:Result->Shared->Prop} {I:Addr} {fp wr:List Addr} {n:Nat} {P:Nat->Value->Prop} {St:Nat->Heap->Prop}
theorem qVC (hu:A.units+1<cLine) (W:Walks prog w A.in1 I fp wr n P St) (h0:Heap) (d:Addr) (hdf:d ∉ fp) (ps:List (List Key × Addr × Value)) (hn:ps.length=n) (hz:n<=B28)
  (tup:∀ i v,P i v->∃ r k b x,v=.ref r/\r ∉ wr/\r ≠ d/\b ∉ wr/\b ≠ d/\h0.IsTuple r #[.ref b,x]/\(tpK prog w).is h0 k b/\ps[i]?=some (k,b,x)) :
  ∀ (m i:Nat) (j:Int) (tj:Tok) (s:Shared) (Af:List (List Key × Addr × Value)),n - i=m->i<=n->St i s.heap->s.heap.DictOfH (tpK prog w) d Af->Af.length<=i->(∀ x ∈ Af,x.2.1 ∉ wr)->(∀ b o,b ∉ wr->b ≠ d->h0.get? b=some o->s.heap.get? b=some o)->
  (∀ h' tk,h'.DictOfH (tpK prog w) d ((ps.drop i).foldl (fun m q=>B94 m q.1 q.2.1 q.2.2) Af)->(∀ b o,b ∉ wr->b ≠ d->h0.get? b=some o->h'.get? b=some o)->R (.ok (.ret .none)) { s with heap:=h',toks:=tk })->
  B64 (model prog w) A (.builtin "dict.update.loop" ⟨[.ref d,.ref I,.int j tj,.none],[]⟩) R s:=by
 have hdw:d ∉ wr:=fun h=>hdf (W.sub _ h);intro m
 induction m with
 | zero=>
  intro i j tj s Af hm hi st hd hl hkk hk hR;have e:i=n:=by lia
  refine B44 qHE ?_;rw [F1 qCS _];show wpAny _ A.in1 (pyNext (.ref I) >>= _) _ _ s;refine B26 (W.done s _ _ (e ▸ st) fun h' tk hk'=>?_);show wpAny _ A.in1 (z9 d [] >>= fun _=>ret L0) _ _ _;rw [d8 (by lia)] at hR
  exact B26 (B27 (B27 (hR h' tk (qaS hd (fun o eo=>hk' d o hdw eo) fun x hx o eo=>hk' _ o (hkk x hx) eo) fun b o hb hbd eb=>hk' b o hb (hk b o hb hbd eb))))
 | succ m ih=>
  intro i j tj s Af hm hi st hd hl hkk hk hR;have hlt:i<n:=by lia
  refine B44 qHE ?_;rw [F1 qCS _];show wpAny _ A.in1 (pyNext (.ref I) >>= _) _ _ s;refine B26 (W.item i s _ _ hlt st fun v h' tk hP st' hk'=>?_);obtain ⟨r,k,b,x,rfl,hrw,hrd,hbw,hbd,ht,hkb,ep⟩:=tup i v hP;have ed:ps.drop i=(k,b,x)::ps.drop (i+1):=by
   obtain ⟨hi',e⟩:=A4.mp ep;rw [O6 hi',e]
  rw [ed] at hR;have ht2:h'.IsTuple r #[.ref b,x]:=by
   obtain ⟨o,e1,e2,e3⟩:=ht;exact ⟨o,hk' r o hrw (hk r o hrw hrd e1),e2,e3⟩
  have hkb2:(tpK prog w).is h' k b:=qOD hkb fun o eo=>hk' b o hbw (hk b o hbw hbd eo);obtain ⟨o,ho,hoc,no,hod⟩:=ht2;have hd2:h'.DictOfH (tpK prog w) d Af:=qaS hd (fun o eo=>hk' d o hdw eo) fun x hx o eo=>hk' _ o (hkk x hx) eo;refine B26 (B34 (B26 ?_));show wpAny _ A.in1 (tryCatch (W4 (.ref r)) _) _ _ _;refine B58 ?_;unfold W4;refine B26 (B62 (T:="tuple") ⟨o,ho,hoc⟩ ?_);rw [if_pos (by decide)]
  refine B26 (B47 ho hod (B27 ?_));show wpAny _ A.in1 (B71 [C7 b,x] (dictSet d (.ref b) x)) _ _ _;refine B34 (wpAny_dictSet_heap (hsz:=by lia) (B76 hu) hkb2 hd2 fun h2 hd3 sb=>?_)
  have len3:(B94 Af k b x).length<=i+1:=by
   unfold B94
   split
   ·rw [A0];lia
   ·rw [B0,B9];lia
  refine B27 ⟨B50 qCS _,ih (i+1) _ _ _ (B94 Af k b x) (by lia) hlt (W.frame _ _ _ st' fun b hb o eb=>?_) hd3 len3 (qMV (F:=fun c=>c ∉ wr) hkk hbw) (fun b o hb hbd eb=>?_) fun h3 tk3 hd4 hk4=>hR h3 tk3 hd4 hk4⟩
  ·rw [sb.2 b (fun z:b=d=>hdf (z ▸ hb))];exact eb
  ·rw [sb.2 b hbd];exact hk' b o hb (hk b o hb hbd eb)
end
section
variable {prog:B30} {w:World} {A:Around} {E:Aa1} {s:Shared}
theorem qML {l:Addr} {o:Obj} {its:Array Value} {nl:Nat} {ps:List (List Key × Addr × Value)} {Q:Aa1} (hu:A.units+64<cLine) (hA:A.handled=none) (hl:s.heap.get? l=some o) (hc:o.cls=.type "list") (hdat:o.data=.seq its nl) (hdn:o.dict=none) (hn:ps.length=its.size) (hz:its.size<=B28)
  (tup:∀ (i:Nat) v,its[i]?=some v->∃ r k b x,v=.ref r/\s.heap.IsTuple r #[.ref b,x]/\(tpK prog w).is s.heap k b/\ps[i]?=some (k,b,x))
  (h:∀ h' tk,h'.DictOfH (tpK prog w) s.heap.objs.size (ps.foldl (fun m q=>B94 m q.1 q.2.1 q.2.2) [])->(∀ b u,s.heap.get? b=some u->h'.get? b=some u)->Q (.ref s.heap.objs.size) { s with heap:=h',toks:=tk }) :
  wpAny (model prog w) A (call (.type "dict") [.ref l]) Q E s:=by
 refine callType_codes (Q₁:=fun obj s₁=>obj=.ref s.heap.objs.size/\s₁={ s with heap:=s.heap.push { cls:=.type "dict",data:=.dict #[] } }) A79 (A31 _) A67 (kt_code_dict_new _ ⟨rfl,rfl⟩) ?_;rintro obj s₁ ⟨rfl,rfl⟩;have nw:(s.heap.push { cls:=.type "dict",data:=.dict #[] }).DictOfH (tpK prog w) s.heap.objs.size []:=Heap.DictOfH.new s.heap;have hl':(s.heap.push { cls:=.type "dict",data:=.dict #[] }).get? l=some o:=A3 _ hl;have hll:l<s.heap.objs.size:=A9 hl;refine ⟨nw.typeIs,A56 _ _,?_⟩;unfold Builtin.«dict.__init__»;refine B26 ?_;unfold A00;refine B26 (C05 nw.typeIs ?_);show wpAny _ _ (pure (s.heap.objs.size,[C7 l])) _ _ _;refine B27 ?_;show wpAny _ _ (V8 "dict.__init__" s.heap.objs.size (.ref l) [] .none) _ _ _;unfold V8;refine B26 (B62 (T:="list") ⟨o,hl',hc⟩ ?_);rw [if_pos (by decide)]
 refine B26 (qNE hl' hc hdat hdn hA fun h1 tk1 k1=>?_);rw [if_pos (show (none:Option Value).isNone=true from rfl)];have hl1:h1.IsList l its:=⟨o,k1 _ _ hl',hc,nl,hdat⟩;have hlt1:l<h1.objs.size:=A9 (k1 _ _ hl');have hdl:s.heap.objs.size<h1.objs.size:=by
  obtain ⟨_,_,_,e,_⟩:=nw;exact A9 (k1 _ _ e)
 refine B26 (B53 (B26 (B51 hl1 ?_)));refine B27 ⟨B50 qCS _,?_⟩;refine qVC (n:=its.size) ?hu (A23 (A:=A.in1.in1) hA _ l (C2 hlt1) its) h1 s.heap.objs.size ?_ ps hn hz (fun i v hv=>?_) its.size 0 _ _ _ [] rfl (E5 _) ⟨⟨_,A8 _ rfl,rfl,rfl⟩,hl1.push _⟩ (qaS nw (fun o eo=>A3 _ (k1 _ _ eo)) fun x hx=>nomatch hx) (A6 _) (fun x hx=>nomatch hx) (fun b u hb hbd eb=>A3 _ eb) fun h' tk hd' hk'=>?_
 case hu=>
  show A.units+1+1<cLine
  lia
 ·simp only [C1,O2,or_false,not_or];exact ⟨C2 hdl,R9 hll⟩
 ·obtain ⟨r,k,b,x,e1,e2,e3,e4⟩:=tup i v hv;obtain ⟨or,hr,hr2,hr3⟩:=e2;have hrs:=A9 hr;have hbs:b<s.heap.objs.size:=by
   obtain ⟨_,_,_,z,_⟩:=e3;exact A9 z
  refine ⟨r,k,b,x,e1,?_,C2 hrs,?_,C2 hbs,⟨or,k1 _ _ (A3 _ hr),hr2,hr3⟩,qOD e3 fun o eo=>k1 _ _ (A3 _ eo),e4⟩
  ·simp only [C1,O2,or_false];exact C2 (T1 hrs hdl)
  ·simp only [C1,O2,or_false];exact C2 (T1 hbs hdl)
 ·refine ⟨rfl,h h' tk hd' fun b u eb=>?_⟩;have hbs:=A9 eb;refine hk' b u ?_ (C2 hbs) (k1 _ _ (A3 _ eb));simp only [C1,O2,or_false];exact C2 (T1 hbs hdl)
end
section
variable {X:Cx}
def qQL (H:Hp) (K:Ab1) (rs:List Addr) (ps:List (List Key × Addr × V)):Prop:=Paired (fun r (q:List Key × Addr × V)=>SqT K H r [.ref q.2.1,q.2.2]/\H q.2.1=some (.tup (q.1.map kV))) rs ps
def qBW (Af:List (List Key × V)) (ps:List (List Key × Addr × V)):List (List Key × V):=ps.foldl (fun m q=>putK m q.1 q.2.2) Af
theorem qJ6:∀ (ps:List (List Key × Addr × V)) (Af:List (List Key × V)),(qBW Af ps).length<=Af.length+ps.length
 | [],Af=>by simp [qBW]
 | q::ps,Af=>by
  have:=qJ6 ps (putK Af q.1 q.2.2);have:=qC5 Af q.1 q.2.2;show (qBW (putK Af q.1 q.2.2) ps).length<=Af.length+(q::ps).length;rw [E2]
  lia
theorem qRQ {Ab:Aa2} {σ:St} {H:Hp} (I:Inv X Ab σ H s):∀ {rs:List Addr} {ps:List (List Key × Addr × V)},qQL H X.K rs ps->
  ∃ qs:List (List Key × Addr × Value),Paired (fun r (q:List Key × Addr × Value)=>s.heap.IsTuple r #[.ref q.2.1,q.2.2]) rs qs/\Paired (fun (p:List Key × Addr × V) (q:List Key × Addr × Value)=>p.1=q.1/\p.2.1=q.2.1/\H p.2.1=some (.tup (p.1.map kV))/\RelV p.2.2 q.2.2) ps qs:=by
 intro rs ps h;unfold qQL at h
 induction h with
 | nil=>exact ⟨[],.nil,.nil⟩
 | @cons r q rs ps h t ih=>
  obtain ⟨qs,h1,h2⟩:=ih;obtain ⟨its,rv,pl,hz⟩:=I.tuple h.1;obtain ⟨u1,u2,rfl,r1,r2⟩:=qKC rv;cases r1;exact ⟨(q.1,q.2.1,u2)::qs,.cons pl h1,.cons ⟨rfl,rfl,h.2,r2⟩ h2⟩
theorem qWT {H:Hp} :∀ {ps:List (List Key × Addr × V)} {qs:List (List Key × Addr × Value)} {Af:List (List Key × V)} {vs:List (List Key × Addr × Value)},Paired (fun (p:List Key × Addr × V) (q:List Key × Addr × Value)=>p.1=q.1/\p.2.1=q.2.1/\H p.2.1=some (.tup (p.1.map kV))/\RelV p.2.2 q.2.2) ps qs->KT H Af vs->KT H (qBW Af ps) (qs.foldl (fun m q=>B94 m q.1 q.2.1 q.2.2) vs):=by
 intro ps qs Af vs h
 induction h generalizing Af vs with
 | nil=>exact fun r=>r
 | cons h t ih=>
  intro r;refine ih ?_;dsimp only;rw [<- h.1,<- h.2.1];exact r.put _ h.2.2.1 h.2.2.2
theorem qSK (hc:X.calm=true) (hu:X.A.units+64<cLine):qCL X (.type "dict") (fun xs H Q=>∃ (p:Addr) (rs:List Addr) (ps:List (List Key × Addr × V)),xs=[.ref p]/\SqL X.K H p (rs.map V.ref)/\qQL H X.K rs ps/\∀ d,H d=none->Q (.ref d) (Ag H d (.dT (qBW [] ps)))):=by
 intro Ab s σ H xs us Q I r h;obtain ⟨p,rs,ps,rfl,hq,hp,q⟩:=h;obtain ⟨u,rfl,rx⟩:=qDS r;cases rx;obtain ⟨its,rv,pl,hz⟩:=I.list hq;obtain ⟨qs,h1,h2⟩:=qRQ I hp;have l0:=rv.length;rw [A0] at l0;have l1:rs.length=qs.length:=B7 h1;have l2:ps.length=qs.length:=B7 h2;obtain ⟨o,ho,hoc,hod,n,hdat⟩:=qJA pl;rw [A0] at hz;refine qML (ps:=qs) hu (I.ok.hd hc) ho hoc hdat hod (by simp;lia) (by simp;lia) (fun i v hv=>?_) fun h' tk hd' hk=>?_
 ·have hv':its[i]?=some v:=by simpa using hv
  have hi:i<rs.length:=by rw [l0];exact (A4.mp hv').1
  obtain ⟨u,hu,ru⟩:=rv.get (i:=i) (x:=.ref rs[i]) (by rw [B6,A5 hi];rfl)
  rw [hv'] at hu;cases hu;cases ru;obtain ⟨b,hb,ht⟩:=qGX h1 (A5 hi);obtain ⟨b',hb',e1,e2,e3,e4⟩:=qGX h2 (i:=i) (a:=ps[i]'(by lia)) (A5 _)
  rw [hb] at hb';cases hb';rw [e1,e2] at e3;exact ⟨rs[i],b.1,b.2.1,b.2.2,rfl,ht,qJL I.hok e3,hb⟩
 ·have z:(qBW [] ps).length<=B28:=by
   have:=qJ6 ps [];simp at this
   lia
  have hn:H s.heap.objs.size=none:=I.hok.fresh (A6 _);obtain ⟨o,es,ep,d1,d2,d3,d4,_,d5⟩:=hd';refine ⟨.ref s.heap.objs.size,_,I.laid (a:=s.heap.objs.size) (o:=.dT (qBW [] ps)) (t':=tk) hk (A6 _) ⟨z,beq_eq_false_iff_ne.mpr (F2 (C2 I.big)),_,(qWT h2 .nil).keeps fun c ys ec=>?_,o,es,ep,d1,d2,d3,d4,d5⟩,rfl,q _ hn⟩
  first
   | exact ec
   | (rw [qA9 (qA6 ec hn)];exact ec)
end
theorem qZ7:B33 "any" = some (.builtin "any"):=by decide +kernel
theorem qVS:B33 "sum" = some (.builtin "sum"):=by decide +kernel
theorem qRR (bs:List Bool):((G2 bs.length).any fun i=>(bs[i]?).getD false)=bs.any id:=by
 rw [J4,k7,k7]
 constructor
 ·rintro ⟨i,hi,h⟩;have hi':=F5.mp hi;rw [A5 hi'] at h;exact ⟨_,k6 hi',h⟩
 ·rintro ⟨b,hb,h⟩;obtain ⟨i,hi,e⟩:=J7 hb;exact ⟨i,F5.mpr hi,by rw [A5 hi,e];exact h⟩
section
variable {X:Cx}
theorem qRA (hc:X.calm=true):qCL X (.builtin "any") (fun xs H Q=>∃ (p:Addr) (bs:List Bool),xs=[.ref p]/\SqL X.K H p (bs.map V.bl)/\Q (.bl (bs.any id)) H):=by
 intro Ab s σ H xs us Q I r h;obtain ⟨p,bs,rfl,hq,q⟩:=h;obtain ⟨u,rfl,rx⟩:=qDS r;cases rx;obtain ⟨its,rv,pl,hz⟩:=I.list hq;have hl:=pl.isList;have hlt:p<s.heap.objs.size:=by obtain ⟨_,e,_⟩:=hl;exact A9 e
 have hlen:=rv.length;rw [A0] at hlen;refine call_any_walk (B51 hl ?_);refine ⟨s.heap.objs.size,[s.heap.objs.size,p],[s.heap.objs.size],its.toArray.size,_,_,fun i=>(bs[i]?).getD false,rfl,A23 (A:=X.A.in1) (I.ok.hd hc) _ p (C2 hlt) its.toArray,
  ⟨⟨_,A8 _ rfl,rfl,rfl⟩,hl.push _⟩,fun i v s' Q' E' hP hQ=>?_,fun h' tk hk=>?_⟩
 ·have hP':its[i]?=some v:=by simpa using hP
  have hi:i<bs.length:=by rw [hlen];exact (A4.mp hP').1
  obtain ⟨u,hu,ru⟩:=rv.get (i:=i) (x:=.bl bs[i]) (by rw [B6,A5 hi];rfl)
  rw [hP'] at hu;cases hu;cases ru;dsimp only at hQ;rw [A5 hi,Z0] at hQ;exact B41 hQ
 ·have e:((G2 its.toArray.size).any fun i=>(bs[i]?).getD false)=bs.any id:=by
   rw [C0,<- hlen];exact qRR bs
  refine ⟨.bl (bs.any id),H,I.kept fun b x e=>hk b x (fun hm=>by rw [A7.mp hm] at e;exact Q0 _ (A9 e)) (A3 _ e),?_,q⟩
  rw [e]
  rfl
end
section
variable {prog:B30} {w:World} {A:Around} {E:Aa1} {s:Shared}
end
section
variable {X:Cx}
def BareT (H:Hp) (a:Addr) (xs:List V):Prop:=∃ o:Obj,H a=some (.frz o (.tup xs))/\o.cls=.type "tuple"/\o.dict=none
theorem BareT.sq {K:Ab1} {H:Hp} {a:Addr} {xs:List V} (h:BareT H a xs):SqT K H a xs:=by
 obtain ⟨o,h,_⟩:=h;exact .inl (.inr ⟨o,h⟩)
theorem BareT.same {H H':Hp} {a:Addr} {xs:List V} (h:BareT H a xs) (s:∀ b o,H b=some o->H' b=some o):BareT H' a xs:=by
 obtain ⟨o,h1,h2⟩:=h;exact ⟨o,s _ _ h1,h2⟩
theorem qPK:qCL X (.type "tuple") (fun xs H Q=>∃ p ys,xs=[.ref p]/\SqL X.K H p ys/\∀ l o,H l=none->o.cls=.type "tuple"->o.dict=none->Q (.ref l) (Ag H l (.frz o (.tup ys)))):=by
 intro Ab s σ H xs us Q I r h;obtain ⟨p,ys,rfl,hq,q⟩:=h;obtain ⟨u,rfl,rx⟩:=qDS r;cases rx;obtain ⟨its,r',pl,hz⟩:=I.list hq;have hlen:=r'.length;refine call_tuple_list pl.isList (fun h' kp=>?_) (by simp only [C0] <;> lia)
 have I1:Inv X Ab σ H { s with heap:=h' }:=I.kept (t':=s.toks) kp;have I2:Inv X Ab σ (Ag H h'.objs.size (.frz { cls:=.type "tuple",data:=.seq its.toArray } (.tup ys))) { s with heap:=h'.push { cls:=.type "tuple",data:=.seq its.toArray } }:=
  I1.laid (t':=s.toks) (fun b o e=>A3 _ e) (A6 _) ⟨A8 _ rfl,show ObjOk X.prog X.w _ _ _ (.tup ys) from ⟨hz,its,r',IsTup.new _ _⟩⟩
 exact ⟨.ref h'.objs.size,_,I2,rfl,q _ _ (I1.hok.fresh (A6 _)) rfl rfl⟩
theorem qNC:OpR X (B46 .IsNot) (fun x y H Q=>∃ a b:Bool,x=.bl a/\y=.bl b/\Q (.bl (a != b)) H):=by
 intro Ab s σ H x y v u Q I rx ry h;obtain ⟨a,b,rfl,rfl,q⟩:=h;cases rx;cases ry;exact wpAny_isNot_plain (by cases a <;> cases b <;> rfl) ⟨.bl (a != b),H,I,by cases a <;> cases b <;> rfl,q⟩
theorem qO1 (hc:X.calm=true):qCL X (.builtin "sorted") (fun xs H Q=>∃ p ns Af,xs=[.ref p]/\H p=some (.dK Af)/\Af.map (·.1)=ns.map E3/\ns.length<64/\
  ∀ (a:Addr) (zs:List Int),H a=none->zs.Perm ns->zs.Pairwise (·<=·)->Q (.ref a) (Ag H a (.lst (zs.map V.int)))):=by
 intro Ab s σ H xs us Q I r h;obtain ⟨p,ns,Af,rfl,hq,hk,h64,q⟩:=h;obtain ⟨u,rfl,rx⟩:=qDS r;cases rx;refine Y4 kind_sorted plain_sorted entry_sorted (args_sorted1 _) ?_;unfold Builtin.«sorted»;refine B26 (m:=checkCount "sorted" 1 1 _) (B27 ?_);have fin:∀ (s1:Shared) (vs:List Value),Inv X Ab σ H s1->B38 vs ns->wpAny (model X.prog X.w) X.A.in1 (do
   let l <- newList vs
   let _ <- B71 [l] (call (.builtin "list.sort") [l] [])
   ret l) (fun fin s'=>∃ r,fin=.done (.ret r)/\EP X Ab σ Q r s') X.xe s1:=by
  intro s1 vs I1 hv;have hlen:=IntsAre.length hv;have hz:ns.length<=B28:=by rw [B39];lia
  refine B26 (wpAny_newList ?_ (by rw [hlen];exact hz))
  have hf:=I1.hok.fresh (A6 s1.heap.objs.size);refine B26 (B34 (B42 (qQ7 (E:=X.xe) (vs:=vs) (qKY I1 hv hz) hf h64 fun ns' a b=>q _ ns' hf a b) (fun _ s' x=>?_) fun _ _ e=>e));exact B27 ⟨_,rfl,x⟩
 obtain ⟨hz,hd,vs,rel,dd⟩:=qaP I.hok hq;obtain ⟨ep,da⟩:=dd.dictAt;have lv:vs.length=Af.length:=rel.length.symm;have ln:ns.length=Af.length:=by
  have:=congrArg V5 hk;simpa using this.symm
 refine B26 (n0 (A:=X.A.in1) (PySem.W.kdl_dict (ep:=ep) hd) (I.ok.hd hc) da (by rw [lv];exact hz) fun h' tk acc kept items=>?_)
 refine fin _ _ (I.kept (t':=tk) kept) ?_;obtain ⟨l1,l2⟩:=items;refine qUM (by rw [C6,l1,lv,ln]) fun i v hv=>?_
 obtain ⟨k,x,e1,e2⟩:=l2 i v (by rw [<- E4];exact hv)
 have ek:(Af.map (·.1))[i]?=some k:=by rw [qaD rel,B6,e1];rfl
 rw [hk,B6] at ek;cases en:ns[i]? with
 | none=>rw [en] at ek;cases ek
 | some n=>
  rw [en] at ek;cases ek;obtain ⟨t,e3⟩:=A60 (k:=n) (v:=v) e2;exact ⟨n,t,rfl,e3⟩
end
end L2
namespace HT
open PySem PySem.Spec PyProof.Rows
section
variable {prog:B30} {w:World} {A:Around} {E:Aa1} {s:Shared}
theorem getItem_tuple_whole {t sl:Addr} {items:Array Value} {vl vu:Value} {lo hi:Option Int} {Q:Aa1} (ht:IsTup s.heap t items) (hs:s.heap.IsSliceOf sl vl vu .none) (pl:IsPart vl lo) (pu:IsPart vu hi)
  (hw:sIx items.size 0 lo=0/\sIx items.size items.size hi=items.size) (h:Q (.ref t) s):wpAny (model prog w) A (B92 (.ref t) (.ref sl)) Q E s:=by
 obtain ⟨os,hos,hcs,hds⟩:=id hs;have hTs:s.TypeIs (.ref sl) "slice":=⟨os,hos,hcs⟩;unfold B92
 try with_reducible refine B34 ?_
 first | refine B26 (B27 ?_) | skip
 refine B26 (wpAny_sequenceKey ht.typeIs (by decide) ?_)
 refine B26 (wpAny_callSpecial?_slot (name:=D4 "__getitem__") ht.typeIs G5
  (B37 G5 ht.typeIs entry_tuple_getitem ?_ (args_tuple_getitem _ _)))
 show wpAny _ _ (X9 (.ref t) >>= _) _ _ s;refine B26 (tupleItemsOf_ ht ?_);refine B26 (B62 hTs ?_);rw [if_pos (by decide)]
 refine B26 (qEO hs pl pu ?_);have hyes:(((sIx items.size 0 lo:Nat):Int) == 0 && (1:Int) == 1 && (sIx items.size items.size hi - sIx items.size 0 lo) == items.size)=true:=by
  rw [hw.1,hw.2];simp
 show wpAny _ _ (if (((sIx items.size 0 lo:Nat):Int) == 0 && (1:Int) == 1 && (sIx items.size items.size hi - sIx items.size 0 lo) == items.size)=true then _ else _) _ _ s
 rw [if_pos hyes];unfold Builtin.Tuple.tupleIsExact;refine B26 (B26 (B62 ht.typeIs (B27 ?_)));rw [if_pos (by decide)]
 exact B26 (B53 (B27 ⟨_,rfl,B27 h⟩))
end
end HT
namespace L2
open PySem PySem.Spec PyProof.Rows
section
variable {X:Cx}
end
section
variable {A:Around} {s:Shared}
end
section
variable {X:Cx}
end
section
variable {X:Cx} {e:Expr} {te:TE} {st:Option Expr} {tst:TO} {pos p2:Pos}
end
section
variable {X:Cx}
end
section
variable {prog:B30} {w:World} {A:Around} {E:Aa1} {s:Shared}
end
section
variable {X:Cx}
theorem qIW:∀ (as:List Addr),Vals (as.map V.ref) (as.map C7)
 | []=>.nil
 | _::as=>.cons rfl (qIW as)
end
section
variable {prog:B30} {w:World} {A:Around} {R:Result->Shared->Prop} {h:Heap} {g:Array B88} {d:Drawn} {t:Nat} {os:OsState} {K:Ab1} {C fI:Addr} {rest:List Value}
end
section
variable {X:Cx}
def TB:Type:=(St->XK)->TS
end
section
variable {prog:B30} {w:World} {A:Around} {E:Aa1} {s:Shared}
end
section
variable {X:Cx} {pos:Pos}
end
section
variable {X:Cx} {tg:Expr}
def tFrz (t:TE):TE:=fun σ H Q=>t σ H fun v H1=>∃ d Af,v=.ref d/\H1 d=some (.dK Af)/\∀ o,Q v (Ag H1 d (.frz o (.dK Af)))
theorem Inv.freeze {Ab:Aa2} {σ:St} {H:Hp} {d:Addr} {Af:List (Key × V)} (I:Inv X Ab σ H s) (h:H d=some (.dK Af)):∃ o,Inv X Ab σ (Ag H d (.frz o (.dK Af))) s:=by
 have ok:=I.hok d _ h;obtain ⟨hz,hd,vs,rel,o,es,ep,ho,r⟩:=id ok;refine ⟨o,?_⟩;have:=I.write (h':=s.heap) (t':=s.toks) (x:=d) (e:=d) (o:=.frz o (.dK Af)) (by rw [h];trivial) (.inl rfl) (fun b u _ q=>q) ⟨o,ho⟩ ⟨ho,ok⟩
 exact this
theorem qbY {e:Expr} {t:TE} (he:PE X e t):PE X e (tFrz t):=by
 intro Ab s σ H Q I h;refine thn (he Ab s σ H _ I h) fun v s1 ⟨x,H1,I1,r1,d,Af,e,hd,q⟩=>?_;obtain ⟨o,I2⟩:=I1.freeze hd;exact ⟨x,_,I2,r1,q o⟩
def Itk (a:Addr) (o:Obj) (Af:List (Key × V)):It:=
 ⟨fun i H=>i<Af.length/\H a=some (.frz o (.dK Af)),fun i H x H'=>H'=H/\∃ k v,Af[i]?=some (k,v)/\x=kV k,fun i H=>Af.length<=i/\H a=some (.frz o (.dK Af))⟩
theorem qWQ {k:Key} {v:Value} (h:qNH k v=true):RelV (kV k) v:=by
 rcases qBH h with ⟨i,t,rfl,rfl⟩ | ⟨x,t,rfl,rfl⟩
 ·exact ⟨t,rfl⟩
 ·exact ⟨t,rfl⟩
theorem Inv.heldD {Ab:Aa2} {σ:St} {H:Hp} {d:Addr} {o:Obj} {Af:List (Key × V)} (I:Inv X Ab σ H s) (h:H d=some (.frz o (.dK Af))):s.heap.get? d=some o/\(d == B52)=false/\∃ vs ep,KV Af vs/\s.heap.DictAt (qB0 X.prog X.w) d vs ep/\(∃ es,o.data=.dict es ep):=by
 obtain ⟨ho,hz,hd,vs,rel,dd⟩:=(show ObjOk X.prog X.w H s.heap d (.frz o (.dK Af)) from I.hok d _ h);obtain ⟨ep,da⟩:=dd.dictAt;obtain ⟨o',es,ho',hc,hdat,r⟩:=id da;rw [ho] at ho';cases ho';exact ⟨ho,hd,vs,ep,rel,da,es,hdat⟩
theorem qRL {K:Ab1} {tg:Expr} (a it:Addr) (o:Obj) (Af:List (Key × V)) (ep:Nat) (es:_) (ho:o.data=.dict es ep):Turn P w K tg (Itk a o Af) [it] it (fun i h=>h.IsKeyIter it a i Af.length ep) where
 mem:=by simp
 obj:=fun i h st b hb=>by
  have e:b=it:=by simpa using hb
  subst e;obtain ⟨o,e,c,d⟩:=st;exact ⟨o,e,fun v z=>by rw [d] at z;cases z⟩
 keep:=fun i h h' st k=>st.at fun o e=>k it (by simp) o e
 item:=by
  intro X hP hw hK hc i Ab s σ H E I hf st hg;subst hP hw hK;obtain ⟨hi,hq⟩:=hg;obtain ⟨e1,e2,vs,ep',rel,da,es',e3⟩:=I.heldD hq;rw [ho] at e3;cases e3;obtain ⟨f0,f1,f2,f3,f4,f5⟩:=hf it (by simp)
  have lv:vs.length=Af.length:=rel.length.symm;rw [<- lv] at st;obtain ⟨⟨k,x⟩,hx⟩:∃ p,vs[i]?=some p:=⟨vs[i]'(by lia),A5 (by lia)⟩
  obtain ⟨⟨k',v'⟩,hx'⟩:∃ p,Af[i]?=some p:=⟨Af[i],A5 hi⟩;have ek:k'=k:=by
   have h1:(Af.map (·.1))[i]?=some k':=by rw [B6,hx'];rfl
   have h2:(vs.map (·.1))[i]?=some k:=by rw [B6,hx];rfl
   rw [rel.keys,h2] at h1;cases h1
   rfl
  refine wpAny_pyNext_dict_item st da hx fun key h' hkey hit' hs'=>?_;have I1:Inv X Ab σ H { s with heap:=h' }:=I.turned (t':=s.toks) (fun b o hb e=>(hs'.2 b hb).trans e) f0 f1 f3 f4 f5;rw [lv] at hit';obtain ⟨oi,ei,c,d⟩:=id hit';exact ⟨key,rfl,qSA (s:={ s with heap:=h' }) ei c d (by decide) ⟨kV k,H,I1,qWQ hkey,⟨rfl,k',v',hx',by rw [ek]⟩,hit',fun b hb=>(hf b hb).1⟩⟩
 done:=by
  intro X hP hw hK hc i Ab s σ H E I hf st hg;subst hP hw hK;obtain ⟨hi,hq⟩:=hg;obtain ⟨e1,e2,vs,ep',rel,da,es',e3⟩:=I.heldD hq;rw [ho] at e3;cases e3;obtain ⟨f0,f1,f2,f3,f4,f5⟩:=hf it (by simp)
  have lv:vs.length=Af.length:=rel.length.symm;rw [<- lv] at st;exact wpAny_pyNext_dict_end (I.ok.hd hc) st da (by simp;lia) fun h' eb=>⟨rfl,I.turned (t':=s.toks) (fun b o hb e=>eb b o hb e) f0 f1 f3 f4 f5⟩
 self:=fun _ _ _ _ _ st h=>C11 st h
def qcK (tl:TE):TI:=fun σ H R=>tl σ H fun x H1=>∃ a o Af,x=.ref a/\H1 a=some (.frz o (.dK Af))/\R (Itk a o Af) H1
theorem qX0 {l:Expr} {tl:TE} (hl:PE X l tl):PI X tg l (qcK tl):=by
 intro Ab s σ H R I h;refine thn (hl Ab s σ H _ I h) fun v s1 ⟨x,H1,I1,r1,q1⟩=>?_;obtain ⟨a,o,Af,e,hq,q⟩:=q1;subst e;cases r1;obtain ⟨e1,e2,vs,ep,rel,da,es,e3⟩:=I1.heldD hq;have lv:vs.length=Af.length:=rel.length.symm;refine wpAny_pyIter_dict e2 da ?_;refine ⟨s1.heap.objs.size,[s1.heap.objs.size],_,_,H1,rfl,I1.kept (t':=s1.toks) fun b o e=>A3 _ e,qRL a _ o Af ep es e3,⟨_,A8 _ rfl,rfl,by rw [lv];rfl⟩,fun b hb=>?_,q⟩
 have e:b=s1.heap.objs.size:=by simpa using hb
 subst e;exact I1.fpOk (A6 _) (I1.hok.fresh (A6 _))
end
theorem qXE {a:Addr} {o:Obj} {Af:List (Key × V)} {g:TG} {tc:TT} {te:TE} {Kf:Hp->Prop} {σ0:St} {H0:Hp} {p:Addr} (Pv:Nat->St->Hp->Prop) (h0:Pv 0 σ0 H0) (hl:∀ i σ H,i<=Af.length->Pv i σ H->H a=some (.frz o (.dK Af)))
  (hs:∀ i k v σ H,Af[i]?=some (k,v)->Pv i σ H->g (kV k) σ H fun σ2 H2=>tc σ2 H2 fun b H3=>if b=true then te σ2 H3 fun y H4=>∃ ys,H4 p=some (.lst ys)/\ys.length<B28/\Pv (i+1) σ2 (Ag H4 p (.lst (ys++[y]))) else Pv (i+1) σ2 H3)
  (hd:∀ σ H,Pv Af.length σ H->Kf H) :
  LcG (Itk a o Af) g tc te Kf σ0 H0 p:=by
 refine ⟨fun i m σ H=>m=Af.length - i/\i<=Af.length/\Pv i σ H,⟨Af.length,by simp,E5 _,h0⟩,?_⟩
 rintro i m σ H ⟨rfl,hi,q⟩;have hq:=hl i σ H hi q;by_cases hlt:i<Af.length
 ·refine .inr ⟨⟨hlt,hq⟩,Pv (i+1),fun σ' H' p'=>⟨Af.length - (i+1),by lia,rfl,hlt,p'⟩,fun x H' y=>?_⟩
  obtain ⟨e,k,v,e2,e3⟩:=y;subst e e3;exact hs i k v σ _ e2 q
 ·have e:i=Af.length:=by lia
  subst e;exact .inl ⟨⟨A6 _,hq⟩,hd σ H q⟩
theorem qVO {X:Cx} {K:Ab1} (hK:X.K=K) (hc:X.calm=true):qCL X (.builtin "sum") (fun xs H Q=>∃ (p:Addr) (ns:List Int),xs=[.ref p]/\SqL K H p (ns.map V.int)/\Q (.int ns.sum) H):=by subst hK;exact qMJ hc
section
variable {prog:B30} {w:World} {A:Around} {E:Aa1} {s:Shared} {it d:Addr} {i n ep:Nat} {od:Obj} {es:Array DictEntry}
theorem qNV {Q:Aa1} (hT:s.TypeIs (.ref d) "dict") (hd:(d == B52)=false) (ho:s.heap.get? d=some od) (he:od.data=.dict es ep)
  (hQ:Q (.ref s.heap.objs.size) { s with heap:=s.heap.push { cls:=.type "dict_keyiterator",data:=.fields #[.ref d,rawInt 0,rawInt es.size,rawInt ep] } }):wpAny (model prog w) A (pyIter (.ref d)) Q E s:=by
 apply wpAny_pyIter_slot hT A80;refine B37 A80 hT F.entry_dict_iter ?go (F.args_dict_iter_1 (.ref d));unfold Builtin.«dict.__iter__»;apply B26;unfold Builtin.Dict.dictSlotNone;apply B26;apply C05 hT;apply B27;apply B26;apply B27;apply B26;unfold Builtin.Dict.showsAll;rw [hd];apply B27;apply B26;apply wpAny_dictEntries ho he;apply B26;apply wpAny_dictEpoch ho he;apply B26;refine B36 ?made;apply B27;exact ⟨_,rfl,"dict_keyiterator",_,⟨_,A8 _ rfl,rfl⟩,M9.lookup,hQ⟩
def qSQ (h:Heap) (it d:Addr) (i n ep:Nat):Prop:=h.get? it=some { cls:=.type "dict_keyiterator",data:=.fields #[.ref d,rawInt i,rawInt n,rawInt ep] }
theorem qNW {Q:Option Value->Shared->Prop} (hit:qSQ s.heap it d i es.size ep) (ho:s.heap.get? d=some od) (he:od.data=.dict es ep) (hi:i<es.size)
  (hQ:∀ h',qSQ h' it d (i+1) es.size ep->Heap.SameBut it s.heap h'->Q (some es[i].key) { s with heap:=h' }):wpAny (model prog w) A (pyNext (.ref it)) Q E s:=by
 have hT:s.TypeIs (.ref it) "dict_keyiterator":=⟨_,hit,rfl⟩;unfold pyNext;apply B26;apply B68;apply wpAny_callSpecial?_slot (name:=D4 "__next__") hT M9;refine B37 M9 hT k8 ?go (j9 (.ref it));apply B26;apply B27;apply B26;apply B26;apply B26
 first | apply B60 hT | apply B74 hT
 apply B27;apply B26;refine wpAny_fieldsOf hit rfl ?fs;have own0:m5 "dict_keyiterator" = false:=by decide
 have nn:((C7 d == L0)=true)->False:=fun z=>by cases z
 simp only [own0,G7,if_false];show wpAny _ _ (if (C7 d == L0)=true then _ else _) _ _ s
 rw [if_neg nn];apply B26;apply B27;apply B26;apply wpAny_dictEntries ho he;rw [if_neg (by simp)]
 apply B26;apply B27;apply B26;apply wpAny_dictEpoch ho he;rw [if_neg (by simp)]
 apply B27;have pos:¬ ((i:Int)<0):=Int.not_lt.mpr (W5 i);simp only [pos,if_false,E1,B8 hi];apply B26;apply B26
 first | apply B60 hT | apply B74 hT
 apply B27;apply B26;apply wpAny_isOneOf_keyiter hT;show wpAny _ _ (setField (.ref it) 1 (rawInt ((i:Int)+1)) >>= _) _ _ s;apply B26;refine B72 hit rfl (by show 1<4;decide) ?set
 have hit':qSQ (s.heap.update it (l9 (·.setIfInBounds 1 (rawInt ((i:Int)+1))))) it d (i+1) es.size ep:=J6 _ hit rfl;apply B26;apply B34;apply B26;refine wpAny_isOneOf_keyiter (s:={ s with heap:=s.heap.update it (l9 (·.setIfInBounds 1 (rawInt ((i:Int)+1)))) }) ⟨_,hit',rfl⟩ ?one;apply B27;apply B27;exact ⟨_,rfl,B27 (hQ _ hit' (V7 ..))⟩
theorem qR5 {Q:Option Value->Shared->Prop} (hh:A.handled=none) (hit:qSQ s.heap it d i es.size ep) (hi:es.size<=i) (ho:s.heap.get? d=some od) (he:od.data=.dict es ep)
  (hQ:∀ h',Heap.ExtBut it s.heap h'->Q none { s with heap:=h' }):wpAny (model prog w) A (pyNext (.ref it)) Q E s:=by
 have hT:s.TypeIs (.ref it) "dict_keyiterator":=⟨_,hit,rfl⟩;unfold pyNext;apply B26;apply B68;apply wpAny_callSpecial?_slot (name:=D4 "__next__") hT M9;refine B37 M9 hT k8 ?go (j9 (.ref it));apply B26;apply B27;apply B26;apply B26;apply B26
 first | apply B60 hT | apply B74 hT
 apply B27;apply B26;refine wpAny_fieldsOf hit rfl ?fs;have own0:m5 "dict_keyiterator" = false:=by decide
 have nn:((C7 d == L0)=true)->False:=fun z=>by cases z
 simp only [own0,G7,if_false];show wpAny _ _ (if (C7 d == L0)=true then _ else _) _ _ s
 rw [if_neg nn];apply B26;apply B27;apply B26;apply wpAny_dictEntries ho he;rw [if_neg (by simp)]
 apply B26;apply B27;apply B26;apply wpAny_dictEpoch ho he;rw [if_neg (by simp)]
 apply B27;have pos:¬ ((i:Int)<0):=Int.not_lt.mpr (W5 _);simp only [pos,if_false,E1,Array.getElem?_eq_none hi];apply B26;apply B26
 first | apply B60 hT | apply B74 hT
 apply B27;show wpAny _ _ (setField (.ref it) 0 .none >>= _) _ _ s;apply B26;refine B72 hit rfl (by show 0<4;decide) ?set
 have eb:Heap.ExtBut it s.heap (s.heap.update it (l9 (·.setIfInBounds 0 L0))):=fun b o hb e=>(F0 _ _ (F2 hb)).trans e;show wpAny _ _ (newExc (.type "StopIteration") [] >>= _) _ _ _;apply B26;simp only [newExc,newTuple];apply B26;refine B36 ?t1 (by size_fits)
 refine B26 (m:=B80 _ _) (B78 (a:=L0) (by first | rfl | (simp only [B80];rfl)) ?t2)
 refine B36 ?t3 (by size_fits)
 simp only [raiseNew];apply B26;apply wpAny_handled;rw [show A.in1.handled=none from hh]
 first | apply wpAny_throw | (apply B26;apply B27;apply wpAny_throw)
 apply B26;refine B84 (T:="StopIteration") (b:=true) ⟨_,A8 _ rfl,rfl⟩ isSubtype_stop ?t4;exact B27 (hQ _ ((eb.push _).push _))
end
section
variable {X:Cx} {tg:Expr}
def qd4 (t:TE):TE:=fun σ H Q=>t σ H fun v H1=>∃ d Af,v=.ref d/\H1 d=some (.dT Af)/\∀ o,Q v (Ag H1 d (.frz o (.dT Af)))
theorem Inv.freezeT {Ab:Aa2} {σ:St} {H:Hp} {d:Addr} {Af:List (List Key × V)} (I:Inv X Ab σ H s) (h:H d=some (.dT Af)):∃ o,Inv X Ab σ (Ag H d (.frz o (.dT Af))) s:=by
 have ok:=I.hok d _ h;obtain ⟨hz,hd,xs,rel,o,es,ep,ho,r⟩:=id ok;refine ⟨o,I.write (h':=s.heap) (t':=s.toks) (x:=d) (e:=d) (o:=.frz o (.dT Af)) (by rw [h];trivial) (.inl rfl) (fun b u _ q=>q) ⟨o,ho⟩ ⟨ho,?_⟩⟩
 refine (show ObjOk X.prog X.w H s.heap d (.dT Af) from ok).stay (fun b u _ q=>q) (fun b q=>?_) (fun b ys q=>?_) fun b t q=>?_
 ·rw [qA9 (qCF q h (by intro z;cases z))];exact q
 ·rw [qA9 (qCF q h (by intro z;cases z))];exact q
 ·rw [qA9 (qCF q h (by intro z;cases z))];exact q
theorem qOS {e:Expr} {t:TE} (he:PE X e t):PE X e (qd4 t):=by
 intro Ab s σ H Q I h;refine thn (he Ab s σ H _ I h) fun v s1 ⟨x,H1,I1,r1,d,Af,e,hd,q⟩=>?_;obtain ⟨o,I2⟩:=I1.freezeT hd;exact ⟨x,_,I2,r1,q o⟩
def ItT (a:Addr) (o:Obj) (Af:List (List Key × V)):It:=
 ⟨fun i H=>i<Af.length/\H a=some (.frz o (.dT Af)),fun i H x H'=>H'=H/\∃ k v r,Af[i]?=some (k,v)/\x=.ref r/\H r=some (.tup (k.map kV)),fun i H=>Af.length<=i/\H a=some (.frz o (.dT Af))⟩
theorem Inv.heldT {Ab:Aa2} {σ:St} {H:Hp} {d:Addr} {o:Obj} {Af:List (List Key × V)} (I:Inv X Ab σ H s) (h:H d=some (.frz o (.dT Af))) :
  s.heap.get? d=some o/\(d == B52)=false/\o.cls=.type "dict"/\∃ es ep,o.data=.dict es ep/\es.size=Af.length/\∀ (i:Nat) (hi:i<es.size),∃ k v r,Af[i]?=some (k,v)/\es[i].key=.ref r/\H r=some (.tup (k.map kV)):=by
 obtain ⟨ho,hz,hd,xs,rel,o',es,ep,ho',hc,hdat,eq,nd⟩:=(show ObjOk X.prog X.w H s.heap d (.frz o (.dT Af)) from I.hok d _ h);rw [ho] at ho';cases ho';have lx:xs.length=Af.length:=rel.length.symm;have le:es.size=xs.length:=by rw [<- C6,eq,A0]
 refine ⟨ho,hd,hc.1,es,ep,hdat,le.trans lx,fun i hi=>?_⟩;have hi2:i<xs.length:=by lia
 have hi3:i<Af.length:=by lia
 have h1:=A5 hi3;obtain ⟨x,hx,e1,e2,e3⟩:=qGX rel h1;refine ⟨Af[i].1,Af[i].2,x.2.1,h1,?_,e2⟩;have h3:es[i]?=some (entryOfKey (B87 (qB0 X.prog X.w)) x):=by rw [<- E4,eq,B6,hx];rfl
 rw [B8 hi] at h3;rw [D7 h3]
 rfl
theorem qRK {K:Ab1} {tg:Expr} (a it:Addr) (o:Obj) (Af:List (List Key × V)) (ep:Nat) (es:_) (ho:o.data=.dict es ep):Turn P w K tg (ItT a o Af) [it] it (fun i h=>qSQ h it a i Af.length ep) where
 mem:=by simp
 obj:=fun i h st b hb=>by
  have e:b=it:=by simpa using hb
  subst e;exact ⟨_,st,fun v z=>by cases z⟩
 keep:=fun i h h' st k=>k it (by simp) _ st
 item:=by
  intro X hP hw hK hc i Ab s σ H E I hf st hg;subst hP hw hK;obtain ⟨hi,hq⟩:=hg;obtain ⟨e1,e2,e3,es',ep',e4,e5,get⟩:=I.heldT hq;rw [ho] at e4;cases e4;obtain ⟨f0,f1,f2,f3,f4,f5⟩:=hf it (by simp)
  rw [<- e5] at st;have hi2:i<es.size:=by lia
  obtain ⟨k,v,r,g1,g2,g3⟩:=get i hi2;refine qNW st e1 ho hi2 fun h' hit' hs'=>?_;have I1:Inv X Ab σ H { s with heap:=h' }:=I.turned (t':=s.toks) (fun b o hb e=>(hs'.2 b hb).trans e) f0 f1 f3 f4 f5;rw [e5] at hit';rw [g2];exact ⟨.ref r,rfl,qSA (s:={ s with heap:=h' }) hit' rfl rfl (by decide) ⟨.ref r,H,I1,rfl,⟨rfl,k,v,r,g1,rfl,g3⟩,hit',fun b hb=>(hf b hb).1⟩⟩
 done:=by
  intro X hP hw hK hc i Ab s σ H E I hf st hg;subst hP hw hK;obtain ⟨hi,hq⟩:=hg;obtain ⟨e1,e2,e3,es',ep',e4,e5,get⟩:=I.heldT hq;rw [ho] at e4;cases e4;obtain ⟨f0,f1,f2,f3,f4,f5⟩:=hf it (by simp)
  rw [<- e5] at st;exact qR5 (I.ok.hd hc) st (by lia) e1 ho fun h' eb=>⟨rfl,I.turned (t':=s.toks) (fun b o hb e=>eb b o hb e) f0 f1 f3 f4 f5⟩
 self:=fun _ _ _ _ _ st h=>C11 ⟨_,st,rfl,rfl⟩ h
def qcJ (tl:TE):TI:=fun σ H R=>tl σ H fun x H1=>∃ a o Af,x=.ref a/\H1 a=some (.frz o (.dT Af))/\R (ItT a o Af) H1
theorem qLX {l:Expr} {tl:TE} (hl:PE X l tl):PI X tg l (qcJ tl):=by
 intro Ab s σ H R I h;refine thn (hl Ab s σ H _ I h) fun v s1 ⟨x,H1,I1,r1,q1⟩=>?_;obtain ⟨a,o,Af,e,hq,q⟩:=q1;subst e;cases r1;obtain ⟨e1,e2,e3,es,ep,e4,e5,get⟩:=I1.heldT hq;refine qNV ⟨_,e1,e3⟩ e2 e1 e4 ?_;refine ⟨s1.heap.objs.size,[s1.heap.objs.size],_,_,H1,rfl,I1.kept (t':=s1.toks) fun b o e=>A3 _ e,qRK a _ o Af ep es e4,by rw [e5];exact A8 _ rfl,fun b hb=>?_,q⟩
 have e:b=s1.heap.objs.size:=by simpa using hb
 subst e;exact I1.fpOk (A6 _) (I1.hok.fresh (A6 _))
end
theorem qXD {a:Addr} {o:Obj} {Af:List (List Key × V)} {g:TG} {tc:TT} {te:TE} {Kf:Hp->Prop} {σ0:St} {H0:Hp} {p:Addr} (Pv:Nat->St->Hp->Prop) (h0:Pv 0 σ0 H0) (hl:∀ i σ H,i<=Af.length->Pv i σ H->H a=some (.frz o (.dT Af)))
  (hs:∀ i k v r σ H,Af[i]?=some (k,v)->H r=some (.tup (k.map kV))->Pv i σ H->g (.ref r) σ H fun σ2 H2=>tc σ2 H2 fun b H3=>if b=true then te σ2 H3 fun y H4=>∃ ys,H4 p=some (.lst ys)/\ys.length<B28/\Pv (i+1) σ2 (Ag H4 p (.lst (ys++[y]))) else Pv (i+1) σ2 H3)
  (hd:∀ σ H,Pv Af.length σ H->Kf H) :
  LcG (ItT a o Af) g tc te Kf σ0 H0 p:=by
 refine ⟨fun i m σ H=>m=Af.length - i/\i<=Af.length/\Pv i σ H,⟨Af.length,by simp,E5 _,h0⟩,?_⟩
 rintro i m σ H ⟨rfl,hi,q⟩;have hq:=hl i σ H hi q;by_cases hlt:i<Af.length
 ·refine .inr ⟨⟨hlt,hq⟩,Pv (i+1),fun σ' H' p'=>⟨Af.length - (i+1),by lia,rfl,hlt,p'⟩,fun x H' y=>?_⟩
  obtain ⟨e,k,v,r,e2,e3,e4⟩:=y;subst e e3;exact hs i k v r σ _ e2 e4 q
 ·have e:i=Af.length:=by lia
  subst e;exact .inl ⟨⟨A6 _,hq⟩,hd σ H q⟩
section
variable {X:Cx} {k v:Expr} {tk tv:TE} {pos:Pos}
def qZJ (tk tv:TE):TE:=fun σ H Q=>∀ p,H p=none->tk σ (Ag H p (.dT [])) fun x H1=>tv σ H1 fun y H2=>H2 p=some (.dT [])/\∃ b ks,x=.ref b/\H2 b=some (.tup (ks.map kV))/\Q (.ref p) (Ag H2 p (.dT [(ks,y)]))
theorem qTR (hu:X.A.units+1<cLine) (hk:PE X k tk) (hv:PE X v tv):PE X (.Dict [some k] [v] pos) (qZJ tk tv):=by
 intro Ab s σ H Q I q;have hn:=I.hok.fresh (A6 s.heap.objs.size);have I1:=I.laid (a:=s.heap.objs.size) (o:=.dT []) (h':=s.heap.push { cls:=.type "dict",data:=.dict #[] }) (t':=s.toks) (fun _ _ q=>A3 _ q) (A6 _) (qR6 s.heap I.big);rw [arm_eval_Dict,zip_pairTrees [some k] [v] X.env pos rfl rfl,dictDisplay_pairs _ (by intro z;cases z) (by show 1<17;decide)]
 apply B26;apply B98;apply B26;unfold subDict;apply B26;refine wpAny_alloc ?_;apply B26;apply B34;rw [if_pos (show (pairTrees [some k] [v] X.env pos).length<=15 by show 1<=15;decide)]
 apply B26;refine pairTrees_cons_walk (thn (hk Ab _ σ _ _ I1 (q _ hn)) fun u s1 ⟨x,H1,I2,rx,q1⟩=>thn (hv Ab _ σ _ _ I2 q1) fun r s2 ⟨y,H2,I3,ry,e,b,ks,ex,eb,q2⟩=>pairTrees_nil_walk ?_);subst ex;obtain rfl:u=C7 b:=rx;apply B34;obtain ⟨z,hd,xs,rel,dd⟩:=qcP I3.hok e;have hz:xs.length<=B28:=by rw [<- B7 rel];exact z
 apply B26;simp only [O9,A38];apply B26;apply B26;refine wpAny_dictSet_heap (knd:=B87 (qB0 X.prog X.w)) (hsz:=hz) ?_ (qJL I3.hok eb) dd fun h' dd' hs=>?_
 ·exact Nat.lt_of_succ_lt hu
 apply B27;apply B27;apply B27;apply B27;apply B27;refine ⟨.ref s.heap.objs.size,_,?_,rfl,q2⟩;obtain ⟨o2,es,ep,hq,h2,h3,h4,_,h5⟩:=dd';refine qMH I3 (by rw [e];exact U7) hs ⟨o2,hq⟩ ⟨F6 (show 1<=2 by decide) (by decide),hd,_,(rel.put ks eb ry).keeps fun c ys ec=>?_,o2,es,ep,hq,h2,h3,h4,h5⟩
 rw [qA9 (qCF ec e (fun z=>nomatch z))];exact ec
end
def kOf:Stmt->Expr
 | .Assign _ (.Dict [some k] _ _) _=>k
 | _=>.Name "" ⟨0,0,0,0⟩
def vOf:Stmt->Expr
 | .Assign _ (.Dict _ [v] _) _=>v
 | _=>.Name "" ⟨0,0,0,0⟩
theorem qZZ {X:Cx} {e:Expr} (h:∃ n p,e=.Tuple [] n p):PE X e (tTup tNil):=by
 obtain ⟨n,p,rfl⟩:=h;exact qCH qA3
theorem qTP {X:Cx} {e:Expr} (h:∃ a1 a2 b1 b2 c1 c2 n p,e=.Tuple [.Constant (.int 0) a1 a2,.Constant .none b1 b2,.Constant .none c1 c2] n p):PE X e (tTup (qMU (tC (.int 0)) (qMU (tC .non) (qMU (tC .non) tNil)))):=by
 obtain ⟨_,_,_,_,_,_,n,p,rfl⟩:=h;exact qCH (qA0 qA8 (qA0 qI2 (qA0 qI2 qA3)))
theorem qW3 {p:Pos} {a b:Int} {c cv:Value} :∀ {l:List Value},TriplesOk l->codeAmong p (l++[rawInt a,rawInt b,c])=some cv->codeAmong p l=some cv\/cv=c:=by
 intro l h e
 fun_induction TriplesOk l with
 | case1=>
  simp only [m8,rawInt,codeAmong] at e
  split at e
  ·exact .inr (D7 e).symm
  ·cases e
 | case2 a' t b' u x rest ih=>
  simp only [k5,codeAmong] at e ⊢
  split at e
  ·rename_i hc
   rw [if_pos hc];exact .inl e
  ·rename_i hc
   rw [if_neg hc];exact ih h e
 | case3 l h1 h2=>exact h.elim
def BM (mg:Ab0) (h:Heap):Prop:=∃ bm ob,mg "__builtins__" = some (.ref bm)/\bm ≠ C06/\h.get? bm=some ob/\ob.cls=.type "module"/\ob.dict=some C06/\ob.data=.plain
section
variable {X:Cx} {Ab:Aa2} {σ:St} {H:Hp} {s:Shared}
abbrev lamO (X:Cx) (q:Str) (params:B59) (body:Expr) (scope:Scope) (cc:Addr) (ctv:Value):Obj:=
 { cls:=.type "function",data:=.func (Y7 "<lambda>" q params body scope (qHF X.env scope.names []) ((X.mg "__name__").getD .none) (.ref cc) ctv) }
theorem qcN {params:B59} {body:Expr} {scope:Scope} {pos:Pos} {c P:Addr} {q:Str} {Q:Aa1} 
  (I:Inv X Ab σ H s) (hb:BM X.mg X.base) (hcode:X.env.code=.ref c) (C:PySem.W.CodeHd X.base c P) (hP:H P=some (.tbl (.tab q))) (hq:X.env.qual ++ "<lambda>" = q)
  (hfr:∀ x,(x,G9) ∈ scope.names->∃ c,X.env.cells.lookup x=some c) (hdef:defaultsOf params X.env=([],[]))
  (h:∀ (f cc:Addr) (ctv:Value) (s':Shared) (H':Hp),Inv X Ab σ H' s'->(∀ b o,H b=some o->H' b=some o)->H' cc=some (.tbl (.cod q))->
   s'.heap.get? f=some (lamO X q params body scope cc ctv)->s.heap.objs.size<=f->H' f=none->Q (.ref f) s') :
  wpAny (model X.prog X.w) X.A (eval (.Lambda params body scope pos) X.env) Q E s:=by
 obtain ⟨more,hPo,tr,ent⟩:=(show ObjOk X.prog X.w H s.heap P (.tbl (.tab q)) from I.hok P _ hP);have hg:s.heap.Ns B40 X.mg:=I.ok.mod.glob.keeps I.bk;have nP:∀ b o,X.base.get? b=some o->b ≠ P:=fun b o e z=>by
  have:=(I.bs b o e).2;rw [z,hP] at this;cases this
 have hgP:B40 ≠ P:=by
  obtain ⟨o,es,ep,e,_⟩:=I.ok.mod.glob;exact nP _ _ e
 have hbP:s.heap.BuiltinsAt X.mg P:=by
  obtain ⟨bm,ob,b1,b2,b3,b4,b5,b6⟩:=hb;refine ⟨bm,ob,b1,b2,?_,nP _ _ b3,I.bk _ _ b3,b4,b5,b6⟩;rintro rfl;obtain ⟨o,es,ep,e,hd,_⟩:=I.ok.mod.glob;rw [e] at b3;cases b3;rw [hd] at b6;cases b6
 refine PySem.W.kla_eval hdef ?_;rw [hq];cases hca:codeAmong pos more.toList with
 | some cv=>
  obtain ⟨cc,rfl,hcc⟩:=ent pos cv hca;refine PySem.W.kla_makeFunctionHit (qHV hfr) I.ok.glob hg hcode (C.keeps I.bk) hPo tr hca hbP fun ctv h' tk hk hsz=>?_;exact h h'.objs.size cc ctv _ H (I.kept (t':=tk) fun b u e=>A3 _ (hk b u e)) (fun _ _ z=>z) hcc (A8 _ rfl) hsz (I.hok.fresh hsz)
 | none=>
  refine PySem.W.kla_makeFunction (qHV hfr) I.ok.glob hg hcode (C.keeps I.bk) hPo tr hca hgP hbP fun c' ctv h' tk hx hge hlt hrec htb=>?_;have hc0:H c'=none:=I.hok.fresh hge;have up:∀ b o,H b=some o->(Ag H c' (.tbl (.cod q))) b=some o:=fun b o e=>by rw [qA9 (qA6 e hc0)];exact e
  have neP:∀ b,H b=none->b ≠ P:=fun b n z=>by rw [z,hP] at n;cases n
  have I':Inv X Ab σ (Ag H c' (.tbl (.cod q))) { s with heap:=h'.push (lamO X q params body scope c' ctv),toks:=tk }:=by
   refine I.step (g':=s.gens) (d':=s.drawn) (ch:=[]) (fun _ z=>nomatch z) (fun b o _ _ _ e n=>A3 _ (hx b o (neP b n) e)) (fun b o _ _ _ e n=>⟨o.slots,A3 _ (hx b o (neP b n) e)⟩)
    (fun b o _ e n=>by rw [qA9 (C2 (D6 (A9 e) hge))];exact n) (fun b o _ e=>?_) (fun b xs e=>up _ _ e) (fun b o u e=>up _ _ e) (fun b t e=>up _ _ e) (fun m hm=>(hm.extBut hx (neP _ I.free)).push _) (fun b u e=>?_) I.bare
   ·by_cases hb':b=P
    ·exact ⟨_,A3 _ (hb' ▸ htb)⟩
    ·exact ⟨o,A3 _ (hx b o hb' e)⟩
   ·by_cases hbc:b=c'
    ·subst hbc;rw [qA1] at e;cases e;obtain ⟨c₂,oc,vs,t,e2,hoc,r⟩:=hrec;cases e2;exact ⟨b,oc,vs,t,rfl,A3 _ hoc,r⟩
    ·rw [qA9 hbc] at e;by_cases hb':b=P
     ·subst hb';rw [hP] at e;cases e;refine ⟨_,A3 _ htb,?_,fun pos' cv z=>?_⟩
      ·rw [D8];exact TriplesOk_snoc _ _ _ _ tr
      ·rw [D8] at z;rcases qW3 tr z with z | z
       ·obtain ⟨c2,e1,e2⟩:=ent pos' cv z;exact ⟨c2,e1,up _ _ e2⟩
       ·exact ⟨c',z,qA1⟩
     ·refine (I.hok b u e).stay (fun c2 v hc2 z=>A3 _ (hx c2 v ?_ z)) (fun c2 z=>up _ _ z) (fun c2 xs z=>up _ _ z) fun c2 t z=>up _ _ z;rcases hc2 with z | z
      ·rw [z];exact hb'
      ·intro z2;rw [z2,hP] at z;cases z
  exact h h'.objs.size c' ctv _ _ I' up qA1 (A8 _ rfl) (by lia) (by rw [qA9 (R9 hlt)];exact I.hok.fresh (by lia))
structure LmScope (X:Cx) (scope:Scope) (p:Str) (fv:List Nat):Prop where
 kind:scope.kind=.function
 co:scope.isCoroutine=false
 gen:scope.isGenerator=false
 nocell:∀ y ∈ scope.names,y.2 ≠ .cell
 par:scope.names.lookup p=some .local
 free:∀ y ∈ scope.names,y.2=.free->X.env.kindOf y.1=some .cell\/X.env.kindOf y.1=some .free
 fvs:∀ i ∈ fv,i<X.N.length/\scope.names.lookup (X.N.getD i P2)=some .free
structure LmZ where
 A:Around
 f:Addr
 cd:Value
 s₀:Shared
 H₀:Hp
 rm:Room 0 A
abbrev qa7 (X:Cx) (scope:Scope) (q:Str) (z:LmZ):Env:=PySem.W.envX q scope z.s₀.heap.objs.size z.f z.cd (qHF X.env scope.names [])
def lmCx (X:Cx) (scope:Scope) (p:Str) (fv:List Nat) (q:Str) (z:LmZ):Cx where
 prog:=X.prog
 w:=X.w
 K:=X.K
 mg:=X.mg
 base:=X.base
 A:=z.A.deeper (qa7 X scope q z)
 N:=p::fv.map fun i=>X.N.getD i P2
 s₀:=z.s₀
 H₀:=z.H₀
 env:=qa7 X scope q z
 outer:=X.stack
 stack:=qa7 X scope q z::X.stack
 ex:=[]
 fn:=fun _=>false
 calm:=true
 pn:=[]
 xe:=noX
theorem LmScope.fr {scope:Scope} {p:Str} {fv:List Nat} (S:LmScope X scope p fv) (I:Inv X Ab σ H s):∀ x,(x,G9) ∈ scope.names->∃ c,X.env.cells.lookup x=some c:=fun x hx=>I.ok.has x (S.free _ hx rfl)
theorem qdO {scope:Scope} {p:Str} {fv:List Nat} {q:Str} {f:Addr} {cd:Value} (rm:Room 0 A) (I:Inv X Ab σ H s) (S:LmScope X scope p fv) (hA:A.frames=some X.stack) :
  (lmCx X scope p fv q ⟨A,f,cd,s,H,rm⟩).Ok:=by
 have hfr:=S.fr I;have sub:=qFF (env:=X.env) (names:=scope.names) (acc:=[]) hfr (fun x c z=>by simp at z)
 have noA:∀ b:Addr,b ∉ (lmCx X scope p fv q ⟨A,f,cd,s,H,rm⟩).ex:=fun b z=>absurd (show b ∈ ([]:List Addr) from z) (by simp)
 refine ⟨I.ok.mod,S.kind,rfl,rfl,A6 _,fun x y c h1 h2=>I.ok.inj x y c (sub _ _ h1) (sub _ _ h2),fun x hx=>?_,fun x c hx=>(nomatch hx),fun _=>rm.hd,A25 hA,.inr ⟨rfl,rfl⟩,fun b z=>absurd z (noA b),I.bs,F6 I.ok.bsz I.sz,fun b _ _=>noA b,fun b z=>absurd z (noA b),I.stack,I.stkFree⟩;have hx':scope.names.lookup x=some .cell\/scope.names.lookup x=some .free:=hx;rcases hx' with z | z
 ·exact absurd rfl (S.nocell _ (G8 z))
 ·exact qFG (.inl (G8 z))
def qHM (fv:List Nat) (σ:St) (x:V):St:=some x::fv.map fun i=>(σ[i]?).join
theorem qX9 {scope:Scope} {p:Str} {fv:List Nat} {q:Str} {f:Addr} {cd:Value} {x:V} {u:Value} {h₁:Heap} {tk:Nat} (rm:Room 0 A) (I:Inv X Ab σ H s) (S:LmScope X scope p fv) (hA:A.frames=some X.stack) (hx:RelV x u)
  (hns:h₁.Ns s.heap.objs.size (fun y=>[(p,u)].reverse.lookup y)) (hk:∀ b o,s.heap.get? b=some o->h₁.get? b=some o) :
  Inv (lmCx X scope p fv q ⟨A,f,cd,s,H,rm⟩) [] (qHM fv σ x) H { s with heap:=h₁,toks:=tk }:=by
 have hfr:=S.fr I;have sub:=qFF (env:=X.env) (names:=scope.names) (acc:=[]) hfr (fun x c z=>by simp at z)
 refine ⟨qdO rm I S hA,rfl,I.bare,Un.kept hk,⟨_,hns,fun i y v h1 h2 h3=>?_⟩,fun y c e=>?_,I.hok.fresh (A6 _),fun y c e=>I.freeC y c (sub _ _ e),fun p hp=>absurd (show p ∈ ([]:Aa2) from hp) (by simp),I.hok.kept hk,?_⟩
 ·have h1:(p::fv.map fun i=>X.N.getD i P2)[i]?=some y:=h1;unfold qHM at h2;cases i with
  | zero=>
   cases h1;cases h2;refine ⟨u,hx,.inl ⟨S.par,?_⟩⟩;simp
  | succ i=>
   rw [List.getElem?_cons_succ,B6] at h1 h2;cases e:fv[i]? with
   | none=>rw [e] at h1;cases h1
   | some j=>
    rw [e] at h1 h2;have hj:=S.fvs j (B5 e);have h1:X.N.getD j P2=y:=D7 h1;have h2:(σ[j]?).join=some v:=D7 h2;have h2':σ[j]?=some (some v):=by
     cases q:σ[j]? with
     | none=>rw [q] at h2;cases h2
     | some y=>rw [q] at h2;exact congrArg some h2
    have hxn:X.N[j]?=some y:=by
     rw [R4] at h1;rw [A5 hj.1] at h1 ⊢;exact congrArg some h1
    have hlk:scope.names.lookup y=some .free:=h1 ▸ hj.2;have hmem:=G8 hlk;obtain ⟨m,hn,hl⟩:=id I.loc;have hkd:=S.free _ hmem rfl;obtain ⟨u,ru,lk⟩:=hl j y v hxn h2' (by
     rcases hkd with z | z
     ·exact .inr (.inl z)
     ·exact .inr (.inr z))
    refine ⟨u,ru,?_⟩;rcases lk with ⟨z,_⟩ | ⟨_,c,e1,z⟩
    ·rcases hkd with y' | y'
     ·have y':X.env.kindOf y=some .cell:=y';rw [z] at y';cases y'
     ·have y':X.env.kindOf y=some .free:=y';rw [z] at y';cases y'
    ·obtain ⟨c',e2⟩:=qFG (env:=X.env) (names:=scope.names) (acc:=[]) (x:=y) (.inl hmem);have e3:=sub _ _ e2;rw [e1] at e3;cases e3;obtain ⟨o,ho,hd⟩:=z;exact .inr ⟨.inr hlk,c,e2,o,hk _ _ ho,hd⟩
 ·obtain ⟨v,o,ho,hd⟩:=I.cell y c (sub _ _ e);exact ⟨v,o,hk _ _ ho,hd⟩
 ·unfold qHM;show _=(p::fv.map fun i=>X.N.getD i P2).length;simp
theorem qXF {params:B59} {body:Expr} {scope:Scope} {p:Str} {fv:List Nat} {q:Str} {f cc:Addr} {ctv u:Value} {x:V} {te:TE} {Q:VK} (rm:Room 0 A) (I:Inv X Ab σ H s) (S:LmScope X scope p fv) (hA:A.frames=some X.stack)
  (hf:s.heap.get? f=some (lamO X q params body scope cc ctv)) (hcc:H cc=some (.tbl (.cod q))) (hx:RelV x u)
  (hbind:∀ (cl:List (Str × Addr)) (pm cd ct u:Value),B89 (Y7 "<lambda>" q params body scope cl pm cd ct) ⟨[u],[]⟩=pure [(p,u)])
  (he:∀ z,PE (lmCx X scope p fv q z) body te) (h:te (qHM fv σ x) H Q) :
  B64 (model X.prog X.w) A (.call (.ref f) ⟨[u],[]⟩) (fun r s'=>∃ v y H',r=.ok (.ret v)/\Inv X Ab σ H' s'/\RelV y v/\Q y H'/\Un (frs X.stack) [] H H' s.heap s'.heap) s:=by
 have hrec:s.heap.CodeRec (.ref cc) q:=(show ObjOk X.prog X.w H s.heap cc (.tbl (.cod q)) from I.hok cc _ hcc);refine PySem.W.kla_callFunE rm.depth hf rfl S.co S.gen rfl hrec ?_;rw [hbind];refine B27 (wpAny_newFunctionEnv S.nocell (fun y hy=>?_) (fun h₁ hns hsb=>⟨I.nolimit.fresh _ hsb,?_⟩) S.kind)
 ·rw [A7.mp hy];exact S.par
 have hk₁:∀ b o,s.heap.get? b=some o->h₁.get? b=some o:=fun b o e=>hsb.extBut b o (C2 (A9 e)) (A3 _ e);refine PySem.W.kla_codeExpr ?_;have J:=qX9 (q:=q) (f:=f) (cd:=.ref cc) (tk:=s.toks+[(p,u)].length) rm I S hA hx hns hk₁;refine B42 ((he ⟨A,f,.ref cc,s,H,rm⟩) [] _ _ H Q J h) (fun v s' ⟨y,H',J',ry,qy⟩=>?_) fun _ _ z=>z.elim;exact ⟨v,y,H',rfl,I.call' (ch:=[]) J'.os J'.base J'.hok J'.bare (fun b hb=>absurd hb (by simp)),ry,qy,J'.base⟩
end
abbrev Sm0 (H H':Hp):Prop:=∀ b o,H b=some o->H' b=some o
section
variable {X:Cx}
def LamF (X:Cx) (q:Str) (params:B59) (body:Expr) (scope:Scope) (cc:Addr) (ctv:Value) (f:Addr):HO:=.ext fun h=>h.get? f=some (lamO X q params body scope cc ctv)
def tLam (X:Cx) (P:Addr) (q:Str) (params:B59) (body:Expr) (scope:Scope):TE:=fun σ H Q=>H P=some (.tbl (.tab q))/\
 ∀ f cc ctv H',Sm0 H H'->H f=none->H' f=some (LamF X q params body scope cc ctv f)->H' cc=some (.tbl (.cod q))->Q (.ref f) H'
theorem qbX {params:B59} {body:Expr} {scope:Scope} {pos:Pos} {c P:Addr} {q:Str} {p:Str} {fv:List Nat} (hb:BM X.mg X.base) (hcode:X.env.code=.ref c) (C:PySem.W.CodeHd X.base c P) (hq:X.env.qual ++ "<lambda>" = q)
  (S:LmScope X scope p fv) (hdef:defaultsOf params X.env=([],[])):PE X (.Lambda params body scope pos) (tLam X P q params body scope):=by
 intro Ab s σ H Q I ⟨hP,h⟩;refine qcN I hb hcode C hP hq (S.fr I) hdef fun f cc ctv s' H' I' sm hcc hf hsz hn=>?_;have hf0:H f=none:=I.hok.fresh hsz;have ncf:cc ≠ f:=qA6 hcc hn
 -- f is tracked from now on
 have hF:X.s₀.heap.objs.size<=f:=F6 I.sz hsz;have I2:Inv X Ab σ (Ag H' f (LamF X q params body scope cc ctv f)) s':=by
  refine I'.track hn hF (R9 (D6 I.lt hsz)) (fun x c e z=>?_) (fun p hp z=>?_) ⟨hf,⟨_,hf⟩,fun h1 h2 x k=>k _ x⟩
  ·obtain ⟨v,hc⟩:=I.cell x c e;exact absurd (D6 hc.lt (by rw [z];exact hsz)) (Q0 _)
  ·exact absurd (D6 (A9 (I.pin p hp).1) (by rw [z];exact hsz)) (Q0 _)
 refine ⟨.ref f,_,I2,rfl,h f cc ctv _ (fun b o e=>?_) hf0 qA1 (by rw [qA9 ncf];exact hcc)⟩
 rw [qA9 (qA6 e hf0)];exact sm b o e
def qET {α:Type}:α × List Int->List (α × List Int)->α
 | b,[]=>b.1
 | b,x::r=>if HT.lexLt x.2 b.2=true then qET x r else qET b r
structure KCmp (X:Cx) (KR:Hp->V->List Int->Prop):Prop where
 mono:∀ H H' y k,Sm0 H H'->KR H y k->KR H' y k
 cmp:∀ (Ab:Aa2) (σ:St) (s:Shared) (H:Hp) (y y':V) (u u':Value) (k k':List Int) (Q:Aa1) (E:Aa1),Inv X Ab σ H s->RelV y u->RelV y' u'->KR H y k->KR H y' k'->Q (.bool (HT.lexLt k k')) s->
  wpAny (model X.prog X.w) X.A.in1 (richCompare .Lt u u') Q E s
theorem Inv.fpStk {Ab:Aa2} {σ:St} {H:Hp} {b:Addr} (I:Inv X Ab σ H s) (f:FpOk X Ab H b):b ∉ frs X.stack:=fun z=>by
 rcases C1.mp (I.stkSub b z) with e | e
 ·exact f.2.1 e
 ·exact f.2.2.1 e
theorem FpOk.to {Ab:Aa2} {H H':Hp} {b:Addr} (f:FpOk X Ab H b) (h:H' b=none):FpOk X Ab H' b:=⟨h,f.2⟩
structure KeyAt (X:Cx) (σ:St) (fv:List Nat) (te:TE) (KR:Hp->V->List Int->Prop) (H0:Hp) (xs:List V) (ks:Aa0):Prop where
 len:ks.length=xs.length
 key:∀ (i:Nat) (x:V) (k:List Int),xs[i]?=some x->ks[i]?=some k->∀ Hc,Sm0 H0 Hc->te (qHM fv σ x) Hc fun y H'=>Sm0 Hc H'/\KR H' y k
section
variable {Ab:Aa2} {σ:St} {params:B59} {body:Expr} {scope:Scope} {p:Str} {fv:List Nat} {q:Str} {te:TE} {KR:Hp->V->List Int->Prop} {l f cc:Addr} {ctv:Value} {H0:Hp} {xs:List V} {ks:Aa0} {Q:VK}
theorem qUG {H:Hp} {it S:Addr} {i:Nat} {x:V} {k:List Int} {u:Value} (rm:Room 1 X.A) (hA:X.A.in1.frames=some X.stack) (S':LmScope X scope p fv) (hbind:∀ (cl:List (Str × Addr)) (pm cd ct u:Value),B89 (Y7 "<lambda>" q params body scope cl pm cd ct) ⟨[u],[]⟩=pure [(p,u)])
  (he:∀ z,PE (lmCx X scope p fv q z) body te) (KA:KeyAt X σ fv te KR H0 xs ks) (hf:H0 f=some (LamF X q params body scope cc ctv f)) (hcc:H0 cc=some (.tbl (.cod q)))
  (I:Inv X Ab σ H s) (sm:Sm0 H0 H) (hx:xs[i]?=some x) (hk:ks[i]?=some k) (rx:RelV x u) (fi:FpOk X Ab H it) (fS:FpOk X Ab H S) {oi oS:Obj} (gi:s.heap.get? it=some oi) (gS:s.heap.get? S=some oS) {Q':Aa1} {E:Aa1}
  (h:∀ v y H' s',Inv X Ab σ H' s'->Sm0 H H'->RelV y v->KR H' y k->FpOk X Ab H' it->FpOk X Ab H' S->s'.heap.get? it=some oi->s'.heap.get? S=some oS->Q' v s'):wpAny (model X.prog X.w) X.A.in1 (call (.ref f) [u]) Q' E s:=by
 have gf:s.heap.get? f=some (lamO X q params body scope cc ctv):=(show ObjOk X.prog X.w H s.heap f (LamF X q params body scope cc ctv f) from I.hok f _ (sm _ _ hf)).1;refine wpAny_call (B73 (qXF rm.in1 I S' hA gf (sm _ _ hcc) rx hbind he (KA.key i x k hx hk H sm)) fun r s' ⟨v,y,H',e,I',ry,⟨sm',kr⟩,un⟩=>?_);subst e;exact h v y H' s' I' sm' ry kr (fi.to (un.free it oi gi fi.1 (by simp))) (fS.to (un.free S oS gS fS.1 (by simp))) (un.keep it oi gi fi.1 (I.fpStk fi) (by simp)) (un.keep S oS gS fS.1 (I.fpStk fS) (by simp))
theorem qS1 {it S:Addr} {kw:List (Str × Value)} (hc:X.calm=true) (rm:Room 1 X.A) (hA:X.A.in1.frames=some X.stack) (S':LmScope X scope p fv) (hbind:∀ (cl:List (Str × Addr)) (pm cd ct u:Value),B89 (Y7 "<lambda>" q params body scope cl pm cd ct) ⟨[u],[]⟩=pure [(p,u)])
  (he:∀ z,PE (lmCx X scope p fv q z) body te) (KC:KCmp X KR) (KA:KeyAt X σ fv te KR H0 xs ks) (hf:H0 f=some (LamF X q params body scope cc ctv f)) (hcc:H0 cc=some (.tbl (.cod q))) (hl:SqL X.K H0 l xs) (hiS:it ≠ S)
  (lsame:∀ H',Sm0 H0 H'->SqL X.K H' l xs) :
  ∀ (k j:Nat) (s:Shared) (H:Hp) (bx y:V) (bk:List Int) (bu bv:Value) (c:Nat),xs.length - j=k->j<=xs.length->Inv X Ab σ H s->Sm0 H0 H->FpOk X Ab H it->FpOk X Ab H S->s.heap.IsListIter it l j->
   s.heap.get? S=some { cls:=.type "list",dict:=none,data:=.seq #[bu,bv] c,slots:=#[] }->RelV bx bu->RelV y bv->KR H y bk->(∀ H',Sm0 H0 H'->Q (qET (bx,bk) ((xs.zip ks).drop j)) H')->
   B64 (model X.prog X.w) X.A (.builtin "min.loop" ⟨[.ref it,.ref f,.ref S],kw⟩) (fun r s'=>∃ v,r=.ok (.ret v)/\EP X Ab σ Q v s') s:=by
 have hname:(toString "min" ++ toString ".loop" : String) = "min.loop":=by decide
 intro k
 induction k with
 | zero=>
  intro j s H bx y bk bu bv c hk hj I sm fi fS hit hS rb ry kb hQ;obtain ⟨its,rv,pl,hz⟩:=I.list (lsame H sm);have hlen:=rv.length;refine B44 d9 ?_;rw [F1 L4 _];show wpAny _ X.A.in1 (seqItems? (.ref S) >>= _) _ _ s;refine B26 (B47 hS rfl ?_);show wpAny _ X.A.in1 (tryCatch (pyNext (.ref it)) _ >>= _) _ _ s;refine B26 (B58 (C03 (rm.in1.hd) hit pl.isList (by simp;lia) fun h' eb=>?_))
  have I1:Inv X Ab σ H { s with heap:=h' }:=I.turned (t':=s.toks) (fun b o hb e=>eb b o hb e) fi.1 fi.2.1 fi.2.2.2.1 fi.2.2.2.2.1 fi.2.2.2.2.2;have hS':=eb S _ (F2 hiS) hS;show wpAny _ X.A.in1 (updateSeq S (fun _=>#[]) >>= _) _ _ _;refine B26 (wpAny_updateSeq hS' rfl (B26 (B86 (B27 ?_))));have I2:Inv X Ab σ H { s with heap:=h'.update S (U9 fun _=>(#[]:Array Value)) }:=I1.turned (t':=s.toks) (fun b o hb e=>(F0 _ _ (F2 hb)).trans e) fS.1 fS.2.1 fS.2.2.2.1 fS.2.2.2.2.1 fS.2.2.2.2.2;have hq:=hQ H sm;rw [d8 (by rw [A17,KA.len];lia)] at hq
  exact ⟨_,rfl,bx,H,I2,rb,hq⟩
 | succ k ih=>
  intro j s H bx y bk bu bv c hk hj I sm fi fS hit hS rb ry kb hQ;have hlt:j<xs.length:=by lia
  obtain ⟨its,rv,pl,hz⟩:=I.list (lsame H sm);have hxj:=A5 hlt;have hkj:=A5 (show j<ks.length by rw [KA.len];exact hlt)
  have ez:(xs.zip ks).drop j=(xs[j],ks[j]'(by rw [KA.len];exact hlt))::(xs.zip ks).drop (j+1):=by
   rw [O6 (by rw [A17,KA.len];lia),List.getElem_zip]
  rw [ez] at hQ;generalize xs[j]=x at hxj hQ;generalize ks[j]'(by rw [KA.len];exact hlt)=kx at hkj hQ
  obtain ⟨u,hu,ru⟩:=rv.get hxj;refine B44 d9 ?_;rw [F1 L4 _];show wpAny _ X.A.in1 (seqItems? (.ref S) >>= _) _ _ s;refine B26 (B47 hS rfl ?_);show wpAny _ X.A.in1 (tryCatch (pyNext (.ref it)) _ >>= _) _ _ s;refine B26 (B58 (B96 hit pl.isList (x:=u) (by simpa using hu) fun h' st' sb=>?_))
  have I1:Inv X Ab σ H { s with heap:=h' }:=I.turned (t':=s.toks) (fun b o hb e=>(sb.2 b hb).trans e) fi.1 fi.2.1 fi.2.2.2.1 fi.2.2.2.2.1 fi.2.2.2.2.2;have hS1:=(sb.2 S (F2 hiS)).trans hS;obtain ⟨oi,hoi,hoc,hod⟩:=id st';show wpAny _ X.A.in1 (tryCatch (B71 [u] (call (.ref f) [u])) _ >>= _) _ _ _;refine B26 (B58 (B34 (qUG rm hA S' hbind he KA hf hcc I1 sm hxj hkj ru fi fS hoi hS1 fun v y2 H2 s2 I2 sm2 r2 k2 fi2 fS2 gi2 gS2=>?_)));have hit2:s2.heap.IsListIter it l (j+1):=⟨oi,gi2,hoc,hod⟩;show wpAny _ X.A.in1 (tryCatch (B71 [u,v] (richCompare .Lt v bv >>= _)) _ >>= _) _ _ _;refine B26 (B58 (B34 (B26 (KC.cmp Ab σ s2 H2 y2 y v bv kx bk _ _ I2 r2 ry k2 (KC.mono _ _ _ _ sm2 kb) ?_))));refine B26 (B34 (B41 (B26 (B86 (B27 ?_)))));have sm3:Sm0 H0 H2:=fun b o e=>sm2 b o (sm b o e);cases hb:HT.lexLt kx bk with
  | true=>
   rw [if_pos rfl];have et:qET (bx,bk) ((x,kx)::(xs.zip ks).drop (j+1))=qET (x,kx) ((xs.zip ks).drop (j+1)):=by show (if HT.lexLt kx bk=true then _ else _)=_;rw [hb];rfl
   rw [et] at hQ;refine B26 (wpAny_updateSeq gS2 rfl (B26 (B86 ?_)));rw [hname];have I3:Inv X Ab σ H2 { s2 with heap:=s2.heap.update S (U9 fun _=>#[u,v]) }:=I2.turned (t':=s2.toks) (fun b o hb e=>(F0 _ _ (F2 hb)).trans e) fS2.1 fS2.2.1 fS2.2.2.2.1 fS2.2.2.2.2.1 fS2.2.2.2.2.2;exact B27 ⟨B50 L4 _,ih (j+1) _ H2 x y2 kx u v _ (by lia) hlt I3 sm3 fi2 fS2 ⟨oi,(F0 _ _ (F2 hiS)).trans gi2,hoc,hod⟩ (J6 _ gS2 rfl) ru r2 k2 hQ⟩
  | false=>
   rw [if_neg B4];have et:qET (bx,bk) ((x,kx)::(xs.zip ks).drop (j+1))=qET (bx,bk) ((xs.zip ks).drop (j+1)):=by show (if HT.lexLt kx bk=true then _ else _)=_;rw [hb];rfl
   rw [et] at hQ;refine B26 (B86 ?_);rw [hname];exact B27 ⟨B50 L4 _,ih (j+1) s2 H2 bx y bk bu bv c (by lia) hlt I2 sm3 fi2 fS2 hit2 gS2 rb ry (KC.mono _ _ _ _ sm2 kb) hQ⟩
def qbV (dv:Option V):List (V × List Int)->Option V
 | []=>dv
 | b::r=>some (qET b r)
theorem qOZ {H:Hp} {kw:List (Str × Value)} (hc:X.calm=true) (rm:Room 1 X.A) (hA:X.A.in1.frames=some X.stack) (S':LmScope X scope p fv) (hbind:∀ (cl:List (Str × Addr)) (pm cd ct u:Value),B89 (Y7 "<lambda>" q params body scope cl pm cd ct) ⟨[u],[]⟩=pure [(p,u)])
  (he:∀ z,PE (lmCx X scope p fv q z) body te) (KC:KCmp X KR) (KA:KeyAt X σ fv te KR H xs ks) (hf:H f=some (LamF X q params body scope cc ctv f)) (hcc:H cc=some (.tbl (.cod q))) (hl:SqL X.K H l xs)
  (lsame:∀ H',Sm0 H H'->SqL X.K H' l xs) (I:Inv X Ab σ H s)
  (ok:argsOk "min" ⟨[.ref l],kw⟩) (df:Option Value) (hb:n8 "min" ["key","default"] 0 ⟨[],kw⟩=pure [some (.ref f),df]) (dv:Option V) (hdf:df=none/\dv=none\/∃ d u,df=some u/\dv=some d/\RelV d u)
  (m:V) (em:qbV dv (xs.zip ks)=some m) (hQ:∀ H',Sm0 H H'->Q m H'):wpAny (model X.prog X.w) X.A (call (.builtin "min") [.ref l] kw) (EP X Ab σ Q) X.xe s:=by
 obtain ⟨its,rv,pl,hz⟩:=I.list hl;have hls:=pl.isList;have hlt:l<s.heap.objs.size:=by obtain ⟨_,e,_⟩:=hls;exact A9 e
 have hname:(toString "min" ++ toString ".loop" : String) = "min.loop":=by decide
 refine qNZ PySem.F.kind_min PySem.F.plain_min PySem.F.entry_min ok ?_;show wpAny _ _ (n8 "min" ["key","default"] 0 ⟨[],kw⟩ >>= _) _ _ s;refine B26 (B78 hb ?_);refine B26 (B27 ?_);refine B26 (B51 hls ?_);refine B26 (B36 ?_);rw [hname];refine B27 ⟨_,rfl,B50 L4 _,?_⟩;have hS:(s.heap.push { cls:=.type "list_iterator",data:=.fields #[.ref l,.int 0 0] }).objs.size=s.heap.objs.size+1:=L7 ..;have I0:Inv X Ab σ H { s with heap:=(s.heap.push { cls:=.type "list_iterator",data:=.fields #[.ref l,.int 0 0] }).push { cls:=.type "list",data:=.seq #[] } }:=I.kept (t':=s.toks) fun b o e=>A3 _ (A3 _ e);have fi:FpOk X Ab H s.heap.objs.size:=I.fpOk (A6 _) (I.hok.fresh (A6 _));have fS:FpOk X Ab H (s.heap.push { cls:=.type "list_iterator",data:=.fields #[.ref l,.int 0 0] }).objs.size:=by rw [hS];exact I.fpOk (Q9 _) (I.hok.fresh (Q9 _))
 have hiS:s.heap.objs.size ≠ (s.heap.push { cls:=.type "list_iterator",data:=.fields #[.ref l,.int 0 0] }).objs.size:=by rw [hS];exact (Z1 _).symm
 have gi:((s.heap.push { cls:=.type "list_iterator",data:=.fields #[.ref l,.int 0 0] }).push { cls:=.type "list",data:=.seq #[] }).get? s.heap.objs.size=some { cls:=.type "list_iterator",data:=.fields #[.ref l,.int 0 0] }:=A3 _ (A8 _ rfl);have gS:((s.heap.push { cls:=.type "list_iterator",data:=.fields #[.ref l,.int 0 0] }).push { cls:=.type "list",data:=.seq #[] }).get? (s.heap.push { cls:=.type "list_iterator",data:=.fields #[.ref l,.int 0 0] }).objs.size=some { cls:=.type "list",data:=.seq #[] }:=A8 _ rfl;have hls1:=(hls.push { cls:=.type "list_iterator",data:=.fields #[.ref l,.int 0 0] }).push { cls:=.type "list",data:=.seq #[] };generalize (s.heap.push { cls:=.type "list_iterator",data:=.fields #[.ref l,.int 0 0] }).push { cls:=.type "list",data:=.seq #[] }=h0 at I0 gi gS hls1;generalize (s.heap.push { cls:=.type "list_iterator",data:=.fields #[.ref l,.int 0 0] }).objs.size=S at fS hiS gS ⊢;generalize s.heap.objs.size=it at fi hiS gi ⊢;refine B44 d9 ?_;rw [F1 L4 _];show wpAny _ X.A.in1 (seqItems? (.ref S) >>= _) _ _ _;refine B26 (B47 gS rfl ?_);show wpAny _ X.A.in1 (tryCatch (pyNext (.ref it)) _ >>= _) _ _ _;have hit:h0.IsListIter it l 0:=⟨_,gi,rfl,rfl⟩;cases xs with
 | nil=>
  have ek:ks=[]:=K9.mp KA.len;subst ek;have em':dv=some m:=em;cases rv;refine B26 (B58 (C03 (s:={ s with heap:=h0 }) (rm.in1.hd) hit hls1 (by simp) fun h' eb=>?_))
  rcases hdf with ⟨_,e2⟩ | ⟨d,u,rfl,e3,rd⟩
  ·rw [e2] at em';cases em'
  ·rw [e3] at em';cases em';show wpAny _ X.A.in1 (rule _ >>= fun _=>ret u) _ _ _;have I1:Inv X Ab σ H { s with heap:=h' }:=I0.turned (t':=s.toks) (fun b o hb e=>eb b o hb e) fi.1 fi.2.1 fi.2.2.2.1 fi.2.2.2.2.1 fi.2.2.2.2.2;exact B26 (B53 (B27 ⟨u,rfl,_,H,I1,rd,hQ H fun _ _ z=>z⟩))
 | cons x xs=>
  cases ks with
  | nil=>have:=KA.len;simp at this
  | cons k ks=>
   cases em;obtain ⟨u,hu,ru⟩:=rv.get (i:=0) rfl;refine B26 (B58 (B96 (s:={ s with heap:=h0 }) hit hls1 (x:=u) (by simpa using hu) fun h' st' sb=>?_))
   have I1:Inv X Ab σ H { s with heap:=h' }:=I0.turned (t':=s.toks) (fun b o hb e=>(sb.2 b hb).trans e) fi.1 fi.2.1 fi.2.2.2.1 fi.2.2.2.2.1 fi.2.2.2.2.2;have hS1:=(sb.2 S (F2 hiS)).trans gS;obtain ⟨oi,hoi,hoc,hod⟩:=id st';show wpAny _ X.A.in1 (tryCatch (B71 [u] (call (.ref f) [u])) _ >>= _) _ _ _;refine B26 (B58 (B34 (qUG rm hA S' hbind he KA hf hcc I1 (fun _ _ z=>z) (i:=0) rfl rfl ru fi fS hoi hS1 fun v y2 H2 s2 I2 sm2 r2 k2 fi2 fS2 gi2 gS2=>?_)));show wpAny _ X.A.in1 (updateSeq S (fun _=>#[u,v]) >>= _) _ _ _;refine B26 (wpAny_updateSeq gS2 rfl ?_);rw [hname];have I3:Inv X Ab σ H2 { s2 with heap:=s2.heap.update S (U9 fun _=>#[u,v]) }:=I2.turned (t':=s2.toks) (fun b o hb e=>(F0 _ _ (F2 hb)).trans e) fS2.1 fS2.2.1 fS2.2.2.2.1 fS2.2.2.2.2.1 fS2.2.2.2.2.2;exact B27 ⟨B50 L4 _,qS1 hc rm hA S' hbind he KC KA hf hcc hl hiS lsame _ 1 _ H2 x y2 k u v _ rfl (by simp) I3 sm2 fi2 fS2 ⟨oi,(F0 _ _ (F2 hiS)).trans gi2,hoc,hod⟩ (J6 _ gS2 rfl) ru r2 k2 hQ⟩
end
end
def hdIn (K:Ab1) (c P:Addr):Bool:=match K.lookup c with
 | some ⟨.type n,_,.fields vs,_⟩=>decide (n = "code") && decide (c ≠ P) && (match (vs[11]?:Option Value),vs.getD 11 .none with | some (.ref a),.ref b=>decide (a=P) && decide (b=P) | _,_=>false) &&
   (match vs.getD 18 .none,vs.getD 7 .none,vs.getD 9 .none,vs.getD 10 .none with | .str _ _,.int _ _,.bool _,.int _ _=>true | _,_,_,_=>false)
 | _=>false
theorem qVJ {K:Ab1} {h:Heap} {c P:Addr} (X:K.In h) (hd:hdIn K c P=true):PySem.W.CodeHd h c P:=by
 unfold hdIn at hd
 split at hd
 ·rename_i n dd vs sl hl
  rw [J2,J2,J2] at hd;obtain ⟨⟨⟨h1,h2⟩,h3⟩,h4⟩:=hd
  split at h3
  ·rename_i a b e1 e2
   rw [J2,decide_eq_true_eq,decide_eq_true_eq] at h3;obtain ⟨rfl,rfl⟩:=h3
   split at h4
   ·rename_i f t fl tg inF text tt g1 g2 g3 g4
    exact ⟨_,vs,_,_,_,_,_,_,_,X _ _ hl,by rw [of_decide_eq_true h1],rfl,e1,e2,g1,g2,g3,g4,of_decide_eq_true h2⟩
   ·cases h4
  ·cases h3
 ·cases hd
section
variable {X:Cx}
end
theorem Fun.okL {K:Ab1} {mg:Ab0} {base:Heap} {x qual:Str} {st:Stmt} {f:Addr} {fd:B49} {N ps:List Str} {k:Nat} {sp:Sp} {c:Addr} (F:Fun K x qual st f fd) (hc:fd.code=.ref c) (S:FnScope N ps (qAB st)) (len:∀ vs H Q E,sp vs H Q E->vs.length=ps.length)
  (hbody:∀ (A:Around) (outer:List Env) (s:Shared) (H:Hp) (vs:List V) (Q:VK) (E:XK),Room k (A.deeper (envOfC qual (qAB st) s.heap.objs.size f (.ref c)))->sp vs H Q E->
   ∃ t,PSs (cxOf CX0 P w K mg base N qual (qAB st) f (.ref c) A outer s H E).nox (qBB st) t/\t { nx:=fun _ H'=>Q .non H',rt:=Q } (start N vs) H):FnOk P w K mg base CX0 (k+1) f fd ps sp:=by
 obtain ⟨oc,od,kV,doc,pm,an,cdv,ct,osl,rfl,lk,hcd⟩:=F.ex;have e:cdv=.ref c:=hc;subst e;refine qcM lk hcd S len fun A outer s H vs Q E hr hsp=>?_;obtain ⟨t,h,q⟩:=hbody A outer s H vs Q E hr hsp;exact ⟨t,h.nox,q⟩
def qU8 (scope:Scope) (p:Str) (fv:List Nat) (osc:Scope) (N:List Str):Bool:=
 decide (scope.kind=.function) && decide (scope.isCoroutine=false) && decide (scope.isGenerator=false) && scope.names.all (fun y=>decide (y.2 ≠ .cell)) && decide (scope.names.lookup p=some .local) &&
 scope.names.all (fun y=>decide (y.2 ≠ .free) || (decide (osc.names.lookup y.1=some .cell) || decide (osc.names.lookup y.1=some .free))) && fv.all fun i=>decide (i<N.length) && decide (scope.names.lookup (N.getD i P2)=some .free)
theorem lms {X:Cx} {scope:Scope} {p:Str} {fv:List Nat} (h:qU8 scope p fv X.env.scope X.N=true):LmScope X scope p fv:=by
 unfold qU8 at h;simp only [J2,decide_eq_true_eq,G1,X0] at h;obtain ⟨⟨⟨⟨⟨⟨h1,h2⟩,h3⟩,h4⟩,h5⟩,h6⟩,h7⟩:=h;refine ⟨h1,h2,h3,h4,h5,fun y hy hf=>?_,h7⟩;rcases h6 y hy with z | z
 ·exact absurd hf z
 ·exact z
structure LTab where
 x:Str
 c:Addr
 P:Addr
 q:Str
def qcR (tabs:List LTab) (H:Hp):Prop:=∀ t ∈ tabs,H t.P=some (.tbl (.tab t.q))
def entH (a:Addr) (o:Obj) (xs:List V) (ina:Bool) (tabs:List LTab):Hp:=fun b=>if ina=true/\b=a then some (.frz o (.lst xs)) else (tabs.find? fun t=>decide (t.P=b)).map fun t=>.tbl (.tab t.q)
theorem qUB {K:Ab1} {mg mb:Ab0} {k:Nat} {fa a:Addr} {fd:B49} {x:Str} {sp:Sp} {vs:List Value} {ns:List Int} (tabs:List LTab)
  (KX:K.In s₁.heap) (hns:s₁.heap.Ns B40 mg) (hb:s₁.heap.Ns C06 mb) (hbb:∀ x:Str,x ≠ "__name__"->mb x=B33 x) (hlim:s₁.heap.NoLimit) (hg:s₁.gens=#[])
  (ha:s₁.heap.get? a=some { cls:=.type "list",data:=.seq vs.toArray }) (hi:B38 vs ns) (hl:ns.length<=B28) (hr:Room k callerA) (hbm:BM mg s₁.heap)
  (htab:∀ t ∈ tabs,PySem.W.CodeHd s₁.heap t.c t.P/\s₁.heap.get? t.P=some (A98 #[])) (hK:A39 K=true) (hone:∀ t ∈ tabs,∀ t' ∈ tabs,t.P=t'.P->t.q=t'.q)
  (F:∀ base:Heap,K.In base->base.Ns B40 mg->BM mg base->FnOk P w K mg base CX0 k fa fd [x] sp) (hbind:∀ (s:Shared) (u:Value),BindsTo s fd ⟨[u],[]⟩ [(x,u)])
  (hsp:∀ H:Hp,qcR tabs H->SqL K H a (ns.map V.int)->sp [.ref a] H (fun v _=>v=.bl true) fun _ _ _=>False) :
  B64 (model P w) callerA (.call (.ref fa) ⟨[.ref a],[]⟩) (fun r s'=>r=.ok (.ret (.bool true))/\OldK s₁.heap s'.heap/\s'.os=s₁.os/\AllBare s'.gens) s₁:=by
 have rv:=qIX hi;have lenV:=hi.length;have naP:∀ t ∈ tabs,t.P ≠ a:=fun t ht z=>by
  have:=(htab t ht).2;rw [z,ha] at this;cases this
 have KnP:∀ t ∈ tabs,K.lookup t.P=none:=fun t ht=>by
  cases e:K.lookup t.P with
  | none=>rfl
  | some o=>
   have e2:=KX _ _ e;rw [(htab t ht).2] at e2;cases e2;have h2:=G1.mp hK _ (PySem.W.mem_of_lookupK e);exact absurd (show false=true from h2) B4
 obtain ⟨ina,hina⟩:∃ ina:Bool,(ina=true ↔ K.lookup a=none):=by
  cases e:K.lookup a with
  | none=>exact ⟨true,by simp⟩
  | some o=>exact ⟨false,by simp⟩
 -- the heap's description
 let o0:Obj:={ cls:=.type "list",data:=.seq vs.toArray }
 have hdef:∀ b u,entH a o0 (ns.map V.int) ina tabs b=some u->(ina=true/\b=a/\u=.frz o0 (.lst (ns.map V.int)))\/∃ t ∈ tabs,t.P=b/\u=.tbl (.tab t.q):=fun b u e=>by
  unfold entH at e
  split at e
  ·rename_i c
   cases e;exact .inl ⟨c.1,c.2,rfl⟩
  ·cases e2:tabs.find? (fun t=>decide (t.P=b)) with
   | none=>rw [e2] at e;cases e
   | some t=>
    rw [e2] at e;cases e;exact .inr ⟨t,t9 e2,of_decide_eq_true (A93 (p:=fun t:LTab=>decide (t.P=b)) e2),rfl⟩
 have htb:∀ t ∈ tabs,entH a o0 (ns.map V.int) ina tabs t.P=some (.tbl (.tab t.q)):=fun t ht=>by
  unfold entH;rw [if_neg fun z=>naP t ht z.2];cases e2:tabs.find? (fun t'=>decide (t'.P=t.P)) with
  | none=>exact absurd (decide_eq_true (rfl:t.P=t.P)) (List.find?_eq_none.mp e2 t ht)
  | some t'=>
   have h1:=t9 e2;have h2:t'.P=t.P:=of_decide_eq_true (A93 (p:=fun t':LTab=>decide (t'.P=t.P)) e2);rw [Q8,hone t' h1 t ht h2]
 generalize hH:entH a o0 (ns.map V.int) ina tabs=H at hdef htb;have hS:SqL K H a (ns.map V.int):=by
  cases e:K.lookup a with
  | none=>
   refine .inl (.inr ⟨o0,?_⟩);rw [<- hH];unfold entH;rw [if_pos ⟨hina.mpr e,rfl⟩]
  | some o=>
   have e2:=KX a o e;rw [ha] at e2;cases e2;exact .inr ⟨_,vs.toArray,_,e,rfl,rfl,rfl,by rw [C0,lenV];exact hl,by simpa using rv⟩
 have hok:HOk P w H s₁.heap:=fun b u e=>by
  rcases hdef b u e with ⟨_,rfl,rfl⟩ | ⟨t,ht,rfl,rfl⟩
  ·exact ⟨ha,by rw [A0];exact hl,vs,_,rv,ha⟩
  ·exact ⟨#[],(htab t ht).2,trivial,fun pos cv z=>by cases z⟩
 have base_of:∀ {b:Addr} {o:Obj},s₁.heap.get? b=some o->H b=none->(hidT s₁.heap H).get? b=some o:=fun e n=>qXL e n;have noA:∀ {b:Addr} {o:Obj},s₁.heap.get? b=some o->(∀ xs n,o.data ≠ .seq xs n)->(∀ ps,o.data ≠ .fields ps)->H b=none:=fun {b o} e d1 d2=>by
  cases q:H b with
  | none=>rfl
  | some u=>
   rcases hdef b u q with ⟨_,rfl,_⟩ | ⟨t,ht,rfl,_⟩
   ·rw [ha] at e;cases e;exact absurd rfl (d1 _ _)
   ·rw [(htab t ht).2] at e;cases e;exact absurd rfl (d2 _)
 have nsK:∀ {b:Addr} {m:Ab0},s₁.heap.Ns b m->(hidT s₁.heap H).Ns b m:=fun {b m} ⟨o,es,ep,e,d,r⟩=>⟨o,es,ep,base_of e (noA e (fun _ _ z=>by rw [d] at z;cases z) fun _ z=>by rw [d] at z;cases z),d,r⟩
 have hKb:K.In (hidT s₁.heap H):=fun b o e=>base_of (KX b o e) (by
  cases q:H b with
  | none=>rfl
  | some u=>
   rcases hdef b u q with ⟨h1,rfl,_⟩ | ⟨t,ht,rfl,_⟩
   ·rw [hina.mp h1] at e;cases e
   ·rw [KnP t ht] at e;cases e)
 have hBb:BM mg (hidT s₁.heap H):=by
  obtain ⟨bm,ob,b1,b2,b3,b4,b5,b6⟩:=hbm;exact ⟨bm,ob,b1,b2,base_of b3 (noA b3 (fun _ _ z=>by rw [b6] at z;cases z) fun _ z=>by rw [b6] at z;cases z),b4,b5,b6⟩
 have hM:Mod K mg (hidT s₁.heap H):=⟨hKb,nsK hns,⟨mb,nsK hb,hbb⟩,let ⟨mc,h1,h2⟩:=hlim;⟨mc,nsK h1,h2⟩⟩
 have e0:Env0 P w K mg (hidT s₁.heap H) callerA [] s₁ H:=⟨rfl,hM,fun b o e=>qa4 e,Nat.le_of_eq (qUP _ _),trivial,fun b hb=>absurd (show b ∈ ([]:List Addr) from hb) (by simp),hok,.of_eq hg⟩
 refine B73 ((F _ hKb (nsK hns) hBb).run callerA [] s₁ H ⟨[.ref a],[]⟩ [.ref a] [.ref a] _ _ hr e0 (hbind s₁ (.ref a)) (.cons rfl .nil) (hsp H htb hS)) fun r s' h=>?_;cases r with
 | error e=>exact W2 h
 | ok fl=>
  cases fl with
  | next=>exact W2 h
  | brk=>exact W2 h
  | cont=>exact W2 h
  | ret u=>
   obtain ⟨v,H',os,bare,un,hok',r',q⟩:=h;have q':v=.bl true:=q;subst q';obtain rfl:u=Q3 true:=r';have kept:∀ b o,s₁.heap.get? b=some o->s'.heap.get? b=some o\/∃ t ∈ tabs,t.P=b:=fun b o e=>by
    cases q:H b with
    | none=>exact .inl (un.keep b o e q (by intro z;exact absurd (show b ∈ ([]:List Addr) from z) (by simp)) (by simp))
    | some u=>
     rcases hdef b u q with ⟨_,rfl,rfl⟩ | ⟨t,ht,e1,_⟩
     ·have z2:=un.frzs b o0 _ q;obtain ⟨e1,_⟩:=hok b _ q;obtain ⟨e2,_⟩:=hok' b _ z2;rw [e] at e1;cases e1;exact .inl e2
     ·exact .inr ⟨t,ht,e1⟩
   have tabK:∀ t ∈ tabs,∃ more,s'.heap.get? t.P=some (A98 more):=fun t ht=>by
    obtain ⟨more,e,_⟩:=(show ObjOk P w H' s'.heap t.P (.tbl (.tab t.q)) from hok' t.P _ (un.tbls t.P _ (htb t ht)));exact ⟨more,e⟩
   refine ⟨rfl,⟨fun b o e=>?_,fun b o e=>?_⟩,os,bare⟩
   ·rcases kept b o e with z | ⟨t,ht,rfl⟩
    ·exact .inl z
    ·obtain ⟨more,em⟩:=tabK t ht;have e2:=(htab t ht).2;rw [e] at e2;cases e2;exact .inr (.inl ⟨((htab t ht).1.tab (htab t ht).2).isCodeTable,rfl,#[],more,rfl,by rw [em];simp⟩)
   ·rcases kept b o e with z | ⟨t,ht,rfl⟩
    ·exact ⟨_,z⟩
    ·obtain ⟨more,em⟩:=tabK t ht;exact ⟨_,em⟩
theorem walk_ofT {l:PySem.W.OpenLaw} {n k:Nat} {loose:List Str} {XP:(Ab0)->Heap->Prop} {YP:World->Heap->Prop} {d:DefRec} {K:Params->Ab1} {sp:World->Sp} {x:Str} (tabs:List LTab)
  (hn:l.most=some n) (hn2:n<=B28) (hdf:d.params.defaults=[]) (hr:Room k callerA)
  (hY:∀ (w:World) (h:Heap),YP w h->(K w.params).In h)
  (hrec:∀ t ∈ tabs,((recsOf q).find? fun e=>e.name == t.x).isSome=true) (htab:∀ (w:World),∀ t ∈ tabs,B14 (K w.params) t.x=some (t.c,t.P)) (hK:∀ w:World,A39 (K w.params)=true) (hone:∀ t ∈ tabs,∀ t' ∈ tabs,t.P=t'.P->t.q=t'.q)
  (F:∀ (w:World) (mg:Ab0) (fa:Addr) (h:Heap),(K w.params).In h->h.Ns B40 mg->mg d.name=some (.ref fa)->
   ∃ fd:B49,(∀ (s:Shared) (u:Value),BindsTo s fd ⟨[u],[]⟩ [(x,u)])/\
    ∀ base:Heap,(K w.params).In base->base.Ns B40 mg->BM mg base->FnOk l.prog w (K w.params) mg base CX0 k fa fd [x] (sp w))
  (hsp:∀ (w:World) (H:Hp) (a:Addr) (ns:List Int),ns.length<=n->qcR tabs H->SqL (K w.params) H a (ns.map V.int)->sp w [.ref a] H (fun v _=>v=.bl true) fun _ _ _=>False) :
  PySem.W.WalkO q loose XP YP l.row.toRowW d [] (fun f vs=>B02 f vs):=by
 refine Att.attach_call hn hdf fun w s₀ s₁ mg mb fa o pm cd doc a vs ns G Y ho hd hcd hmg hobj hints hlen hg=>?_;have KX:=hY w _ Y;obtain ⟨fd,hb,hF⟩:=F w mg fa _ KX G.T.g hmg;refine qUB tabs KX G.T.g G.T.b G.T.builtins G.T.nolimit hg hobj hints (F6 hlen hn2) hr G.T.bmain (fun t ht=>?_) (hK w) hone hF hb fun H hO hS=>hsp w H a ns hlen hO hS;obtain ⟨dd,hdd⟩:=Z5.mp (hrec t ht);exact PySem.W.tab_of G.T KX hdd (htab w t ht)
section
variable {prog:B30} {w:World} {A:Around} {E:Aa1} {s:Shared}
end
section
variable {X:Cx}
end
section
open PySem.SeqAt
open PySem.AutoSeq1 (wpAny_loadPart')
open PySem.MeetsSeq PySem.MeetsSeq2 PySem.MeetsSeq3
theorem qP2:∀ ns:List Int,HT.lexLt ns ns=false
 | []=>rfl
 | x::ns=>by rw [HT.lexLt_cons,if_pos rfl];exact qP2 ns
theorem qJP:∀ {vs:List Value} {ns ms:List Int},B38 vs ns->B38 vs ms->ns=ms
 | _,_,_,.nil,.nil=>rfl
 | _,_,_,.cons a t h,.cons _ _ h'=>by rw [qJP h h']
theorem qGD:∀ {vs:List Value} {ns:List Int},B38 vs ns->∀ (j:Nat) (hj:j<vs.length),∃ n t,ns[j]?=some n/\vs[j]=.int n t
 | _,_,.cons a t h,0,_=>⟨a,t,rfl,rfl⟩
 | _,_,.cons a t h,j+1,hj=>qGD h j (Nat.lt_of_succ_lt_succ hj)
theorem qV7 {l b:Addr} {items items2:Array Value} {ns ms:List Int} (hl:IsTup s.heap l items) (hb:IsTup s.heap b items2) (hi:B38 items.toList ns) (hj:B38 items2.toList ms) (hu:A.units<cLine):EqAt A s (.ref l) (.ref b) (decide (ns=ms)):=by
 by_cases e:l=b
 ·subst e;obtain ⟨o,g1,_,n1,d1⟩:=hl;obtain ⟨o',g2,_,n2,d2⟩:=hb;rw [g1] at g2;cases g2;rw [d1] at d2;cases d2;rw [decide_eq_true (qJP hi hj)];exact EqAt.same _
 ·refine EqAt.of_refs e ?_;have z1:items.size=ns.length:=by rw [<- hi.length];simp
  have z2:items2.size=ms.length:=by rw [<- hj.length];simp
  have:=RcAt.tuples (A:=A) (s:=s) (e:=fun j=>decide (ns[j]?=ms[j]?)) hl hb hu (fun j h1 h2=>by
   obtain ⟨n,t,e1,e2⟩:=qGD hi j (by simpa using h1)
   obtain ⟨m,u,e3,e4⟩:=qGD hj j (by simpa using h2)
   have e2:items[j]=.int n t:=by simpa using e2
   have e4:items2[j]=.int m u:=by simpa using e4
   rw [e1,e3,e2,e4];have q:=EqAt.int_int (A:=A.in1) (s:=s) n t m u
   rwa [show (n == m)=decide (some n=some m) by simp [BEq.beq]] at q)
  rwa [show ((G2 (min items.size items2.size)).all (fun j=>decide (ns[j]?=ms[j]?)) && items.size == items2.size)=decide (ns=ms) by
   rw [J4,J2,G1,decide_eq_true_eq,beq_iff_eq]
   constructor
   ·rintro ⟨h1,h2⟩;refine A68 fun j=>?_;by_cases c:j<ns.length
    ·exact of_decide_eq_true (h1 j (F5.mpr (by lia)))
    ·rw [M6 (by lia),M6 (by lia)]
   ·rintro rfl;exact ⟨fun j _=>decide_eq_true rfl,by lia⟩] at this
theorem qLJ (l b x y:Addr) (a c:Int) (t u:Tok) (n n2:Nat) (dd dd2:Option Addr) (sl sl2:Array (Option Value)) (i1 i2:Array Value) (ns ms:List Int) (hi:B38 i1.toList ns) (hj:B38 i2.toList ms) :
  Meets (Builtin.«tuple.__lt__» ⟨[.ref l,.ref b],[]⟩)
   (fun A R s=>s.heap.get? l=some { cls:=.type "tuple",dict:=dd,data:=.seq #[.int a t,.ref x] n,slots:=sl }/\s.heap.get? b=some { cls:=.type "tuple",dict:=dd2,data:=.seq #[.int c u,.ref y] n2,slots:=sl2 }/\
    IsTup s.heap x i1/\IsTup s.heap y i2/\A.units+1<cLine/\R (.ok (.ret (.bool (HT.lexLt (a::ns) (c::ms))))) s):=
 .of_wp fun prog w A R s h=>by
  obtain ⟨hp,g,d,tk,os⟩:=s;obtain ⟨hl,hb,hx,hy,hu,h⟩:=h;have f2:=w6
  wp_walk using C09 hl,C09 hb,wpAny_forIn_list _ (fun rest b s'=>b.1=none/\s'=⟨hp,g,d,tk,os⟩/\((rest=[(Q6 a t,Q6 c u),(C7 x,C7 y)]/\R (.ok (.ret (.bool (HT.lexLt (a::ns) (c::ms))))) ⟨hp,g,d,tk,os⟩)\/
   (rest=[(C7 x,C7 y)]/\R (.ok (.ret (.bool (HT.lexLt ns ms)))) ⟨hp,g,d,tk,os⟩)\/(rest=[]/\R (.ok (.ret (.bool false))) ⟨hp,g,d,tk,os⟩))) _
  case turn=>
   rintro ⟨p,q⟩ rest b s' ⟨hb',rfl,⟨hz,hR⟩ | ⟨hz,hR⟩ | ⟨hz,hR⟩⟩
   ·cases hz;rw [HT.lexLt_cons] at hR;obtain ⟨e,he,hiff⟩:=HT.eqAt_int A.in1 ⟨hp,g,d,tk,os⟩ a t c u;refine B26 (he prog w _ _ ?_);cases e with
    | true=>
     rw [if_pos (hiff.mp rfl)] at hR
     wp_walk
     exact ⟨rfl,rfl,.inr (.inl ⟨rfl,hR⟩)⟩
    | false=>
     rw [if_neg (fun q=>absurd (hiff.mpr q) B4)] at hR;have hri:=HT.rcLt_int A.in1 ⟨hp,g,d,tk,os⟩ a t c u prog w
     wp_walk using hri
     exact ⟨_,rfl,by simpa using hR⟩
   ·cases hz;have he:=qV7 (A:=A.in1) (s:=⟨hp,g,d,tk,os⟩) hx hy hi hj hu;refine B26 (he prog w _ _ ?_);by_cases e:ns=ms
    ·rw [decide_eq_true e];subst e;rw [qP2] at hR
     wp_walk
     exact ⟨rfl,rfl,.inr (.inr ⟨rfl,hR⟩)⟩
    ·rw [decide_eq_false e];have hri:∀ (E:Aa1) (Q:Aa1),Q (.bool (HT.lexLt ns ms)) ⟨hp,g,d,tk,os⟩->wpAny (model prog w) A.in1 (richCompare .Lt (.ref x) (.ref y)) Q E ⟨hp,g,d,tk,os⟩:=fun E Q hq=>HT.lt_tupInts hx hy hi hj hu hq
     wp_walk using hri
     exact ⟨_,rfl,by simpa using hR⟩
   ·cases hz
  case fin=>
   rintro ⟨b1,b2⟩ s' ⟨hb',rfl,hh⟩;simp only at hb';subst hb';have hR:R (.ok (.ret (.bool false))) ⟨hp,g,d,tk,os⟩:=by
    rcases hh with ⟨z,_⟩ | ⟨z,_⟩ | ⟨_,z⟩
    ·cases z
    ·cases z
    ·exact z
   wp_walk
   exact ⟨_,rfl,by simpa [i3] using hR⟩
  case h=>
   exact ⟨rfl,rfl,.inl ⟨rfl,h⟩⟩
end
def KR2 (H:Hp) (y:V) (k:List Int):Prop:=∃ r q a ns,y=.ref r/\k=a::ns/\H r=some (.tup [.int a,.ref q])/\H q=some (.tup (ns.map V.int))
theorem qdS {X:Cx} (hu:X.A.in1.units+1<cLine):KCmp X KR2:=by
 refine ⟨fun H H' y k sm ⟨r,q,a,ns,e1,e2,g1,g2⟩=>⟨r,q,a,ns,e1,e2,sm _ _ g1,sm _ _ g2⟩,?_⟩;intro Ab σ s H y y' u u' k k' Q E I ry ry' ⟨r,q,a,ns,e1,e2,g1,g2⟩ ⟨r',q',a',ns',e1',e2',g1',g2'⟩ h;subst e1 e2 e1' e2';cases ry;cases ry';obtain ⟨its,r1,p1,_⟩:=I.tuple (Ac0 g1);obtain ⟨its',r1',p1',_⟩:=I.tuple (Ac0 g1');obtain ⟨js,r2,p2,_⟩:=I.tuple (Ac0 g2);obtain ⟨js',r2',p2',_⟩:=I.tuple (Ac0 g2');obtain ⟨v1,v2,rfl,⟨t,rfl⟩,c2⟩:=Vals.two r1;obtain ⟨v1',v2',rfl,⟨t',rfl⟩,c2'⟩:=Vals.two r1';cases c2;cases c2';have i1:B38 js.toArray.toList ns:=qFT r2;have i2:B38 js'.toArray.toList ns':=qFT r2';obtain ⟨⟨cls,dd,data,sl⟩,ho,hc,n,hd⟩:=id p1;obtain ⟨⟨cls2,dd2,data2,sl2⟩,ho2,hc2,n2,hd2⟩:=id p1';simp only at hc hd hc2 hd2;subst hc hd hc2 hd2;exact richCompare_meets_room (op:=.Lt) ⟨_,ho,rfl⟩ ⟨_,ho2,rfl⟩ W8 c9 (b7 _ _) (qLJ r r' q q' a a' t t' n n2 dd dd2 sl sl2 js.toArray js'.toArray ns ns' i1 i2)
  ⟨ho,ho2,p2,p2',hu,show Q3 (HT.lexLt (a::ns) (a'::ns')) ≠ A26/\Q (.bool (HT.lexLt (a::ns) (a'::ns'))) s from ⟨(fun x=>nomatch x),h⟩⟩ (by lia)
section
variable {X:Cx}
def qbB (P:Addr) (q:Str) (fv:List Nat) (te:TE) (KR:Hp->V->List Int->Prop) (ta:TA):TE:=fun σ H Q=>ta σ H fun vs H1=>H1 P=some (.tbl (.tab q))/\
 ∃ l xs ks m,vs=[.ref l]/\H1 l=some (.lst xs)/\ks.length=xs.length/\(∀ (i:Nat) (x:V) (k:List Int),xs[i]?=some x->ks[i]?=some k->∀ Hc,Sm0 H1 Hc->te (qHM fv σ x) Hc fun y H'=>Sm0 Hc H'/\KR H' y k)/\
  qbV (some .non) (xs.zip ks)=some m/\∀ H',Sm0 H1 H'->Q m H'
theorem qX2 {e:Expr} {ta:TA} {np pos kpos kpos2 lpos npos:Pos} {params:B59} {body:Expr} {scope:Scope} {c P:Addr} {q:Str} {p:Str} {fv:List Nat} {te:TE} {KR:Hp->V->List Int->Prop} {nn:Nat} 
  (rm:Room 1 X.A) (hc:X.calm=true) (hg:Gl X "min") (hm:X.mg "min" = none) (hv:B33 "min" = some (.builtin "min")) (hb:BM X.mg X.base) (hcode:X.env.code=.ref c) (hd:hdIn X.K c P=true) (hq:X.env.qual ++ "<lambda>" = q)
  (S:LmScope X scope p fv) (hdef:defaultsOf params X.env=([],[])) (hbind:∀ (cl:List (Str × Addr)) (pm cd ct u:Value),B89 (Y7 "<lambda>" q params body scope cl pm cd ct) ⟨[u],[]⟩=pure [(p,u)])
  (KC:KCmp X KR) (ha:PA X [e] ta) (he:∀ z,PE (lmCx X scope p fv q z) body te) (hn:PE X (.Constant .none nn npos) (tC .non)) (hs:B35 [e] X.env=[(false,eval e X.env)]:=by rfl) :
  PE X (.Call (.Name "min" np) [e] [⟨some "key",.Lambda params body scope lpos,kpos⟩,⟨some "default",.Constant .none nn npos,kpos2⟩] pos) (qbB P q fv te KR ta):=by
 intro Ab s σ H Q I h;refine B90 (qG4 I hg hm hv ?_ (by decide) (by decide))
 refine PyProof.Rows.callWith_kw (thn (ha pos Ab s σ H _ I h) fun us s1 ⟨vs,H1,I1,r1,q1⟩=>?_) (by rw [hs];rfl) (by rw [hs];rfl)
 obtain ⟨hP,l,xs,ks,m,rfl,hl,lk,hk,em,q2⟩:=q1;obtain ⟨u,rfl,rx⟩:=qDS r1;cases rx;have C:=qVJ (c:=c) (P:=P) I1.ok.mod.kin hd;have pl:=qbX (X:=X) (pos:=lpos) (body:=body) hb hcode C hq S hdef;refine thn (qTJ (kpos:=kpos) (nm:=some "key") pl (qTJ (kpos:=kpos2) (nm:=some "default") hn qbT) pos Ab s1 σ H1 (fun zs H2=>∃ f cc ctv,zs=[.ref f,.non]/\Sm0 H1 H2/\H2 f=some (LamF X q params body scope cc ctv f)/\H2 cc=some (.tbl (.cod q))) I1 ⟨hP,fun f cc ctv H' sm h0 hf hcc=>⟨f,cc,ctv,rfl,sm,hf,hcc⟩⟩) fun ws s2 ⟨zs,H2,I2,rz,f,cc,ctv,ez,sm,hf,hcc⟩=>?_;subst ez;obtain ⟨u2,u3,rfl,r2,r3⟩:=Vals.two rz;cases r2;cases r3;have hA:X.A.in1.frames=some X.stack:=I2.ok.frames;exact qOZ (H:=H2) hc rm hA S hbind he KC ⟨lk,fun i x k hx hk' Hc smc=>hk i x k hx hk' Hc fun b o e=>smc b o (sm b o e)⟩ hf hcc (Ab2 (sm _ _ hl)) (fun H' smc=>Ab2 (smc _ _ (sm _ _ hl))) I2
  (by unfold argsOk;kernel_rfl) (some .none) rfl (some .non) (.inr ⟨.non,.none,rfl,rfl,rfl⟩) m em fun H' smc=>q2 H' fun b o e=>smc b o (sm b o e)
end
end L2
namespace L2.G
open PySem PySem.Spec PyProof.Rows
section
variable [NM]
variable {prog:B30} {w:World} {A:Around} {E:Aa1} {s:Shared}
theorem qHL {vs:List Value} :∀ p ∈ (B66 vs).toList,p.1=p.2:=by
 intro p hp;unfold B66 at hp;rw [A81] at hp
 induction vs with
 | nil=>cases hp
 | cons v vs ih=>
  rcases C1.mp hp with h | h
  ·rw [h]
  ·exact ih h
theorem qNB (vs:List Value):(B66 vs).toList.map (·.2)=vs:=by
 unfold B66;rw [A81,List.map_snd_zip (by simp)]
theorem qTU {vs:List Value} {xs:Array Keyed} (px:xs.Perm (B66 vs)) (sx:qH9 xs (B66 vs).size):(xs.map (·.2)).toList.Perm vs/\(xs.map (·.2)).toList.Pairwise (fun u v=>NM.nm u<=NM.nm v):=by
 have p2:=Y0.mp px
 constructor
 ·have:=p2.map (·.2);rw [qNB] at this;rw [A82];exact this
 ·rw [A82,O4,F9];intro i j hi hj hij;have hs:=px.size_eq;have hi2:i<xs.size:=by simpa using hi
  have hj2:j<xs.size:=by simpa using hj
  have a:=sx i j (R8 hij) (by lia)
  rw [qaI hi2,qaI hj2] at a;have ei:=qHL _ (p2.mem_iff.mp (show xs[i] ∈ xs.toList by simp))
  have ej:=qHL _ (p2.mem_iff.mp (show xs[j] ∈ xs.toList by simp))
  rw [ei,ej] at a;simpa using a
theorem qQ8 {κ0:B61} {a:Addr} {vs:List Value} {n:Nat} {P:Fin->Shared->Prop} (e0:s.heap.get? a=some (seqObj "list" vs.toArray n)) (hz:vs.length<=B28) (gd:∀ v ∈ vs,NM.good v)
  (hk:∀ h':Heap,(∀ (b:Addr) (o:Obj),b ≠ a->s.heap.get? b=some o->h'.get? b=some o)->2<=vs.length->(∀ {Q:B61->Shared->Prop},Q κ0 { s with heap:=h' }->wpAny (model prog w) A (keyKind' vs.toArray) Q E { s with heap:=h' })/\LtOk prog w A { s with heap:=h' } κ0)
  (h:∀ (out:Array Value),out.toList.Perm vs->out.toList.Pairwise (fun u v=>NM.nm u<=NM.nm v)->P (.done (.ret .none)) { s with heap:=sortedHeap s.heap a vs out }):wpAny (model prog w) A (Builtin.«list.sort» ⟨[.ref a],[]⟩) P E s:=by
 have la:=A9 e0;have z0:vs.toArray.size<=B28:=by simpa using hz
 rw [list_sort_plain];refine B26 (listItems_at e0 rfl (B26 (listUpdate_at e0 rfl ?_ z0 (E5 _))));have e1:∃ k,(s.heap.update a (U9 fun _=>#[])).get? a=some (seqObj "list" #[] k):=⟨_,get?_update_seq e0 fun _=>#[]⟩;obtain ⟨k,e1⟩:=e1;refine B26 (seqEpoch_at e1 rfl (B26 (wpAny_newTuple ?_ (by simpa using hz))))
 refine B26 (wpAny_newList (B34 ?_));have e2:(((s.heap.update a (U9 fun _=>#[])).push (seqObj "tuple" vs.toArray 0)).push (seqObj "list" #[] 0)).get? a=some (seqObj "list" #[] k):=by
  rw [A69,A69]
  ·exact e1
  ·rw [A83];exact C2 la
  ·rw [size_push',A83];exact C2 (V1 la)
 have kept:∀ (b:Addr) (o:Obj),b ≠ a->s.heap.get? b=some o->(((s.heap.update a (U9 fun _=>#[])).push (seqObj "tuple" vs.toArray 0)).push (seqObj "list" #[] 0)).get? b=some o:=fun b o hb q=>
  A3 _ (A3 _ ((Heap.get?_update_ne _ _ _ _ hb).trans q))
 have last:∀ xs:Array Keyed,xs.Perm (B66 vs)->qH9 xs (B66 vs).size->P (.done (.ret .none)) { s with heap:=sortedHeap s.heap a vs (xs.map (·.2)) }:=by
  intro xs px sx;obtain ⟨q1,q2⟩:=qTU px sx;exact h _ q1 q2
 have sz:∀ xs:Array Keyed,xs.Perm (B66 vs)->(xs.map (·.2)).size<=B28+1:=by
  intro xs px;rw [Array.size_map,px.size_eq,pairsOf_size]
  lia
 show wpAny _ A _ P E { s with heap:=((s.heap.update a (U9 fun _=>#[])).push (seqObj "tuple" vs.toArray 0)).push (seqObj "list" #[] 0) };dsimp only;by_cases few:vs.toArray.size<2
 ·simp only [if_pos few];refine B26 (B27 ?_);rw [StateT.run_pure];refine B26 (B27 (B26 (seqEpoch_at e2 rfl (B26 (listUpdate_at e2 rfl ?_ (E5 _) (sz (B66 vs) (.refl _)))))));simp only [bne_self_eq_false,G7,if_false];refine B27 (last (B66 vs) (.refl _) fun i j hij hj=>?_);rw [pairsOf_size] at hj;rw [C0] at few;rw [show i=j by lia]
  exact P1 _
 ·simp only [if_neg few];rw [C0] at few;obtain ⟨hk1,hk2⟩:=hk _ kept (by lia)
  have ik:qC4 (B66 vs):=fun p hp=>by
   have m:=R1 (f:=(·.2)) hp;rw [qNB] at m;rw [qHL p hp];exact gd _ m
  refine B26 (hk1 (B26 (B42 (qUQ (κ0:=κ0) (a₀:=B66 vs) (Q:=fun _ st2=>gSG κ0 (B66 vs) st2/\qH9 (arrOf st2) (B66 vs).size) ik ⟨.refl _,rfl,rfl⟩ rfl fun st2 g u=>⟨g,u⟩) ?_ fun _ _ x=>x)));rintro ⟨_,st2⟩ s2 ⟨es,g,u⟩;cases (show s2=_ from es);refine B26 (seqEpoch_at e2 rfl (B26 (listUpdate_at e2 rfl ?_ (E5 _) (sz _ g.perm))));dsimp only;rw [g.failed];simp only [bne_self_eq_false,G7,if_false];exact B27 (last _ g.perm u)
end
theorem qL1:∀ a:List Int,HT.lexLt a a=false
 | []=>rfl
 | x::a=>by rw [HT.lexLt_cons,if_pos rfl];exact qL1 a
theorem qJJ:∀ a b c:List Int,HT.lexLt a b=true->HT.lexLt b c=true->HT.lexLt a c=true
 | [],[],_,h,_=>by cases h
 | [],_::_,[],_,h=>by cases h
 | [],_::_,_::_,_,_=>rfl
 | _::_,[],_,h,_=>by cases h
 | _::_,_::_,[],_,h=>by cases h
 | x::a,y::b,z::c,h1,h2=>by
  rw [HT.lexLt_cons] at h1 h2 ⊢;by_cases e1:x=y
  ·subst e1;rw [if_pos rfl] at h1;by_cases e2:x=z
   ·rw [if_pos e2] at h2 ⊢;exact qJJ a b c h1 h2
   ·rw [if_neg e2] at h2 ⊢;exact h2
  ·rw [if_neg e1] at h1;have h1:=of_decide_eq_true h1;by_cases e2:y=z
   ·subst e2;rw [if_neg e1];exact decide_eq_true h1
   ·rw [if_neg e2] at h2;have h2:=of_decide_eq_true h2;rw [if_neg (by lia)]
    exact decide_eq_true (by lia)
theorem lexLt_tri:∀ a b:List Int,HT.lexLt a b=false->HT.lexLt b a=false->a=b
 | [],[],_,_=>rfl
 | [],_::_,h,_=>by cases h
 | _::_,[],_,h=>by cases h
 | x::a,y::b,h1,h2=>by
  rw [HT.lexLt_cons] at h1 h2;by_cases e:x=y
  ·subst e;rw [if_pos rfl] at h1 h2;rw [lexLt_tri a b h1 h2]
  ·rw [if_neg e] at h1;rw [if_neg (fun z=>e z.symm)] at h2;have:=of_decide_eq_false h1;have:=of_decide_eq_false h2
   lia
def qID (L:Aa0) (a:List Int):Int:=(((L.filter fun x=>HT.lexLt x a).length:Nat):Int)
theorem qH1 {α:Type} {p q:α->Bool} :∀ {L:List α},(∀ x ∈ L,p x=true->q x=true)->(∃ x ∈ L,p x=false/\q x=true)->(L.filter p).length<(L.filter q).length
 | [],_,⟨x,hx,_⟩=>nomatch hx
 | y::L,h,⟨x,hx,h1,h2⟩=>by
  have le:∀ {M:List α},(∀ x ∈ M,p x=true->q x=true)->(M.filter p).length<=(M.filter q).length:=by
   intro M hM
   induction M with
   | nil=>exact A6 _
   | cons z M ih=>
    have i:=ih fun x hx=>hM x (C3 _ hx);rw [R6,R6];cases ep:p z
    ·cases q z
     ·simpa using i
     ·simp;lia
    ·rw [hM z (by simp) ep]
     simpa using i
  rw [R6,R6];rcases C1.mp hx with e | e
  ·subst e;have:=le fun x hx=>h x (C3 _ hx);rw [h1,h2];simp
   lia
  ·have i:=qH1 (fun x hx=>h x (C3 _ hx)) ⟨x,e,h1,h2⟩;cases ep:p y
   ·cases q y
    ·simpa using i
    ·simp;lia
   ·rw [h y (by simp) ep]
    simpa using i
theorem qTE {L:Aa0} {a b:List Int} (ha:a ∈ L) (h:HT.lexLt a b=true):qID L a<qID L b:=by
 unfold qID;have:=qH1 (p:=fun x=>HT.lexLt x a) (q:=fun x=>HT.lexLt x b) (L:=L) (fun x _ hx=>qJJ _ _ _ hx h) ⟨a,ha,qL1 a,h⟩
 lia
theorem qQC {L:Aa0} {a b:List Int} (ha:a ∈ L) (hb:b ∈ L):decide (qID L a<qID L b)=HT.lexLt a b:=by
 cases h:HT.lexLt a b with
 | true=>exact decide_eq_true (qTE ha h)
 | false=>
  refine decide_eq_false fun z=>?_;cases h2:HT.lexLt b a with
  | true=>have:=qTE hb h2;lia
  | false=>rw [lexLt_tri a b h h2] at z;lia
def qXI (xs:List V):List Int:=xs.map fun | .int i=>i | _=>0
theorem qUN (t:List Int):qXI (t.map V.int)=t:=by
 unfold qXI;rw [Z9];exact (R3 fun x _=>rfl).trans (List.map_id _)
def keyH (H:Hp):Value->List Int
 | .ref r=>match H r with
  | some (.tup xs)=>qXI xs
  | _=>[]
 | _=>[]
@[reducible] def tupNM (H:Hp) (L:Aa0):NM:=⟨fun v=>qID L (keyH H v),fun v=>∃ r t,v=.ref r/\H r=some (.tup (t.map V.int))/\t ∈ L⟩
theorem keyH_at {H:Hp} {r:Addr} {t:List Int} (h:H r=some (.tup (t.map V.int))):keyH H (.ref r)=t:=by
 show (match H r with | some (.tup xs)=>qXI xs | _=>[])=t
 rw [h];exact qUN t
section
variable {prog:B30} {w:World} {A:Around} {E:Aa1} {s:Shared}
theorem qU0 {x y:Addr} {xs ys:Array Value} {ns ms:List Int} {Q:Bool->Shared->Prop} (hu:A.units<cLine) (hx:IsTup s.heap x xs) (hy:IsTup s.heap y ys) (ix:B38 xs.toList ns) (iy:B38 ys.toList ms) (h:Q (HT.lexLt ns ms) s):wpAny (model prog w) A (oneLt' true (.ref x) (.ref y)) Q E s:=by
 rw [oneLt'_eq];simp only [if_true];obtain ⟨⟨cls,dd,data,sl⟩,ho,hc,n,hd⟩:=id hx;obtain ⟨⟨cls2,dd2,data2,sl2⟩,ho2,hc2,n2,hd2⟩:=id hy;simp only at hc hd hc2 hd2;subst hc hd hc2 hd2;refine B26 (wpAny_cRoomFor hu ?_);refine B26 (wpAny_callSpecialIfBound?_slot ⟨_,ho,rfl⟩ W8 (B93 W8 ⟨_,ho,rfl⟩ c9 (b7 _ _) (HT.tuple_lt_ints x y xs ys n n2 dd dd2 sl sl2 ns ms ix iy) ⟨ho,ho2,?_⟩));exact B41 h
theorem qJM {b:Bool} {Q:Bool->Shared->Prop} :∀ {vs ws:List Value} {ns ms:List Int} {i:Nat} {fin:Bool},B38 vs ns->B38 ws ms->
  (fin=decide (vs.length<ws.length))->Q (HT.lexLt ns ms) s->PySem.W.KatLex prog w A b fin Q (vs.zip ws) i s
 | _,_,_,_,i,fin,.nil,.nil,ef,h=>by
  rw [ef];exact A18 h
 | _,_,_,_,i,fin,.nil,.cons _ _ _,ef,h=>by
  rw [ef];exact A18 h
 | _,_,_,_,i,fin,.cons _ _ _,.nil,ef,h=>by
  rw [ef];exact A18 h
 | _,_,_,_,i,fin,.cons (vs:=vs) (ns:=ns) x t hv,.cons (vs:=ws) (ns:=ms) y u hw,ef,h=>by
  rw [p7];refine PySem.W.kat_cons (wpAny_eqBool_int ?_);rw [HT.lexLt_cons] at h;by_cases e:x=y
  ·rw [if_pos e] at h;rw [beq_iff_eq.mpr e];refine PySem.W.kat_yes (qJM hv hw ?_ h);rw [ef];simp
  ·rw [if_neg e] at h;rw [beq_eq_false_iff_ne.mpr e];refine PySem.W.kat_no ?_;cases eb:(b && i == 0) with
   | true=>exact oneLt_int h
   | false=>exact PySem.W.kat_one _ _ (lt_int h)
theorem qS6 {x y:Addr} {xs ys:Array Value} {ns ms:List Int} {b:Bool} {Q:Bool->Shared->Prop} (hx:IsTup s.heap x xs) (hy:IsTup s.heap y ys) (ix:B38 xs.toList ns) (iy:B38 ys.toList ms) (h:Q (HT.lexLt ns ms) s):wpAny (model prog w) A (keyLt' (tuples' b) (.ref x) (.ref y)) Q E s:=by
 obtain ⟨o,ho,hc,n,hd⟩:=id hx;obtain ⟨o2,ho2,hc2,n2,hd2⟩:=id hy;refine PySem.W.kat_lt ho hd ho2 hd2 (qJM ix iy ?_ h);simp
theorem qUF {rs:List Addr} {ts:Aa0} {Q:B61->Shared->Prop} (h:Paired (fun (r:Addr) (t:List Int)=>∃ xs:Array Value,IsTup s.heap r xs/\B38 xs.toList t) rs ts) (hne:∀ t ∈ ts,t ≠ []) (h2:2<=rs.length)
  (q:Q (tuples' true) s):wpAny (model prog w) A (keyKind' (rs.map C7).toArray) Q E s:=by
 have tu:∃ fs,PySem.W.KatTups s.heap (rs.map C7) fs/\fs.length=rs.length/\∀ v ∈ fs,∃ n t,v=.int n t:=by
  clear h2
  induction h with
  | nil=>exact ⟨[],trivial,rfl,fun _ z=>nomatch z⟩
  | @cons r t l1 l2 a _ ih=>
   obtain ⟨fs,k1,k2,k3⟩:=ih fun t ht=>hne t (C3 _ ht);obtain ⟨xs,⟨o,ho,hc,n,hd⟩,ia⟩:=a;have ht:t ≠ []:=hne t (by simp)
   obtain ⟨xs⟩:=xs;cases ia with
   | nil=>exact absurd rfl ht
   | cons x tk rest=>
    refine ⟨.int x tk::fs,.cons ho hc hd rfl k1,by simp [k2],fun v hv=>?_⟩
    rcases C1.mp hv with e | e
    ·exact ⟨x,tk,e⟩
    ·exact k3 v e
 obtain ⟨fs,k1,k2,k3⟩:=tu;refine PySem.W.kat_kind (T:=.type "int") k1 (by lia) (fun v hv=>?_) rfl ?_
 ·obtain ⟨n,t,rfl⟩:=k3 v hv;exact .now
 ·exact q
theorem qL8:∀ (rs:List Addr) {Q:List (Option Value)->Shared->Prop},(∀ r ∈ rs,∃ xs:Array Value,IsTup s.heap r xs)->(∀ L,Q L s)->wpAny (model prog w) A ((rs.map C7).mapM firstOfTuple') Q E s
 | [],_,_,h=>by rw [p8,List.mapM_nil];exact B27 (h _)
 | r::rs,Q,t,h=>by
  obtain ⟨xs,o,ho,hc,n,hd⟩:=t r (by simp)
  rw [D0,A99];refine B26 ?_;rw [A32];refine B26 (t0 (show PySem.W.Looks (model prog w) s.heap (typeOf (.ref r)) o.cls from (A09 ho).andThen .now) ?_);rw [hc,if_neg (by first | decide | simp)]
  refine B26 (listItems_at ho hd (B27 ?_));exact B26 (qL8 rs (Q:=fun bs s'=>wpAny (model prog w) A (pure (xs[0]?::bs)) Q E s') (fun r hr=>t r (C3 _ hr)) fun L=>B27 (h _))
theorem qS5 {r0:Addr} {rs:List Addr} {Q:B61->Shared->Prop} (h0:IsTup s.heap r0 #[]) (h:∀ r ∈ rs,∃ xs:Array Value,IsTup s.heap r xs)
  (q:Q oneType' s):wpAny (model prog w) A (keyKind' ((r0::rs).map C7).toArray) Q E s:=by
 rw [kat_kind_eq,A70,map_eq_pure_bind,D0,A99];obtain ⟨o,ho,hc,n,hd⟩:=id h0;refine B26 (B26 (B26 ?_));rw [A32];refine B26 (t0 (show PySem.W.Looks (model prog w) s.heap (typeOf (.ref r0)) o.cls from (A09 ho).andThen .now) ?_);rw [hc,if_neg (by first | decide | simp)]
 refine B26 (listItems_at ho hd (B27 ?_));refine B26 (qL8 rs h fun L=>B27 (B27 ?_));have e1:((((#[]:Array Value)[0]?)::L).toArray.all fun x=>x.isSome)=false:=by simp
 have e2:((((((#[]:Array Value)[0]?)::L).toArray)[0]?).bind id).isSome=false:=by simp
 rw [if_neg (by rw [e1];exact B4),if_neg (by rw [e2];exact B4)]
 rw [oneTypeOnly'_eq,A70,map_eq_pure_bind];refine B26 (B26 (B26 (PySem.W.kas_mapM (r:=U6 "tuple") _ (fun v hv Q' hq=>?_) (B27 ?_))))
 ·rw [<- D0] at hv;obtain ⟨r,hr,rfl⟩:=D5.mp hv;have:∃ xs:Array Value,IsTup s.heap r xs:=by
   rcases C1.mp hr with e | e
   ·rw [e];exact ⟨_,h0⟩
   ·exact h r e
  obtain ⟨xs,o2,ho2,hc2,n2,hd2⟩:=this;refine t0 (show PySem.W.Looks (model prog w) s.heap (typeOf (.ref r)) o2.cls from (A09 ho2).andThen .now) ?_;rw [hc2];exact hq
 ·have h0':(B15 (fun _=>U6 "tuple") (C7 r0::B15 C7 rs)).toArray[0]?=some (U6 "tuple"):=by simp
  have hall2:((B15 (fun _=>U6 "tuple") (C7 r0::B15 C7 rs)).toArray.all fun x=>x == U6 "tuple")=true:=by
   simp only [List.all_toArray,List.all_map,G1];intro _ _
   rfl
  rw [h0'];simp only [hall2,if_true];exact B27 (B27 q)
end
section
variable {X:Cx}
abbrev qG6 (H:Hp) (rs:List Addr) (ts:Aa0):Prop:=Paired (fun (r:Addr) (t:List Int)=>H r=some (.tup (t.map V.int))) rs ts
theorem qGN:∀ {rs:List Addr} {its:List Value},Vals (rs.map V.ref) its->its=rs.map C7
 | [],_,.nil=>rfl
 | r::rs,_,.cons h t=>by
  rw [D0,<- qGN t];have:_=C7 r:=h;rw [this]
def qIA:Value->Addr
 | .ref a=>a
 | _=>0
theorem qN5:∀ {vs:List Value},(∀ v ∈ vs,∃ a,v=.ref a)->(vs.map qIA).map C7=vs
 | [],_=>rfl
 | v::vs,h=>by
  obtain ⟨a,rfl⟩:=h v (by simp)
  rw [D0,D0,qN5 fun v hv=>h v (C3 _ hv)]
  rfl
theorem qPV {H:Hp} :∀ {rs:List Addr} {ts:Aa0},qG6 H rs ts->ts=rs.map fun r=>keyH H (.ref r)
 | _,_,.nil=>rfl
 | _,_,.cons h t=>by rw [D0,keyH_at h,<- qPV t]
theorem qSZ {H:Hp} :∀ {rs:List Addr},(∀ r ∈ rs,∃ t:List Int,H r=some (.tup (t.map V.int)))->qG6 H rs (rs.map fun r=>keyH H (.ref r))
 | [],_=>.nil
 | r::rs,h=>by
  obtain ⟨t,e⟩:=h r (by simp)
  exact .cons (by dsimp only;rw [keyH_at e];exact e) (qSZ fun r hr=>h r (C3 _ hr))
theorem qII {H:Hp} :∀ {rs:List Addr} {ts:Aa0},qG6 H rs ts->∀ {r:Addr},r ∈ rs->∃ t,t ∈ ts/\H r=some (.tup (t.map V.int))
 | _,_,.nil,_,h=>nomatch h
 | _,_,.cons (b:=t) g T,r,h=>by
  rcases C1.mp h with e | e
  ·exact ⟨t,by simp,by rw [e];exact g⟩
  ·obtain ⟨t,h1,h2⟩:=qII T e;exact ⟨t,C3 _ h1,h2⟩
theorem qT9 {Ab:Aa2} {σ:St} {H:Hp} {Q:VK} {rs:List Addr} {ts:Aa0} {D:Addr} (I:Inv X Ab σ (Ag H D (.lst (rs.map V.ref))) s) (hD:H D=none) (T:qG6 H rs ts)
  (hk:(∀ t ∈ ts,t ≠ [])\/∃ ts',ts=[]::ts') (hu:A.units+8<cLine)
  (q:∀ rs' ts',rs'.Perm rs->qG6 H rs' ts'->ts'.Perm ts->ts'.Pairwise (fun a b=>HT.lexLt b a=false)->Q (.ref D) (Ag H D (.lst (rs'.map V.ref)))) :
  wpAny (model X.prog X.w) A (call (.builtin "list.sort") [.ref D]) (fun _ s'=>EP X Ab σ Q (.ref D) s') E s:=by
 obtain ⟨z,its,n,rv,hl,e⟩:=I.lstM qA1;have ei:=qGN rv;subst ei;have hz:(rs.map C7).length<=B28:=by simpa using z
 letI:NM:=tupNM H ts
 have gd:∀ v ∈ rs.map C7,NM.good v:=fun v hv=>by
  obtain ⟨r,hr,rfl⟩:=D5.mp hv;obtain ⟨t,ht,g⟩:=qII T hr;exact ⟨r,t,rfl,g,ht⟩
 have tat:∀ (h':Heap),(∀ (b:Addr) (o:Obj),b ≠ D->s.heap.get? b=some o->h'.get? b=some o)->∀ (r:Addr) (t:List Int),H r=some (.tup (t.map V.int))->∃ xs:Array Value,IsTup h' r xs/\B38 xs.toList t:=by
  intro h' kept r t g;have nr:r ≠ D:=qA6 g hD;obtain ⟨its,r1,⟨o,ho,hc,n,hd⟩,_⟩:=I.tuple (Ac0 (show (Ag H D (.lst (rs.map V.ref))) r=some (.tup (t.map V.int)) by rw [qA9 nr];exact g))
  exact ⟨its.toArray,⟨o,kept r o nr ho,hc,n,hd⟩,qFT r1⟩
 have lt_ok:∀ (A':Around) (h':Heap) (κ:B61),(∀ (x y:Addr) (xs ys:Array Value) (ns ms:List Int) (Q:Bool->Shared->Prop) (E:Aa1),IsTup h' x xs->IsTup h' y ys->B38 xs.toList ns->B38 ys.toList ms->Q (HT.lexLt ns ms) { s with heap:=h' }->wpAny (model X.prog X.w) A' (keyLt' κ (.ref x) (.ref y)) Q E { s with heap:=h' })->
   (∀ (b:Addr) (o:Obj),b ≠ D->s.heap.get? b=some o->h'.get? b=some o)->LtOk X.prog X.w A' { s with heap:=h' } κ:=by
  intro A' h' κ rule kept;refine ⟨fun {x y Q E} hx hy h=>?_⟩;obtain ⟨r1,t1,rfl,g1,m1⟩:=hx;obtain ⟨r2,t2,rfl,g2,m2⟩:=hy;obtain ⟨xs,i1,j1⟩:=tat h' kept r1 t1 g1;obtain ⟨ys,i2,j2⟩:=tat h' kept r2 t2 g2;refine rule r1 r2 xs ys t1 t2 Q E i1 i2 j1 j2 ?_;have e1:NM.nm (C7 r1)=qID ts t1:=by show qID ts (keyH H (.ref r1))=_;rw [keyH_at g1]
  have e2:NM.nm (C7 r2)=qID ts t2:=by show qID ts (keyH H (.ref r2))=_;rw [keyH_at g2]
  rw [e1,e2,qQC m1 m2] at h;exact h
 have fin:∀ out:Array Value,out.toList.Perm (rs.map C7)->out.toList.Pairwise (fun u v=>NM.nm u<=NM.nm v)->EP X Ab σ Q (.ref D) { s with heap:=sortedHeap s.heap D (rs.map C7) out }:=by
  intro out p1 p2;have refs:∀ v ∈ out.toList,∃ a,v=C7 a:=fun v hv=>by
   obtain ⟨r,_,er⟩:=D5.mp (p1.mem_iff.mp hv);exact ⟨r,er.symm⟩
  have back:=qN5 refs;have p3:(out.toList.map qIA).Perm rs:=by
   have:=p1.map qIA;rw [Z9] at this;have e:rs.map (qIA ∘ C7)=rs:=(R3 fun x _=>rfl).trans (List.map_id _)
   rwa [e] at this
  obtain ⟨e2,hat⟩:=sortedHeap_at (vs:=rs.map C7) (out:=out) e;have T':qG6 H (out.toList.map qIA) ((out.toList.map qIA).map fun r=>keyH H (.ref r)):=qSZ fun r hr=>by
   obtain ⟨t,_,g⟩:=qII T (p3.mem_iff.mp hr);exact ⟨t,g⟩
  have p4:((out.toList.map qIA).map fun r=>keyH H (.ref r)).Perm ts:=by
   have:=p3.map fun r=>keyH H (.ref r);rw [<- qPV T] at this;exact this
  have p5:((out.toList.map qIA).map fun r=>keyH H (.ref r)).Pairwise (fun a b=>HT.lexLt b a=false):=by
   rw [<- back,O4] at p2;rw [O4];refine p2.imp_of_mem fun {a b} ha hb le=>?_;have ma:keyH H (.ref a) ∈ ts:=p4.mem_iff.mp (D5.mpr ⟨a,ha,rfl⟩);have mb:keyH H (.ref b) ∈ ts:=p4.mem_iff.mp (D5.mpr ⟨b,hb,rfl⟩);have le:qID ts (keyH H (.ref a))<=qID ts (keyH H (.ref b)):=le;rw [<- qQC mb ma];exact decide_eq_false (by lia)
  refine ⟨.ref D,Ag H D (.lst ((out.toList.map qIA).map V.ref)),?_,rfl,q _ _ p3 T' p4 p5⟩;have hu:Ag (Ag H D (.lst (rs.map V.ref))) D (.lst ((out.toList.map qIA).map V.ref))=Ag H D (.lst ((out.toList.map qIA).map V.ref)):=qIY;rw [<- hu];refine I.write (x:=D) (e:=D) (t':=s.toks) (by rw [qA1];exact trivial) (.inl rfl) (fun b u hb hbu=>?_) ⟨_,hat⟩ ?_
  ·rw [sortedHeap_old hb (A9 hbu)];exact hbu
  ·refine ⟨?_,out.toList,e2,?_,by simpa using hat⟩
   ·rw [A0,p3.length_eq];simpa using z
   ·have:=qIW (out.toList.map qIA);rw [back] at this;exact this
 rcases hk with hk | ⟨ts',hk⟩
 ·refine B37 slot_list_sort ⟨_,e,rfl⟩ entry_list_sort (qQ8 (κ0:=tuples' true) (n:=n) e hz gd (fun h' kept h2=>⟨fun {Q} hq=>?_,lt_ok _ h' _ (fun x y xs ys ns ms Q E i1 i2 j1 j2 hq=>qS6 i1 i2 j1 j2 hq) kept⟩) fun out p1 p2=>⟨_,rfl,fin out p1 p2⟩) (args_list_sort _);refine qUF (s:={ s with heap:=h' }) (ts:=ts) ?_ hk (by simpa using h2) hq
  exact Paired.mapP T fun r t g=>tat h' kept r t g
 ·refine B37 slot_list_sort ⟨_,e,rfl⟩ entry_list_sort (qQ8 (κ0:=oneType') (n:=n) e hz gd (fun h' kept h2=>⟨fun {Q} hq=>?_,lt_ok _ h' _ (fun x y xs ys ns ms Q E i1 i2 j1 j2 hq=>?_) kept⟩) fun out p1 p2=>⟨_,rfl,fin out p1 p2⟩) (args_list_sort _)
  ·cases T with
   | nil=>cases hk
   | @cons r t l1 l2 g T=>
    have et:t=[]:=by cases hk;rfl
    subst et;obtain ⟨xs,i1,j1⟩:=tat h' kept r [] g;obtain ⟨xs⟩:=xs;cases j1;refine qS5 (s:={ s with heap:=h' }) i1 (fun r hr=>?_) hq;obtain ⟨t,_,g⟩:=qII T hr;obtain ⟨xs,i,_⟩:=tat h' kept r t g;exact ⟨xs,i⟩
  ·rw [keyLt'_oneType];exact qU0 (s:={ s with heap:=h' }) (by first | exact T0 (by show _<=A.units+8;simp [Around.in1]) hu | (show A.units+1<cLine;lia) | (show A.units<cLine;lia)) i1 i2 j1 j2 hq
theorem qbF {d:Addr} {od:Obj} {es:Array DictEntry} {ep:Nat} (hd:(d == B52)=false) (hc:od.cls=.type "dict") (he:od.data=.dict es ep) :
  PySem.W.KdlSrc prog w "dict" d d es.size (fun i v=>∃ h:i<es.size,v=es[i].key) (fun h=>h.get? d=some od) where
 type:=fun s h=>⟨_,h,hc⟩
 there:=fun h x=>⟨A9 x,A9 x⟩
 keep:=fun h h' x k=>k d (.inl rfl) _ x
 notList:=by decide
 notTuple:=by decide
 hint:=fun A E s Q x q=>PySem.W.kdl_hint_dict ⟨_,x,hc⟩ q
 iter:=fun A s hh x=>by
  have hne:d ≠ s.heap.objs.size:=C2 (A9 x);refine ⟨_,fun i h=>qSQ h s.heap.objs.size d i es.size ep/\h.get? d=some od,fun E Q q=>qNV ⟨_,x,hc⟩ hd x he q,?_,⟨A8 _ rfl,A3 _ x⟩⟩;refine ⟨fun b hb=>?_,fun i h h' st k=>⟨k _ (by simp) _ st.1,k _ (by simp) _ st.2⟩,fun i s' Q E hi st q=>?_,fun s' Q E st q=>?_,fun i s' Q E st q=>C11 ⟨_,st.1,rfl,rfl⟩ q⟩
  ·have e:b=s.heap.objs.size:=by simpa using hb
   simp [e]
  ·refine qNW st.1 st.2 he hi fun h' st' k=>?_;exact q _ h' s'.toks ⟨hi,rfl⟩ ⟨st',(k.2 d hne).trans st.2⟩ fun b o hb e=>(k.2 b (fun z=>hb (by simp [z]))).trans e
  ·refine qR5 hh st.1 (A6 _) st.2 he fun h' k=>?_;exact q h' s'.toks fun b o hb e=>k b o (fun z=>hb (by simp [z])) e
theorem qOH {Ab:Aa2} {σ:St} {H:Hp} {Q:VK} {rs:List Addr} {ts:Aa0} (hu:X.A.units+64<cLine) {s1:Shared} (I1:Inv X Ab σ H s1) (T:qG6 H rs ts) (hk:(∀ t ∈ ts,t ≠ [])\/∃ ts',ts=[]::ts') (hz:rs.length<=B28)
  (q:∀ a rs' ts',H a=none->rs'.Perm rs->qG6 H rs' ts'->ts'.Perm ts->ts'.Pairwise (fun a b=>HT.lexLt b a=false)->Q (.ref a) (Ag H a (.lst (rs'.map V.ref)))):wpAny (model X.prog X.w) X.A.in1 (do
   let l <- newList (rs.map C7)
   let _ <- B71 [l] (call (.builtin "list.sort") [l] [])
   ret l) (fun fin s'=>∃ r,fin=.done (.ret r)/\EP X Ab σ Q r s') X.xe s1:=by
 refine B26 (wpAny_newList ?_ (by rw [A0];exact hz))
 have hf:=I1.hok.fresh (A6 s1.heap.objs.size);have I2:=I1.laid (a:=s1.heap.objs.size) (t':=s1.toks) (o:=.lst (rs.map V.ref)) (h':=s1.heap.push { cls:=.type "list",data:=.seq (rs.map C7).toArray }) (fun b u e=>A3 _ e) (A6 _) ⟨by rw [A0];exact hz,_,0,qIW rs,A8 _ rfl⟩
 refine B26 (B34 (B42 (qT9 (E:=X.xe) I2 hf T hk (by show X.A.units+1+8<cLine;lia) fun rs' ts' a b c d=>q _ rs' ts' hf a b c d) (fun _ s' x=>?_) fun _ _ e=>e))
 exact B27 ⟨_,rfl,x⟩
theorem call_sortedTD (hc:X.calm=true) (hu:X.A.units+64<cLine):qCL X (.builtin "sorted") (fun xs H Q=>∃ p o Af ts,xs=[.ref p]/\H p=some (.frz o (.dT Af))/\Af.map (·.1)=ts.map (fun t=>t.map (E3:Int->Key))/\(∃ ts',ts=[]::ts')/\
  ∀ a rs' ts',H a=none->qG6 H rs' ts'->ts'.Perm ts->ts'.Pairwise (fun a b=>HT.lexLt b a=false)->Q (.ref a) (Ag H a (.lst (rs'.map V.ref)))):=by
 intro Ab s σ H xs us Q I r h;obtain ⟨p,o,Af,ts,rfl,hq,hks,hne,q⟩:=h;obtain ⟨u,rfl,rx⟩:=qDS r;cases rx;refine Y4 kind_sorted plain_sorted entry_sorted (args_sorted1 _) ?_;unfold Builtin.«sorted»;refine B26 (m:=checkCount "sorted" 1 1 _) (B27 ?_);obtain ⟨e1,e2,e3,es,ep,e4,e5,get⟩:=I.heldT hq;obtain ⟨ho',hz,_⟩:=(show ObjOk X.prog X.w H s.heap p (.frz o (.dT Af)) from I.hok p _ hq);refine B26 (n0 (A:=X.A.in1) (qbF e2 e3 e4) (I.ok.hd hc) e1 (by rw [e5];exact hz) fun h' tk acc kept items=>?_)
 obtain ⟨l1,l2⟩:=items;have lt:ts.length=Af.length:=by
  have:=congrArg V5 hks;simpa using this.symm
 -- the keys' addresses
 have each:∀ (i:Nat),i<acc.toList.length->∃ (r:Addr) (t:List Int),acc.toList[i]?=some (.ref r)/\ts[i]?=some t/\H r=some (.tup (t.map V.int)):=by
  intro i hi;have hi2:i<acc.size:=by simpa using hi
  obtain ⟨h3,e6⟩:=l2 i acc[i] (B8 hi2);obtain ⟨k,v,r,g1,g2,g3⟩:=get i h3;have ek:(Af.map (·.1))[i]?=some k:=by rw [B6,g1];rfl
  rw [hks,B6] at ek;cases et:ts[i]? with
  | none=>rw [et] at ek;cases ek
  | some t=>
   rw [et] at ek;have ek:t.map (E3:Int->Key)=k:=D7 ek;refine ⟨r,t,?_,rfl,?_⟩
   ·rw [E4,B8 hi2,e6,g2]
   ·rw [g3,<- ek,Z9]
    rfl
 have build:∀ (l:List Value) (ts:Aa0),l.length=ts.length->(∀ (i:Nat),i<l.length->∃ (r:Addr) (t:List Int),l[i]?=some (.ref r)/\ts[i]?=some t/\H r=some (.tup (t.map V.int)))->∃ rs:List Addr,l=rs.map C7/\qG6 H rs ts:=by
  intro l
  induction l with
  | nil=>
   intro ts h1 _;cases ts with
   | nil=>exact ⟨[],rfl,.nil⟩
   | cons _ _=>cases h1
  | cons v l ih=>
   intro ts h1 h2;cases ts with
   | nil=>cases h1
   | cons t ts=>
    obtain ⟨r,t',a1,a2,a3⟩:=h2 0 (by simp)
    obtain ⟨rs,b1,b2⟩:=ih ts (by simpa using h1) fun i hi=>by
     have:=h2 (i+1) (by simpa using hi)
     simpa using this
    have a1:v=.ref r:=by simpa using a1
    have a2:t=t':=by simpa using a2
    subst a1 a2;exact ⟨r::rs,by rw [b1];rfl,.cons a3 b2⟩
 obtain ⟨rs,e7,T⟩:=build acc.toList ts (by rw [C6,l1,e5,lt]) each
 have hz2:rs.length<=B28:=by rw [B7 T,lt];exact hz
 have:=qOH (s1:={ s with heap:=h',toks:=tk }) hu (I.kept (t':=tk) kept) T (.inr hne) hz2 (Q:=Q) fun a rs' ts' h1 h2 h3 h4 h5=>q a rs' ts' h1 h3 h4 h5;rw [<- e7] at this;exact this
end
open PySem PySem.Spec PyProof.Rows PySem.W
section
variable {X:Cx} {Ab:Aa2} {σ:St} {params:B59} {body:Expr} {scope:Scope} {p:Str} {fv:List Nat} {q:Str} {te:TE} {l f cc:Addr} {ctv:Value} {H0:Hp} {xs:List V} {ks:Aa0} {Q:VK}
end
end L2.G
namespace L2
open PySem PySem.Spec PyProof.Rows
section
variable {X:Cx}
end
section
variable {prog:B30} {w:World} {A:Around} {R:Result->Shared->Prop} {I:Addr} {fp wr:List Addr} {n:Nat} {P:Nat->Value->Prop} {St:Nat->Heap->Prop}
end
section
variable {X:Cx}
end
structure Clb (P:B30) (w:World) (K:Ab1) (mg:Ab0) (base:Heap) (n:Nat) (f:Addr) (fd:B49) (x:Str) (ps:List Str) (sp:Sp):Prop where
 G:FnOk P w K mg base CX0 n f fd ps sp
 b:Binds K fd ps []
 k:N9 K (.ref f)=true
 m:mg x=some (.ref f)
theorem qAV {X:Cx} {n k:Nat} {f:Addr} {fd:B49} {x:Str} {ps:List Str} {sp:Sp} {e:Expr} {es:List Expr} {t:TA} {p pos:Pos} (C:Clb X.prog X.w X.K X.mg X.base n f fd x ps sp) (hr:Room k X.A) (hg:Gl X x)
  (ha:PA X (e::es) t) (hnk:n<=k:=by decide) (hdb:(x == ("__debug__" : Str))=false:=by decide) (he:B35 (e::es) X.env=(false,eval e X.env)::B35 es X.env:=by rfl) (hpl:(backTo pos (B35 es X.env)).any (·.1)=false:=by rfl) :
  PE X (.Call (.Name x p) (e::es) [] pos) (qbE sp [] E0 t):=qTT C.G (hr.mono hnk) hg C.m C.k C.b .nil qbZ ha hdb he hpl
theorem nmD {i:Nat} {t u:TS} {D:Ends} {x:V} {σ:St} {H:Hp} (h:∀ D':Ends,(∀ σ H,D.nx σ H->D'.nx σ H)->(∀ v H,D.rt v H->D'.rt v H)->tSeq t u D' (σ.set i (some x)) H):qUV i x σ H fun σ2 H2=>tSeq t u D σ2 H2:=h D (fun _ _ z=>z) fun _ _ z=>z
def Tf (K:Ab1) (x:Str) (s:Stmt) (f:Addr):Prop:=r8 K B40 x=some (some (.ref f))/\∃ fd,Fun K x x s f fd
theorem Tf.use {K:Ab1} {h:Heap} {mg:Ab0} {x:Str} {s:Stmt} {f:Addr} (X:K.In h) (G:h.Ns B40 mg) (T:Tf K x s f):∃ fd,Fun K x x s f fd/\mg x=some (.ref f):=
 let ⟨a,fd,F⟩:=T
 ⟨fd,F,A57 X G a⟩
theorem Tf.clb {K:Ab1} {h base:Heap} {mg:Ab0} {x:Str} {s:Stmt} {f:Addr} {n:Nat} {ps:List Str} {sp:Sp} (X:K.In h) (G:h.Ns B40 mg) (T:Tf K x s f) (hok:∀ fd,Fun K x x s f fd->FnOk P w K mg base CX0 n f fd ps sp)
  (hb:∀ (kV doc pm:Value) (an:Option Addr) (cdv ct:Value) (us:List Value),us.length=ps.length->B89 (Q2 x x (qEH s) (qBB s) (qAB s) .none kV doc pm an cdv ct) ⟨us,[]⟩=pure (ps.zip us)):∃ fd,Clb P w K mg base n f fd x ps sp:=
 let ⟨fd,F,m⟩:=T.use X G
 ⟨fd,hok fd F,F.binds hb,F.kp,m⟩
def Zs (K:Ab1):List Str->Prop
 | []=>True
 | x::r=>r8 K B40 x=some none/\Zs K r
def Zm (mg:Ab0):List Str->Prop
 | []=>True
 | x::r=>mg x=none/\Zm mg r
theorem Zs.mg {K:Ab1} {h:Heap} {mg:Ab0} (X:K.In h) (G:h.Ns B40 mg):∀ {l:List Str},Zs K l->Zm mg l
 | [],_=>trivial
 | _::_,⟨a,b⟩=>⟨PySem.W.mg_none_of X G a,Zs.mg X G b⟩
theorem qBL {N P:List Str} {sc:Scope} (h1:sc.kind=.function:=by rfl) (h2:sc.isCoroutine=false:=by rfl) (h3:sc.isGenerator=false:=by rfl) (h4:N.Nodup:=by decide +kernel) (h5:N.take P.length=P:=by rfl) (h6:∀ x ∈ P,sc.names.lookup x=some .local\/sc.names.lookup x=some .cell:=by decide +kernel) (h7:∀ y ∈ sc.names,y.2 ≠ .free:=by decide +kernel):FnScope N P sc:=⟨h1,h2,h3,h4,h5,h6,h7⟩
section
variable {P:B30} {w:World} {K:Ab1} {mg:Ab0} {base:Heap}
theorem Fun.okA {x qual:Str} {st:Stmt} {f:Addr} {fd:B49} {N ps:List Str} {k:Nat} {sp:Sp} (F:Fun K x qual st f fd) (S:FnScope N ps (qAB st))
  (hbody:∀ (cdv:Value) (A:Around) (outer:List Env) (s:Shared) (H:Hp) (vs:List V) (Q:VK) (E:XK),Room k (A.deeper (envOfC qual (qAB st) s.heap.objs.size f cdv))->sp vs H Q E->
   ∃ t,PSs (cxOf CX0 P w K mg base N qual (qAB st) f cdv A outer s H E).nox (qBB st) t/\t { nx:=fun _ H'=>Q .non H',rt:=Q } (start N vs) H)
  (len:∀ vs H Q E,sp vs H Q E->vs.length=ps.length:=by intro vs H Q E h;(repeat (obtain ⟨_,h⟩:=h));subst_vars;rfl):FnOk P w K mg base CX0 (k+1) f fd ps sp:=F.ok S len hbody
def Bs (P:B30) (w:World) (base:Heap):Prop:=P=P/\w=w/\base=base
theorem Tf.c {h:Heap} {x:Str} {s:Stmt} {f:Addr} {n:Nat} {ps:List Str} {sp:Sp} (X:K.In h) (G:h.Ns B40 mg) (B:Bs P w base) (T:Tf K x s f) (hok:∀ fd,Fun K x x s f fd->FnOk P w K mg base CX0 n f fd ps sp)
  (hb:∀ (kV doc pm:Value) (an:Option Addr) (cdv ct:Value) (us:List Value),us.length=ps.length->B89 (Q2 x x (qEH s) (qBB s) (qAB s) .none kV doc pm an cdv ct) ⟨us,[]⟩=pure (ps.zip us):=by
   intro _ _ _ _ _ _ us hl;first | exact us1 us hl (fun _=>rfl) | exact us2 us hl (fun _ _=>rfl) | exact us3 us hl (fun _ _ _=>rfl) | exact us4 us hl (fun _ _ _ _=>rfl) | exact us0 us hl rfl):∃ fd,Clb P w K mg base n f fd x ps sp:=T.clb X G hok hb
end
section
variable {X:Cx} {pos:Pos}
theorem qBG {x:Str} (i:Nat) (hN:X.N.Nodup:=by exact qdM (by kernel_rfl)) (hi:X.N[i]?=some x:=by rfl) (hx:Loc X.env.scope x:=by exact E9 rfl) (hf:X.fn x=true\/X.env.scope.names.lookup x=some .local:=by first | exact .inl rfl | exact .inr rfl | assumption):PG X (.Name x pos) (qUV i):=qAY hN hi hx hf
end
section
variable {prog:B30} {w:World} {A:Around} {E:Aa1} {s:Shared}
theorem qXH {items:List Value} {ys:List Int} (h:B38 items ys):items.length=ys.length/\∀ (i:Nat) (y:Int),ys[i]?=some y->∃ tk,items[i]?=some (.int y tk):=by
 induction h with
 | nil=>exact ⟨rfl,fun i y e=>by simp at e⟩
 | cons n tk hm ih=>
  refine ⟨by rw [E2,E2,ih.1],fun i y e=>?_⟩
  cases i with
  | zero=>cases e;exact ⟨_,rfl⟩
  | succ i=>exact ih.2 i y e
theorem qIB {t:Addr} {items:Array Value} {ys:List Int} {x:Int} {u:Tok} {j:Nat} {Q:Aa1} (ht:IsTup s.heap t items) (hi:B38 items.toList ys) (hj:ys[j]?=some x) (hn:∀ i,i<j->ys[i]? ≠ some x)
  (h:Q (.int j s.toks) { s with toks:=s.toks+1 }):wpAny (model prog w) A (Builtin.«tuple.index» ⟨[.ref t,.int x u],[]⟩) (fun fin s'=>∃ v,fin=.done (.ret v)/\Q v s') E s:=by
 obtain ⟨hl,hg⟩:=qXH hi;have hsz:items.size=ys.length:=by simpa using hl
 have hjn:j<items.size:=by rw [hsz];exact (A4.mp hj).1
 show wpAny _ _ (X9 (.ref t) >>= _) _ _ s;refine B26 (tupleItemsOf_ ht ?_);refine B26 (B27 ?_);refine B26 (B27 ?_);refine B26 ?_;rw [A24];have en:(A19 [0:min items.size items.size])=items.size:=by simp [A19]
 rw [en];refine wpAny_forIn_list _ (fun rest r s'=>r.1=none/\s'=s/\∃ i,rest=List.range' i (items.size - i) 1/\i<=j) _ ?_ ?_ _ _ ⟨rfl,rfl,0,by simp,E5 _⟩
 ·rintro y rest r s' ⟨hr,rfl,i,e,hij⟩;obtain ⟨m,hm⟩:∃ m,items.size - i=m+1:=⟨items.size - i - 1,by lia⟩
  rw [hm,List.range'_succ] at e
  injection e with e1 e2
  subst e1;have hyi:y<ys.length:=by lia
  obtain ⟨tk,htk⟩:=hg y _ (A5 hyi);have hit:items[y]?=some (.int ys[y] tk):=by simpa using htk
  dsimp only;rw [hit];dsimp only;refine B26 (wpAny_eqBool_int ?_);by_cases hx:ys[y]=x
  ·have ey:y=j:=by
    by_cases hlt:y<j
    ·exact absurd (by rw [A5 hyi,hx]) (hn y hlt)
    ·lia
   subst ey;rw [show (ys[y] == x)=true from by rw [hx];exact beq_self_eq_true _]
   refine B26 (B26 (wpAny_mkInt (B27 ?_)));exact B27 (B27 ⟨_,rfl,h⟩)
  ·rw [show (ys[y] == x)=false from by simpa using hx]
   refine B27 ⟨rfl,rfl,y+1,by rw [e2];congr 1;lia,?_⟩
   rcases Nat.lt_or_ge y j with hlt | hge
   ·exact hlt
   ·have:y=j:=by lia
    subst this;rw [A5 hyi] at hj;exact absurd (D7 hj) hx
 ·rintro ⟨b1,b2⟩ s' ⟨hb,rfl,i,e,hij⟩;have:(List.range' i (items.size - i) 1).length=0:=by rw [<- e];rfl
  rw [List.length_range'] at this
  lia
end
section
variable {X:Cx}
def qQD (K:Ab1):V->List V->Hp->VK->Prop:=fun x vs H Q=>∃ (a:Addr) (ys:List Int) (y:Int) (j:Nat),x=.ref a/\vs=[.int y]/\SqT K H a (ys.map V.int)/\ys[j]?=some y/\(∀ i,i<j->ys[i]? ≠ some y)/\Q (.int j) H
theorem qRZ:MtR X "tuple.index" (qQD X.K):=by
 intro Ab s σ H x vs v us Q I rx rv h;obtain ⟨a,ys,y,j,rfl,rfl,hq,hj,hn,q⟩:=h;cases rx;obtain ⟨u,rfl,ru⟩:=rv.one;obtain ⟨t,rfl⟩:=ru;obtain ⟨its,r,ht,z⟩:=I.tuple hq;refine B37 F.slot_tuple_index ht.typeIs F.entry_tuple_index (qIB ht (qFT (by simpa using r)) hj hn ?_) (F.args_tuple_index_2 _ _)
 exact ⟨.int j,H,I.tok _,⟨_,rfl⟩,q⟩
theorem qJI {K:Ab1} (hK:X.K=K):MtR X "tuple.index" (qQD K):=by
 subst hK;exact qRZ
def tBMT (r:V->List V->Hp->VK->Prop) (to:TE) (t:TA):TE:=fun σ H Q=>to σ H fun x H1=>(∃ a xs,x=.ref a/\BareT H1 a xs)/\t σ H1 fun xs H2=>r x xs H2 Q
theorem qYO {o e:Expr} {es:List Expr} {to:TE} {t:TA} {name:Str} {apos cpos:Pos} {id:String} {r:V->List V->Hp->VK->Prop} (pa:PlainAttrs "tuple") (slot:Slot "tuple" name id) (hty:typeOf (.builtin id)=pure (.type "method_descriptor")) (hm:MtR X id r) (ho:PE X o to) (ha:PA X (e::es) t)
  (hbase:B99 o name X.env (eval o X.env)=eval o X.env:=by rfl)
  (hfew:((backTo cpos (B35 (e::es) X.env)).all (fun x=>!x.1) && (backToKw cpos (B97 [] X.env)).all (fun x=>x.1.isSome)
   && decide ((e::es).length+([]:List B91).length+(if ([]:List B91).isEmpty then 0 else 1)<30))=true:=by rfl)
  (hline:(apos.endLine == cpos.line)=true:=by rfl) (hs:B35 (e::es) X.env=(false,eval e X.env)::B35 es X.env:=by rfl) (hplain:(backTo cpos (B35 es X.env)).any (·.1)=false:=by rfl) :
  PE X (.Call (.Attribute o name apos) (e::es) [] cpos) (tBMT r to t):=by
 intro Ab s σ H Q I h;refine wpAny_Call_method_late hbase hfew hline rfl (thn (ho Ab s σ H _ I h) fun v s1 ⟨x,H1,I1,r1,ty,q1⟩=>?_);obtain ⟨a,xs,rfl,ob,hq,hc,hd⟩:=ty;cases r1;obtain ⟨ho',_⟩:=(show ObjOk X.prog X.w H1 s1.heap a (.frz ob (.tup xs)) from I1.hok a _ hq);refine ⟨"tuple",id,pa,slot,hty,⟨ob,ho',hc⟩,fun b e=>?_,?_⟩
 ·cases e;exact ⟨ob,ho',hd⟩
 have hA:=ha cpos Ab s1 σ H1 _ I1 q1;rw [hs] at hA ⊢;refine d6 (by show (false || (backTo cpos (B35 es X.env)).any (·.1))=false;rw [hplain] <;> rfl) (A27 ?_)
 exact thn hA fun us s2 ⟨vs,H2,I2,r2,q2⟩=>hm Ab s2 σ H2 (.ref a) vs (.ref a) us Q I2 rfl r2 q2
theorem Rd.same {H H':Hp} {a:Addr} {u:HO} (h:Rd H a u) (s:∀ b o,H b=some o->H' b=some o):Rd H' a u:=by
 rcases h with h | ⟨o,h⟩
 ·exact .inl (s _ _ h)
 ·exact .inr ⟨o,s _ _ h⟩
end
section
variable {X:Cx} {tg:Expr}
end
section
variable {X:Cx}
end
end L2
namespace Fw
open PySem L2
theorem qB4:B33 "len" = some (.builtin "len"):=by decide +kernel
theorem qRB:B33 "min" = some (.builtin "min"):=by decide +kernel
theorem qcQ:B33 "max" = some (.builtin "max"):=by decide +kernel
theorem qDD:B33 "sorted" = some (.builtin "sorted"):=by decide +kernel
theorem qVU:B33 "divmod" = some (.builtin "divmod"):=by decide +kernel
theorem qK6:B33 "all" = some (.builtin "all"):=by decide +kernel
theorem qAH:B33 "isinstance" = some (.builtin "isinstance"):=by decide +kernel
theorem qK5:B33 "int" = some (.type "int"):=by decide +kernel
theorem qPM:B33 "bool" = some (.type "bool"):=by decide +kernel
theorem qZ6:B33 "str" = some (.type "str"):=by decide +kernel
theorem qFI:B33 "list" = some (.type "list"):=by decide +kernel
theorem qAO:B33 "tuple" = some (.type "tuple"):=by decide +kernel
theorem qVT:B33 "set" = some (.type "set"):=by decide +kernel
theorem qY1:B33 "range" = some (.type "range"):=by decide +kernel
theorem qCT:B33 "enumerate" = some (.type "enumerate"):=by decide +kernel
structure StAt (H:Hp) (d c:Addr) (t:Int) (ns:List Int):Prop where
 dict:H d=some (.dK [(J9 "cells",.ref c),(J9 "turn",.int t)])
 list:H c=some (.lst (ns.map V.int))
 ne:0<ns.length
 len:ns.length<=63
 pos:0<=t
def Keep (d c:Addr) (H H':Hp):Prop:=∀ b o,H b=some o->b ≠ d->b ≠ c->H' b=some o
theorem Keep.trans {d c:Addr} {H H1 H2:Hp} (a:Keep d c H H1) (b:Keep d c H1 H2):Keep d c H H2:=fun x o h n m=>b x o (a x o h n m) n m
theorem Keep.of_same {d c:Addr} {H H':Hp} (h:Same H H'):Keep d c H H':=fun b o e _ _=>h b o e
theorem qA2 {H:Hp} {p:Addr} (h:H p=none) (o:HO):Same H (Ag H p o):=fun b u q=>by rw [qA9 (qA6 q h)];exact q
theorem qDL {d c:Addr} {H:Hp} {p:Addr} (h:H p=none) (o:HO):Keep d c H (Ag H p o):=.of_same (qA2 h o)
theorem StAt.ndc {H:Hp} {d c:Addr} {t:Int} {ns:List Int} (S:StAt H d c t ns):d ≠ c:=qCF S.dict S.list (by intro z;cases z)
theorem StAt.same {H H':Hp} {d c:Addr} {t:Int} {ns:List Int} (S:StAt H d c t ns) (h:Same H H'):StAt H' d c t ns:=⟨h _ _ S.dict,h _ _ S.list,S.ne,S.len,S.pos⟩
theorem StAt.new {H:Hp} {d c p:Addr} {t:Int} {ns:List Int} (S:StAt H d c t ns) (h:H p=none) (o:HO):StAt (Ag H p o) d c t ns:=S.same (qA2 h o)
theorem s_cs:¬ (D4 "cells" = D4 "turn"):=by decide +kernel
theorem s_ct:¬ ((J9 (D4 "cells"):Key)=J9 (D4 "turn")):=fun h=>s_cs (B21 h)
theorem qaQ {H:Hp} {d c:Addr} {t:Int} {ns:List Int} (S:StAt H d c t ns):DGet H d (.str "turn") (some (.int t)):=by
 have h:=DGet.k (k:=J9 "turn") S.dict;rw [qBS s_ct,qBR rfl] at h;exact h
theorem qMF {H:Hp} {d c:Addr} {t:Int} {ns:List Int} (S:StAt H d c t ns):DGet H d (.str "cells") (some (.ref c)):=by
 have h:=DGet.k (k:=J9 "cells") S.dict;rw [qBR rfl] at h;exact h
theorem qWS (c:Addr) (t u:Int):putK [((J9 "cells" : Key),V.ref c),(J9 "turn",V.int t)] (J9 "turn") (V.int u)=[((J9 "cells" : Key),V.ref c),(J9 "turn",V.int u)]:=by
 unfold putK;simp [s_cs]
theorem qaO {H:Hp} {d c:Addr} {t u:Int} {ns:List Int} (S:StAt H d c t ns):DPut H d (.str "turn") (.int u) (Ag H d (.dK [(J9 "cells",.ref c),(J9 "turn",.int u)])):=by
 have h:=DPut.k (k:=J9 "turn") (v:=.int u) S.dict (by rw [B39];exact (by decide:2<16777216))
 rw [qWS] at h;exact h
theorem StAt.turn {H:Hp} {d c:Addr} {t u:Int} {ns:List Int} (S:StAt H d c t ns) (h:0<=u):StAt (Ag H d (.dK [(J9 "cells",.ref c),(J9 "turn",.int u)])) d c u ns:=
 ⟨qA1,by rw [qA9 (F2 S.ndc)];exact S.list,S.ne,S.len,h⟩
theorem StAt.put {H:Hp} {d c:Addr} {t:Int} {ns ms:List Int} (S:StAt H d c t ns) (h:ms.length=ns.length):StAt (Ag H c (.lst (ms.map V.int))) d c t ms:=
 ⟨by rw [qA9 S.ndc];exact S.dict,qA1,by rw [h];exact S.ne,by rw [h];exact S.len,S.pos⟩
abbrev TB:Int:=1000000000
def qJ0:Sp:=fun vs H Q _=>∃ d c t ns m,vs=[.ref d,.int m]/\StAt H d c t ns/\t<=TB/\1<=m/\m<=1000000/\∀ k ns' H',0<=k->k<m->StAt H' d c (t+1) ns'->Keep d c H H'->Q (.int k) H'
def qT7 (K:Ab1):Sp:=fun vs H Q _=>∃ (a:Addr) (ns:List Int),vs=[.ref a]/\SqL K H a (ns.map V.int)/\ns.length<=63/\∀ d c ms H',StAt H' d c 0 ms->Same H H'->H d=none->H c=none->Q (.ref d) H'
def cutI {α:Type} (xs:List α) (lo hi:Option Int):List α:=(xs.drop (HT.sIx xs.length 0 lo)).take (HT.sIx xs.length xs.length hi - HT.sIx xs.length 0 lo)
theorem qIR {α:Type} (f:α->V) (xs:List α) (lo hi:Option Int):cutV (xs.map f) lo hi=(cutI xs lo hi).map f:=by
 unfold cutV cutI;rw [A0,<- List.map_drop,<- B16]
theorem qY0 {α:Type} (xs:List α) (lo hi:Option Int):(cutI xs lo hi).length<=xs.length:=by
 unfold cutI;rw [C5,G3]
 lia
theorem qYS (c:Addr) (t:Int):qG3 [] [((J9 (D4 "cells"):Key),V.ref c),(J9 (D4 "turn"),V.int t)]=[((J9 (D4 "cells"):Key),V.ref c),(J9 (D4 "turn"),V.int t)]:=by
 unfold qG3;simp only [W9,A96];unfold putK;simp [s_cs]
theorem qUJ {xs:List V} {j:Nat} (h:j<xs.length):ixN xs.length (j:Int)=some j:=by
 unfold ixN;rw [if_pos (by lia),if_pos (by lia),E1]
def qd9 (K:Ab1):Sp:=fun vs H Q _=>∃ (a:Addr) (ns:List Int),vs=[.ref a]/\SqL K H a (ns.map V.int)/\ns.length<=63/\∀ H',Q (.bl true) H'
theorem cut {t u:TS} {D:Ends} {σ:St} {H:Hp} (h:∀ N:St->Hp->Prop,(∀ σ H,u D σ H->N σ H)->t { D with nx:=N } σ H):tSeq t u D σ H:=h _ fun _ _ z=>z
theorem opq {A:Prop} (h:∀ G:Prop,(A->G)->G):A:=h A id
structure Rise (k:Int) (zs:List Int):Prop where
 up:zs.Pairwise (·<·)
 in_:∀ x ∈ zs,0<=x/\x<k
theorem Rise.nil {k:Int} :Rise k []:=⟨.nil,fun _ h=>nomatch h⟩
theorem Rise.mono {j k:Int} {zs:List Int} (h:Rise j zs) (l:j<=k):Rise k zs:=⟨h.up,fun x hx=>⟨(h.in_ x hx).1,by have:=(h.in_ x hx).2;lia⟩⟩
theorem Rise.sub {k:Int} {zs ys:List Int} (h:Rise k zs) (s:ys.Sublist zs):Rise k ys:=⟨h.up.sublist s,fun x hx=>h.in_ x (s.subset hx)⟩
theorem Rise.snoc {k:Int} {zs:List Int} (h:Rise k zs) (h0:0<=k):Rise (k+1) (zs++[k]):=by
 refine ⟨P5.mpr ⟨h.up,List.pairwise_singleton _ _,fun a ha b hb=>?_⟩,fun x hx=>?_⟩
 ·rw [A7.mp hb];exact (h.in_ a ha).2
 ·rcases B3.mp hx with hx | hx
  ·have:=h.in_ x hx;lia
  ·rw [A7.mp hx];lia
theorem Rise.shift {k j:Int} {zs:List Int} (h:Rise k zs) (hj:0<=j):Rise (k+j) (zs.map (·+j)):=by
 refine ⟨O4.mpr (h.up.imp fun {a b} hab=>by lia),fun x hx=>?_⟩
 obtain ⟨y,hy,e⟩:=D5.mp hx;have:=h.in_ y hy
 lia
theorem Rise.nodup {k:Int} {zs:List Int} (h:Rise k zs):zs.Nodup:=h.up.imp fun {a b} hab=>by lia
theorem Rise.len {zs:List Int} {k:Nat} (h:Rise (k:Int) zs):zs.length<=k:=by
 have sub:zs ⊆ (G2 k).map fun (i:Nat)=>(i:Int):=fun x hx=>by
  have:=h.in_ x hx;exact D5.mpr ⟨x.toNat,F5.mpr (by lia),by lia⟩
 have:=V4 h.nodup sub;simpa using this
theorem mem_addI {zs:List Int} {k x:Int} :x ∈ addI zs k ↔ x ∈ zs\/x=k:=by
 unfold addI
 split
 ·rename_i h
  constructor
  ·exact .inl
  ·rintro (z | rfl)
   ·exact z
   ·exact h
 ·simp
theorem qa5 {zs:List Int} {k:Int} (h:zs.Nodup):(addI zs k).Nodup:=by
 unfold addI
 split
 ·exact h
 ·rename_i hk
  exact qJG h hk
theorem qVD:∀ (l zs:List Int),zs.Nodup->(l.foldl addI zs).Nodup/\∀ x,x ∈ l.foldl addI zs ↔ x ∈ zs\/x ∈ l
 | [],zs,h=>⟨h,fun x=>by simp⟩
 | k::r,zs,h=>by
  obtain ⟨a,b⟩:=qVD r (addI zs k) (qa5 h);refine ⟨a,fun x=>?_⟩;rw [W9,b x,mem_addI,C1,or_assoc]
theorem qSH (l:List Int):(dedI l).Nodup:=(qVD l [] .nil).1
theorem mem_dedI {l:List Int} {x:Int} :x ∈ dedI l ↔ x ∈ l:=by
 have:=(qVD l [] .nil).2 x;unfold dedI;rw [this];simp
theorem qMG (l:List Int):(dedI l).length<=l.length:=by
 have:=qDO l [];simpa [dedI] using this
theorem qF6 {zs:List Int} (h1:zs.Pairwise (·<=·)) (h2:zs.Nodup):zs.Pairwise (·<·):=by
 have h3:zs.Pairwise (fun a b=>a<=b/\a ≠ b):=List.pairwise_and_iff.mpr ⟨h1,h2⟩;exact h3.imp fun {a b} ⟨x,y⟩=>by lia
theorem qLV {k:Int} {fs zs:List Int} (hp:zs.Perm (dedI fs)) (hs:zs.Pairwise (·<=·)) (h:∀ x ∈ fs,0<=x/\x<k):Rise k zs:=
 ⟨qF6 hs (hp.nodup_iff.mpr (qSH fs)),fun x hx=>h x (mem_dedI.mp (hp.mem_iff.mp hx))⟩
def qBM (lo hi:Int):List Int:=(G2 (hi - lo).toNat).map fun (i:Nat)=>lo+i
theorem qON (lo hi:Int):qI1 lo hi=(qBM lo hi).map V.int:=by
 unfold qI1 qBM;rw [Z9]
 rfl
theorem mem_rangeI {lo hi x:Int} :x ∈ qBM lo hi ↔ lo<=x/\x<hi:=by
 unfold qBM;rw [D5]
 constructor
 ·rintro ⟨i,hi',e⟩;have:=F5.mp hi'
  lia
 ·intro h;exact ⟨(x - lo).toNat,F5.mpr (by lia),by lia⟩
theorem qDT (lo hi:Int):(qBM lo hi).length=(hi - lo).toNat:=by unfold qBM;simp
theorem qF1 (lo hi:Int):(qBM lo hi).Pairwise (·<·):=by
 unfold qBM;exact O4.mpr (A11.imp fun {a b} h=>by lia)
theorem qOO {lo hi:Int} (h:0<=lo):Rise hi (qBM lo hi):=⟨qF1 _ _,fun x hx=>by have:=mem_rangeI.mp hx;lia⟩
theorem qNX {α:Type} (xs:List α) (k:Nat) (h:k<=xs.length):cutI xs (some (k:Int)) none=xs.drop k:=by
 unfold cutI;rw [HT.sIx_nat,HT.sIx_none,A20 h];exact C4 (by rw [G3];exact A6 _)
theorem qaT {α:Type} (xs:List α) (k:Nat):cutI xs none (some (k:Int))=xs.take k:=by
 unfold cutI;rw [HT.sIx_nat,HT.sIx_none,Y6,q9];rcases Nat.le_total k xs.length with h | h
 ·rw [A20 h]
 ·rw [A84 h,C4 h,C4 (A6 _)]
abbrev NetL (H:Hp):List Addr->Aa0->Prop:=Paired fun r zs=>H r=some (.tup (zs.map V.int))
theorem NetL.keep {d c:Addr} {H H':Hp} {rs:List Addr} {Ae:Aa0} (h:NetL H rs Ae) (hd:∀ r zs,H r=some (.tup zs)->r ≠ d/\r ≠ c) (k:Keep d c H H'):NetL H' rs Ae:=by
 induction h with
 | nil=>exact .nil
 | cons r t ih=>exact .cons (k _ _ r (hd _ _ r).1 (hd _ _ r).2) ih
theorem NetL.same {H H':Hp} {rs:List Addr} {Ae:Aa0} (h:NetL H rs Ae) (k:∀ r zs,H r=some (.tup zs)->H' r=some (.tup zs)):NetL H' rs Ae:=by
 induction h with
 | nil=>exact .nil
 | cons r t ih=>exact .cons (k _ _ r) ih
theorem NetL.get {H:Hp} :∀ {rs:List Addr} {Ae:Aa0} {i:Nat} {zs:List Int},NetL H rs Ae->Ae[i]?=some zs->∃ r,rs[i]?=some r/\H r=some (.tup (zs.map V.int))
 | _,_,_,_,.nil,e=>by simp at e
 | _,_,0,_,.cons r _,e=>by simp at e;subst e;exact ⟨_,rfl,r⟩
 | _,_,i+1,zs,.cons _ t,e=>by
  obtain ⟨r,h1,h2⟩:=NetL.get (i:=i) (zs:=zs) t (by simpa using e)
  exact ⟨r,by simpa using h1,h2⟩
def NetAt (H:Hp) (a:Addr) (Ae:Aa0):Prop:=∃ rs:List Addr,H a=some (.tup (rs.map V.ref))/\NetL H rs Ae
theorem StAt.tup {H:Hp} {d c:Addr} {t:Int} {ns:List Int} (S:StAt H d c t ns) {r:Addr} {zs:List V} (h:H r=some (.tup zs)):r ≠ d/\r ≠ c:=
 ⟨qCF h S.dict (by intro z;cases z),qCF h S.list (by intro z;cases z)⟩
theorem NetAt.keep {H H':Hp} {d c:Addr} {t:Int} {ns:List Int} (S:StAt H d c t ns) {a:Addr} {Ae:Aa0} (h:NetAt H a Ae) (k:Keep d c H H'):NetAt H' a Ae:=by
 obtain ⟨rs,h1,h2⟩:=h;exact ⟨rs,k _ _ h1 (S.tup h1).1 (S.tup h1).2,h2.keep (fun r zs e=>S.tup e) k⟩
theorem NetAt.same {H H':Hp} {a:Addr} {Ae:Aa0} (h:NetAt H a Ae) (k:Same H H'):NetAt H' a Ae:=by
 obtain ⟨rs,h1,h2⟩:=h;exact ⟨rs,k _ _ h1,h2.same fun r zs e=>k _ _ e⟩
theorem NetAt.len {H:Hp} {rs:List Addr} {Ae:Aa0} (h:NetL H rs Ae):rs.length=Ae.length:=B7 h
def WFn (Ae:Aa0):Prop:=∀ (i:Nat) zs,Ae[i]?=some zs->Rise (i:Int) zs
theorem WFn.snoc {Ae:Aa0} {zs:List Int} (h:WFn Ae) (hz:Rise (Ae.length:Int) zs):WFn (Ae++[zs]):=by
 intro i ys e;rcases i7 i Ae.length with l | l | l
 ·rw [J3 l] at e;exact h i ys e
 ·subst l;simp at e;subst e;exact hz
 ·rw [M6 (by rw [B0,B9];lia)] at e
  cases e
theorem WFn.nil:WFn []:=fun i zs e=>by simp at e
theorem qCO {α β:Type} {F:α->β->Prop} {a:α} {b:β} {l₁:List α} {l₂:List β} (h:Paired F l₁ l₂) (r:F a b):Paired F (l₁++[a]) (l₂++[b]):=Z2 h r
def qOG:Sp:=fun vs H Q _=>∃ d c t ns k,vs=[.ref d,.int k]/\StAt H d c t ns/\t<=TB - 20/\0<=k/\k<=1000/\
 ∀ r zs t' ns' H',StAt H' d c t' ns'->t<=t'->t'<=t+9->Keep d c H H'->H' r=some (.tup (zs.map V.int))->Rise k zs->Q (.ref r) H'
def qbH:Sp:=fun vs H Q _=>∃ d c t ns m,vs=[.ref d,.int m]/\StAt H d c t ns/\t<=TB - 10000/\1<=m/\m<=400/\
 ∀ a Ae t' ns' H',StAt H' d c t' ns'->t<=t'->t'<=t+10 * m+10->Keep d c H H'->NetAt H' a Ae->WFn Ae->(Ae.length:Int)=m->Q (.ref a) H'
def qYC:Sp:=fun vs H Q _=>∃ d c t ns m,vs=[.ref d,.int m]/\StAt H d c t ns/\t<=TB - 1000/\1<=m/\m<=400/\
 ∀ a Ae t' ns' H',StAt H' d c t' ns'->t<=t'->t'<=t+m->Keep d c H H'->NetAt H' a Ae->WFn Ae->(Ae.length:Int)=m->Q (.ref a) H'
theorem qdJ {a b k:Int} (h0:0<=k) (h1:k<4):∃ v,atI [V.int a,V.int b] (k / 3)=some (.int v)/\(v=a\/v=b):=by
 rcases (by lia:k=0\/k=1\/k=2\/k=3) with rfl | rfl | rfl | rfl
 ·exact ⟨a,rfl,.inl rfl⟩
 ·exact ⟨a,rfl,.inl rfl⟩
 ·exact ⟨a,rfl,.inl rfl⟩
 ·exact ⟨b,rfl,.inr rfl⟩
theorem qdI {k:Int} (h0:0<=k) (h1:k<6):∃ v,atI [V.int 0,V.int 0,V.int 1,V.int 2,V.int 2,V.int 3] k=some (.int v)/\0<=v/\v<=3:=by
 rcases (by lia:k=0\/k=1\/k=2\/k=3\/k=4\/k=5) with rfl | rfl | rfl | rfl | rfl | rfl
 all_goals exact ⟨_,rfl,by decide,by decide⟩
theorem qAC {H Hc:Hp} {p:Addr} {o:HO} (h:Same H Hc) (hp:H p=none):Same H (Ag Hc p o):=fun b u e=>by rw [qA9 (qA6 e hp)];exact h b u e
theorem qQX {d c:Addr} {H Hc:Hp} {p:Addr} {o:HO} (h:Keep d c H Hc) (hp:H p=none):Keep d c H (Ag Hc p o):=fun b u e n1 n2=>by rw [qA9 (qA6 e hp)];exact h b u e n1 n2
theorem qDJ {H:Hp} {p:Addr} {xs:List V} {o:HO} {rs:List Addr} {Ae:Aa0} (h:NetL H rs Ae) (hp:H p=some (.lst xs)):NetL (Ag H p o) rs Ae:=
 h.same fun r zs e=>by rw [qA9 (qCF e hp (by intro z;cases z))];exact e
theorem qBJ (rs:List Addr) (r:Addr):rs.map V.ref++[V.ref r]=(rs++[r]).map V.ref:=by rw [B1];rfl
theorem qbP (b:Bool) (x:Int):(D2 (if b=true then (1:Int) else 0).toNat [V.int x]).flatten=(if b=true then [x] else []).map V.int:=by cases b <;> rfl
theorem qAU {α β:Type} {F:α->β->Prop} :∀ {l₁:List α} {l₂:List β} {i:Nat} {a:α},Paired F l₁ l₂->l₁[i]?=some a->∃ b,l₂[i]?=some b/\F a b
 | _,_,_,_,.nil,e=>by simp at e
 | _,_,0,_,.cons r _,e=>by simp at e;subst e;exact ⟨_,rfl,r⟩
 | _,_,i+1,a,.cons _ t,e=>by
  obtain ⟨b,h1,h2⟩:=qAU (i:=i) (a:=a) t (by simpa using e)
  exact ⟨b,by simpa using h1,h2⟩
theorem qKU {α β:Type} {F G:α->β->Prop} {l₁:List α} {l₂:List β} (h:Paired F l₁ l₂) (k:∀ a b,F a b->G a b):Paired G l₁ l₂:=by
 induction h with
 | nil=>exact .nil
 | cons r t ih=>exact .cons (k _ _ r) ih
theorem qC6 {rs:List Addr} {i:Nat} {x:V} (h:(rs.map V.ref)[i]?=some x):∃ r,rs[i]?=some r/\x=.ref r:=by
 rw [B6] at h;cases e:rs[i]? with
 | none=>rw [e] at h;cases h
 | some r=>rw [e] at h;exact ⟨r,rfl,(D7 h).symm⟩
theorem qAX {zs:List Int} {i:Nat} {x:V} (h:(zs.map V.int)[i]?=some x):∃ z,zs[i]?=some z/\x=.int z:=by
 rw [B6] at h;cases e:zs[i]? with
 | none=>rw [e] at h;cases h
 | some r=>rw [e] at h;exact ⟨r,rfl,(D7 h).symm⟩
theorem qQ9 {α:Type} {l:List α} {a b:α} {j:Nat} (h:(l++[a])[j]?=some b):l[j]?=some b\/(j=l.length/\b=a):=by
 rcases i7 j l.length with z | z | z
 ·rw [J3 z] at h;exact .inl h
 ·subst z;simp at h;exact .inr ⟨rfl,h.symm⟩
 ·rw [M6 (by rw [B0,B9];lia)] at h
  cases h
theorem qDN (a:Int) (zs:List Int):inV (.int a) (zs.map V.int)=decide (a ∈ zs):=by
 unfold inV
 induction zs with
 | nil=>simp
 | cons z r ih=>
  rw [D0,V6,ih];have e:eqV (.int z) (.int a)=decide (a=z):=by
   by_cases h:z=a
   ·subst h;simp [eqV]
   ·have h':¬ a=z:=fun q=>h q.symm;simp [eqV,h,h']
  rw [e];simp [C1]
theorem qBY (zs:List Int):(zs.map V.int).all qM4=true:=by
 rw [G1];intro x hx;obtain ⟨z,_,rfl⟩:=D5.mp hx
 rfl
def qDE (ns st:List Int) (Aa wk:Int):V:=if wk ∈ st then .str "there" else if ∀ x ∈ ns,x ∈ st then (if Aa<=(st.length:Int) then .str "full" else .non) else .str "needs"
def qDR (st:List Int) (wk:Int):V:=if wk ∈ st then .non else .str "empty"
def qN0:Sp:=fun vs H Q _=>∃ (a s:Addr) (Ae:Aa0) (st ns:List Int) (Aa wk:Int),vs=[.ref a,.int Aa,.ref s,.int wk]/\NetAt H a Ae/\H s=some (.tup (st.map V.int))/\st.length<=1000/\0<=wk/\Ae[wk.toNat]?=some ns/\
 ∀ H',Same H H'->Q (qDE ns st Aa wk) H'
def qDQ (ns st:List Int) (Aa:Int) (Ac:Str) (wk:Int):V:=if Ac = "do" then qDE ns st Aa wk else qDR st wk
def qLL:Sp:=fun vs H Q _=>∃ (a s mv:Addr) (Ae:Aa0) (st ns:List Int) (Aa wk:Int) (Ac:Str),vs=[.ref a,.int Aa,.ref s,.ref mv]/\NetAt H a Ae/\H s=some (.tup (st.map V.int))/\st.length<=1000/\H mv=some (.tup [.str Ac,.int wk])/\(Ac = "do"\/Ac = "clear")/\0<=wk/\Ae[wk.toNat]?=some ns/\ns.length<=1000/\
 ∀ H',Same H H'->Q (qDQ ns st Aa Ac wk) H'
theorem qAR:¬ (D4 "clear" = D4 "do"):=by decide +kernel
theorem qG5 {xs:List V} {i:Int} {x:V} (h0:0<=i) (h:xs[i.toNat]?=some x):atI xs i=some x:=by
 have e:i=((i.toNat:Nat):Int):=by lia
 rw [e];exact qW1 (by simpa using h)
theorem NetAt.get {H:Hp} {a:Addr} {Ae:Aa0} {ns:List Int} {i:Nat} (h:NetAt H a Ae) (e:Ae[i]?=some ns):∃ (rs:List Addr) (r:Addr),H a=some (.tup (rs.map V.ref))/\rs.length=Ae.length/\(rs.map V.ref)[i]?=some (.ref r)/\H r=some (.tup (ns.map V.int)):=by
 obtain ⟨rs,h1,h2⟩:=h;obtain ⟨r,h3,h4⟩:=h2.get e;exact ⟨rs,r,h1,B7 h2,by rw [B6,h3];rfl,h4⟩
def qd3 (t:TS):TS:=fun D σ H=>∃ Pm:St->Hp->Prop,t { D with nx:=Pm } σ H/\∀ σ' H',Pm σ' H'->D.nx σ' H'
theorem qZX {X:Cx} {st:Stmt} {t:TS} (h:PS X st t):PS X st (qd3 t):=by
 intro Ab s σ H D I hq;obtain ⟨Pm,h1,h2⟩:=hq;refine thn (h Ab s σ H _ I h1) fun f s' q=>?_;cases f with
 | next=>obtain ⟨σ',H',I',q⟩:=q;exact ⟨σ',H',I',h2 _ _ q⟩
 | brk=>exact q
 | cont=>exact q
 | ret u=>exact q
theorem qLK {ns st:List Int} {i:Nat} {z:Int} (ez:ns[i]?=some z):((ns.take i).map fun x=>decide (x ∈ st)).map V.bl++[V.bl (decide (z ∈ st))]=((ns.take (i+1)).map fun x=>decide (x ∈ st)).map V.bl:=by
 rw [C8,ez,C9,B1,B1]
 rfl
theorem all_in {ns st:List Int} :(((ns.map fun x=>decide (x ∈ st)).all id)=true) ↔ ∀ x ∈ ns,x ∈ st:=by
 rw [G1]
 constructor
 ·intro h x hx;have:=h _ (D5.mpr ⟨x,hx,rfl⟩);exact of_decide_eq_true this
 ·intro h b hb;obtain ⟨x,hx,rfl⟩:=D5.mp hb;exact decide_eq_true (h x hx)
theorem qZ5:B33 "zip" = some (.type "zip"):=by decide +kernel
def seqO (b:Bool) (xs:List V):HO:=match b with | true=>.tup xs | false=>.lst xs
def Leaf (x:V):Prop:=x=.non\/(∃ i,x=.int i)\/∃ y,x=.str y
def Alike (H:Hp):Nat->V->V->Prop
 | 0,x,y=>x=y/\Leaf x
 | n+1,x,y=>(x=y/\Leaf x)\/∃ (b:Bool) (a c:Addr) (xs ys:List V),x=.ref a/\y=.ref c/\H a=some (seqO b xs)/\H c=some (seqO b ys)/\xs.length=ys.length/\xs.length<=100000/\∀ (i:Nat) (x' y':V),xs[i]?=some x'->ys[i]?=some y'->Alike H n x' y'
def tyOf (b:Bool):Value:=match b with | true=>.type "tuple" | false=>.type "list"
section
variable {K:Ab1}
theorem qL2 (b:Bool):J8 K (tyOf b) (.type "list")=some (!b):=by cases b <;> rfl
theorem qH2 (b:Bool):J8 K (tyOf b) (.type "tuple")=some b:=by cases b <;> rfl
theorem qc8:J8 K (.type "str") (.type "list")=some false:=by rfl
theorem qc7:J8 K (.type "str") (.type "tuple")=some false:=by rfl
theorem qYW:J8 K (.type "str") (.type "str")=some true:=by rfl
theorem qcB:J8 K (.type "int") (.type "list")=some false:=by rfl
theorem qc9:J8 K (.type "int") (.type "tuple")=some false:=by rfl
theorem qcA:J8 K (.type "int") (.type "str")=some false:=by rfl
theorem qUD:J8 K (.type "int") (.type "int")=some true:=by rfl
theorem qUE:J8 K (.type "int") (.type "bool")=some false:=by rfl
end
theorem qVW {i:Nat} :((D2 i true).map V.bl)++[V.bl true]=(D2 (i+1) true).map V.bl:=by
 rw [U5,B1];rfl
theorem qW4 {n:Nat} :(D2 n true).all id=true:=by simp
theorem qCK {α:Type} {p:α->Bool} {l:List α} {i:Nat} {x:α} (h:l[i]?=some x):(l.take (i+1)).filter p=(l.take i).filter p++(if p x then [x] else []):=by
 rw [C8,h,C9,A58];by_cases hp:p x=true
 ·simp [hp]
 ·simp [hp]
end Fw
namespace L2
open PySem PySem.Spec PyProof.Rows
def SqO (b:Bool) (K:Ab1) (H:Hp) (a:Addr) (xs:List V):Prop:=match b with | true=>SqT K H a xs | false=>SqL K H a xs
def ItO (b:Bool) (K:Ab1) (a:Addr):It:=match b with | true=>Itt K a | false=>Itl K a
def iSeq (K:Ab1) (tl:TE):TI:=fun σ H R=>tl σ H fun x H1=>∃ (b:Bool) (a:Addr),x=.ref a/\(∃ xs,SqO b K H1 a xs)/\R (ItO b K a) H1
section
variable {X:Cx} {tg:Expr}
theorem qYM {l:Expr} {tl:TE} (hl:PE X l tl):PI X tg l (iSeq X.K tl):=by
 intro Ab s σ H R I h;refine thn (hl Ab s σ H _ I h) fun v s1 ⟨x,H1,I1,r1,q1⟩=>?_;obtain ⟨b,a,e,⟨xs,hq⟩,q⟩:=q1;subst e;cases r1;cases b with
 | false=>
  obtain ⟨its,rv,p,hz⟩:=I1.list hq;refine B51 p.isList ?_;refine ⟨s1.heap.objs.size,[s1.heap.objs.size],_,_,H1,rfl,I1.kept (t':=s1.toks) fun b o e=>A3 _ e,qMS a _,⟨_,A8 _ rfl,rfl,rfl⟩,fun b hb=>?_,q⟩;cases A7.mp hb;exact I1.fpOk (A6 _) (I1.hok.fresh (A6 _))
 | true=>
  obtain ⟨its,rv,p,hz⟩:=I1.tuple hq;refine wpAny_pyIter_tuple (show s1.heap.IsTuple a its.toArray from p) ?_;refine ⟨s1.heap.objs.size,[s1.heap.objs.size],_,_,H1,rfl,I1.kept (t':=s1.toks) fun b o e=>A3 _ e,qKP a _,⟨_,A8 _ rfl,rfl,rfl⟩,fun b hb=>?_,q⟩;cases A7.mp hb;exact I1.fpOk (A6 _) (I1.hok.fresh (A6 _))
end
theorem qYU {b:Bool} {K:Ab1} {a:Addr} {xs:List V} {g:TG} {tc:TT} {te:TE} {Kf:Hp->Prop} {σ0:St} {H0:Hp} {p:Addr} (Pv:Nat->St->Hp->Prop) (h0:Pv 0 σ0 H0) (hl:∀ i σ H,i<=xs.length->Pv i σ H->SqO b K H a xs)
  (hs:∀ i x σ H,xs[i]?=some x->Pv i σ H->g x σ H fun σ2 H2=>tc σ2 H2 fun b H3=>if b=true then te σ2 H3 fun y H4=>∃ ys,H4 p=some (.lst ys)/\ys.length<B28/\Pv (i+1) σ2 (Ag H4 p (.lst (ys++[y]))) else Pv (i+1) σ2 H3)
  (hd:∀ σ H,Pv xs.length σ H->Kf H) :
  LcG (ItO b K a) g tc te Kf σ0 H0 p:=by
 cases b with
 | true=>exact qER Pv h0 hl hs hd
 | false=>exact qE9 Pv h0 hl hs hd
def IeO (b:Bool) (K:Ab1) (a:Addr):It:=match b with | true=>IteT K a | false=>Ite K a
def qcI (K:Ab1) (ta:TA):TI:=fun σ H R=>ta σ H fun vs H1=>∃ (b:Bool) (l:Addr),vs=[.ref l]/\(∃ xs,SqO b K H1 l xs)/\R (IeO b K l) H1
section
variable {X:Cx}
theorem qWZ {elts:List Expr} {k:Nat} {tpos:Pos} {a:Expr} {ta:TA} {p pos:Pos} (hg:Gl X "enumerate") (hm:X.mg "enumerate" = none) (hv:B33 "enumerate" = some (.type "enumerate")) (ha:PA X [a] ta) (hs:B35 [a] X.env=[(false,eval a X.env)]:=by rfl) :
  PI X (.Tuple elts k tpos) (.Call (.Name "enumerate" p) [a] [] pos) (qcI X.K ta):=by
 intro Ab s σ H R I h;refine Call_ (qG4 I hg hm hv (G4 (thn (ha pos Ab s σ H _ I h) fun us s1 ⟨vs,H1,I1,r1,q1⟩=>?_) hs rfl));obtain ⟨b,l,e,⟨xs,hq⟩,q⟩:=q1;subst e;obtain ⟨u,rfl,rx⟩:=qDS r1;cases rx;cases b with
 | false=>
  obtain ⟨its,rv,pl,hz⟩:=I1.list hq;refine call_enumerate_list pl.isList fun h' he hi hsz hk=>?_;refine B69 he ?_;have I2:Inv X Ab σ H1 { s1 with heap:=h' }:=I1.kept (t':=s1.toks) hk;refine ⟨s1.heap.objs.size+1,[s1.heap.objs.size+1,s1.heap.objs.size],_,_,H1,rfl,I2,qMT l s1.heap.objs.size (s1.heap.objs.size+1) (Z1 _),⟨⟨_,he⟩,hi⟩,fun b hb=>?_,q⟩;have e':b=s1.heap.objs.size+1\/b=s1.heap.objs.size:=by simpa using hb
  rcases e' with rfl | rfl
  ·exact I1.fpOk (Q9 _) (I1.hok.fresh (Q9 _))
  ·exact I1.fpOk (A6 _) (I1.hok.fresh (A6 _))
 | true=>
  obtain ⟨its,rv,pl,hz⟩:=I1.tuple hq;have ltl:l<s1.heap.objs.size:=by obtain ⟨o,e,_⟩:=pl;exact A9 e
  refine qLC pl fun h' he hi hsz hk=>?_;refine B69 he ?_;have I2:Inv X Ab σ H1 { s1 with heap:=h' }:=I1.kept (t':=s1.toks) hk;refine ⟨s1.heap.objs.size+1,[s1.heap.objs.size+1,s1.heap.objs.size],_,_,H1,rfl,I2,qKQ l s1.heap.objs.size (s1.heap.objs.size+1) (Z1 _) (C2 ltl) (C2 (V1 ltl)),⟨⟨_,he⟩,hi⟩,fun b hb=>?_,q⟩;have e':b=s1.heap.objs.size+1\/b=s1.heap.objs.size:=by simpa using hb
  rcases e' with rfl | rfl
  ·exact I1.fpOk (Q9 _) (I1.hok.fresh (Q9 _))
  ·exact I1.fpOk (A6 _) (I1.hok.fresh (A6 _))
end
theorem qXC {b:Bool} {K:Ab1} {a:Addr} {xs:List V} {g:TG} {tc:TT} {te:TE} {Kf:Hp->Prop} {σ0:St} {H0:Hp} {p:Addr} (Pv:Nat->St->Hp->Prop) (h0:Pv 0 σ0 H0) (hl:∀ i σ H,i<=xs.length->Pv i σ H->SqO b K H a xs)
  (hs:∀ i x σ H T,xs[i]?=some x->Pv i σ H->H T=none->g (.ref T) σ (Ag H T (.tup [.int (i:Int),x])) fun σ2 H2=>tc σ2 H2 fun b H3=>if b=true then te σ2 H3 fun y H4=>∃ ys,H4 p=some (.lst ys)/\ys.length<B28/\Pv (i+1) σ2 (Ag H4 p (.lst (ys++[y]))) else Pv (i+1) σ2 H3)
  (hd:∀ σ H,Pv xs.length σ H->Kf H) :
  LcG (IeO b K a) g tc te Kf σ0 H0 p:=by
 cases b with
 | true=>exact qQW Pv h0 hl hs hd
 | false=>exact qP3 Pv h0 hl hs hd
theorem qL7 {a:Addr} {o:Obj} {Af:List (List Key × V)} {g:TG} {tb:TS} {D:Ends} {σ:St} {H:Hp} (Pv:Nat->St->Hp->Prop) (h0:Pv 0 σ H) (hl:∀ i σ H,i<=Af.length->Pv i σ H->H a=some (.frz o (.dT Af)))
  (hs:∀ i k v r σ H,Af[i]?=some (k,v)->H r=some (.tup (k.map kV))->Pv i σ H->g (.ref r) σ H fun σ2 H2=>tb { D with nx:=Pv (i+1),ct:=Pv (i+1),bk:=D.nx } σ2 H2) (hd:∀ σ H,Pv Af.length σ H->D.nx σ H) :
  ForG (ItT a o Af) g tb D σ H:=by
 refine ⟨fun i m σ H=>m=Af.length - i/\i<=Af.length/\Pv i σ H,⟨Af.length,by simp,E5 _,h0⟩,?_⟩
 rintro i m σ H ⟨rfl,hi,p⟩;have q:=hl i σ H hi p;by_cases hlt:i<Af.length
 ·refine .inr ⟨⟨hlt,q⟩,Pv (i+1),fun σ' H' p'=>⟨Af.length - (i+1),by lia,rfl,hlt,p'⟩,fun x H' y=>?_⟩
  obtain ⟨e,k,v,r,e2,e3,e4⟩:=y;subst e e3;exact hs i k v r σ _ e2 e4 p
 ·have e:i=Af.length:=by lia
  subst e;exact .inl ⟨⟨A6 _,q⟩,hd σ H p⟩
def TyR (K:Ab1) (H:Hp) (x:V) (t:Value):Prop:=TyOf K H x t\/∃ a xs,x=.ref a/\Rd H a (.tup xs)/\t=.type "tuple"
section
variable {X:Cx}
theorem qAT:qCL X (.builtin "isinstance") (fun xs H Q=>∃ x T t b,xs=[x,.ty T]/\TyR X.K H x t/\J8 X.K t (.type T)=some b/\Q (.bl b) H):=by
 intro Ab s σ H xs us Q I r h;obtain ⟨x,T,t,b,rfl,ht,hk,q⟩:=h;rcases ht with ht | ⟨a,ys,rfl,ht,rfl⟩
 ·exact qC0 Ab s σ H _ us Q I r ⟨x,T,t,b,rfl,ht,hk,q⟩
 ·rcases ht with ht | ⟨ob,ht⟩
  ·exact qC0 Ab s σ H _ us Q I r ⟨_,T,_,b,rfl,TyOf.tup ht,hk,q⟩
  ·obtain ⟨u,v,rfl,r1,r2⟩:=qKC r;cases r2;cases (show u=C7 a from r1);obtain ⟨_,_,_,_,p⟩:=(show ObjOk X.prog X.w H s.heap a (.frz ob (.tup ys)) from I.hok a _ ht);obtain ⟨o,h1,h2,_⟩:=p;exact J5 A49 I.kIn ⟨o,h1,h2⟩ hk (fun z=>nomatch z) fun tk=>⟨.bl b,H,I.tok _,rfl,q⟩
end
def qdD:V->Option Int->Option Int->Hp->VK->Prop:=fun x lo hi H Q=>∃ a xs,x=.ref a/\Rd H a (.tup xs)/\∀ p H',(∀ b o,H b=some o->H' b=some o)->Rd H' p (.tup (cutV xs lo hi))->Q (.ref p) H'
section
variable {X:Cx}
theorem qZO:SlR X qdD:=by
 intro Ab s σ H x v vl vu lo hi sl Q I rx hs pl pu h;obtain ⟨a,xs,rfl,hx,q⟩:=h;by_cases hw:HT.sIx xs.length 0 lo=0/\HT.sIx xs.length xs.length hi=xs.length
 ·cases rx;obtain ⟨its,r,ht,hz⟩:=I.tuple (.inl hx);have hlen:its.toArray.size=xs.length:=by rw [C0];exact r.length.symm
  refine ⟨"tuple",_,G5.lookup,ht.typeIs,?_⟩;refine HT.getItem_tuple_whole ht hs pl pu (by rw [hlen];exact hw) ⟨.ref a,H,I,rfl,q a H (fun _ _ e=>e) ?_⟩
  have:cutV xs lo hi=xs:=by
   unfold cutV;rw [hw.1,hw.2,Y6,q9,R7]
  rw [this];exact hx
 ·exact qbI Ab s σ H (.ref a) v vl vu lo hi sl Q I rx hs pl pu ⟨a,xs,rfl,.inl hx,hw,fun p hp=>q p _ (fun b u e=>by rw [qA9 (qA6 e hp)];exact e) (.inl qA1)⟩
end
end L2
namespace Fw
open PySem L2
end Fw
namespace L2
open PySem PySem.Spec PyProof.Rows Fw
section
variable {X:Cx} {Ab:Aa2} {σ:St} {H:Hp} {s:Shared}
end
open PySem PySem.Spec PyProof.Rows
section
variable {X:Cx}
end
end L2
namespace HT
open PySem PySem.Spec PyProof.Rows
section
variable {prog:B30} {w:World} {A:Around} {E:Aa1} {s:Shared}
end
end HT
namespace L2
open PySem PySem.Spec PyProof.Rows Fw
section
variable {X:Cx} {e:Expr} {te:TE} {st:Option Expr} {tst:TO} {pos p2:Pos}
end
open PySem PySem.Spec PyProof.Rows
section
variable {X:Cx}
theorem qZG {Ab:Aa2} {σ:St} {H:Hp} (I:Inv X Ab σ H s) (hu:A.units<cLine) {a b:Addr} {zs ys:List Int} (ha:H a=some (.tup (zs.map V.int))) (hb:H b=some (.tup (ys.map V.int))):SeqAt.EqAt A s (.ref a) (.ref b) (decide (zs=ys)):=by
 have inj:∀ {u v:List Int},u.map V.int=v.map V.int->u=v:=by
  intro u
  induction u with
  | nil=>intro v h;cases v with | nil=>rfl | cons _ _=>cases h
  | cons x u ih=>
   intro v h;cases v with
   | nil=>cases h
   | cons y v=>
    rw [D0,D0] at h
    injection h with h1 h2
    injection h1 with h1
    rw [h1,ih h2]
 by_cases e:a=b
 ·subst e;rw [ha] at hb
  injection hb with hb
  injection hb with hb
  rw [decide_eq_true (inj hb)];exact A89 _
 ·obtain ⟨us,r1,p1,z1⟩:=I.tuple (Ac0 ha);obtain ⟨vs,r2,p2,z2⟩:=I.tuple (Ac0 hb);have l1:=r1.length;have l2:=r2.length;rw [A0] at l1 l2;refine SeqAt.EqAt.of_refs e ?_;have key:=SeqAt.RcAt.tuples (A:=A) (s:=s) (e:=fun j=>decide (zs[j]?=ys[j]?)) p1 p2 hu (fun j h1 h2=>by
   rw [C0] at h1 h2;have hz:j<zs.length:=by lia
   have hy:j<ys.length:=by lia
   obtain ⟨a,ea,ra⟩:=r1.get (i:=j) (x:=.int zs[j]) (by rw [B6,A5 hz];rfl)
   obtain ⟨b,eb,rb⟩:=r2.get (i:=j) (x:=.int ys[j]) (by rw [B6,A5 hy];rfl)
   obtain ⟨t,rfl⟩:=ra;obtain ⟨t',rfl⟩:=rb;have e1:us.toArray[j]=.int zs[j] t:=by
    rw [A33];exact D7 ((A5 h1).symm.trans ea)
   have e2:vs.toArray[j]=.int ys[j] t':=by
    rw [A33];exact D7 ((A5 h2).symm.trans eb)
   rw [e1,e2];have:=p6 (A:=A.in1) (s:=s) zs[j] t ys[j] t';rw [show (zs[j] == ys[j])=decide (zs[j]?=ys[j]?) by rw [A5 hz,A5 hy];by_cases c:zs[j]=ys[j] <;> simp [c]] at this
   exact this)
  have eb:((G2 (min us.toArray.size vs.toArray.size)).all (fun j=>decide (zs[j]?=ys[j]?)) && us.toArray.size == vs.toArray.size)=decide (zs=ys):=by
   rw [C0,C0,<- l1,<- l2,J4,J2,G1,beq_iff_eq,decide_eq_true_eq]
   constructor
   ·rintro ⟨h1,h2⟩;refine A68 fun i=>?_;by_cases hi:i<zs.length
    ·exact of_decide_eq_true (h1 i (F5.mpr (by lia)))
    ·rw [M6 (by lia),M6 (by lia)]
   ·rintro rfl;exact ⟨fun _ _=>decide_eq_true rfl,rfl⟩
  rw [eb] at key;exact key
theorem qZU {rs:List Addr} {us:List Value} (h:Vals (rs.map V.ref) us):us=rs.map C7:=by
 induction rs generalizing us with
 | nil=>cases h;rfl
 | cons a rs ih=>cases h with | cons h1 h2=>cases h1;rw [ih h2];rfl
theorem qGY (hu:X.A.units+64<cLine):OpR X (B46 .NotIn) (fun x y H Q=>∃ (p l:Addr) (zs:List Int) (rs:List Addr) (ts:Aa0),x=.ref p/\y=.ref l/\H p=some (.tup (zs.map V.int))/\SqL X.K H l (rs.map V.ref)/\Paired (fun (r:Addr) (t:List Int)=>H r=some (.tup (t.map V.int))) rs ts/\Q (.bl (decide (zs ∉ ts))) H):=by
 intro Ab s σ H x y v u Q I rx ry h;obtain ⟨p,l,zs,rs,ts,rfl,rfl,h1,h2,T,q⟩:=h;cases rx;cases ry;obtain ⟨its,r,pl,hz⟩:=I.list h2;have ei:=qZU r;subst ei;have mem:∀ {rs:List Addr} {ts:Aa0},Paired (fun (r:Addr) (t:List Int)=>H r=some (.tup (t.map V.int))) rs ts->∀ r ∈ rs,∃ t:List Int,H r=some (.tup (t.map V.int)):=by
  intro rs ts h
  induction h with
  | nil=>exact fun r hr=>nomatch hr
  | cons g _ ih=>exact fun r hr=>(C1.mp hr).elim (fun e=>⟨_,e ▸ g⟩) (ih r)
 refine SeqAt.notIn_listAt (fun w=>decide (L2.G.keyH H w=zs)) pl.isList (fun w hw=>?_) ⟨.bl _,H,I,rfl,?_⟩
 ·obtain ⟨r0,hr0,rfl⟩:=D5.mp (show w ∈ rs.map C7 by simpa using hw)
  obtain ⟨t,ht⟩:=mem T r0 hr0;rw [L2.G.keyH_at ht];exact qZG I (by show X.A.units+1<cLine;lia) ht h1
 ·have e:(!(rs.map C7).toArray.any fun w=>decide (L2.G.keyH H w=zs))=decide (zs ∉ ts):=by
   have e2:((rs.map C7).any fun w=>decide (L2.G.keyH H w=zs))=decide (zs ∈ ts):=by
    clear q r pl hz h2
    induction T with
    | nil=>simp
    | @cons r0 t rs ts g _ ih=>
     rw [D0,V6,ih,L2.G.keyH_at g,J4,X0,decide_eq_true_eq,decide_eq_true_eq,decide_eq_true_eq,C1];exact ⟨fun h=>h.imp B24 id,fun h=>h.imp B24 id⟩
   rw [List.any_toArray,e2];by_cases c:zs ∈ ts
   ·rw [decide_eq_true c,decide_eq_false (fun z=>z c)];rfl
   ·rw [decide_eq_false c,decide_eq_true c];rfl
  rw [e];exact q
end
end L2
namespace Fw
open PySem L2
abbrev MovL (H:Hp):List Addr->List (Str × Int)->Prop:=Paired fun r m=>H r=some (.tup [.str m.1,.int m.2])
theorem MovL.same {H H':Hp} {rs:List Addr} {ms:List (Str × Int)} (h:MovL H rs ms) (k:Same H H'):MovL H' rs ms:=by
 induction h with
 | nil=>exact .nil
 | cons r t ih=>exact .cons (k _ _ r) ih
theorem MovL.put {H:Hp} {p:Addr} {xs:List V} {o:HO} {rs:List Addr} {ms:List (Str × Int)} (h:MovL H rs ms) (hp:H p=some (.lst xs)):MovL (Ag H p o) rs ms:=by
 induction h with
 | nil=>exact .nil
 | cons r t ih=>exact .cons (by rw [qA9 (qCF r hp (by intro z;cases z))];exact r) ih
theorem qRW {α β:Type} {F:α->β->Prop} {a c:List α} {b d:List β} (h:Paired F a b) (k:Paired F c d):Paired F (a++c) (b++d):=by
 induction h with
 | nil=>exact k
 | cons r t ih=>exact .cons r ih
theorem MovL.snoc {H:Hp} {rs:List Addr} {ms:List (Str × Int)} {r:Addr} {wo:Str} {x:Int} (h:MovL H rs ms) (e:H r=some (.tup [.str wo,.int x])):MovL H (rs++[r]) (ms++[(wo,x)]):=Z2 h e
theorem MovL.app {H:Hp} {rs rs':List Addr} {ms ms':List (Str × Int)} (h:MovL H rs ms) (h':MovL H rs' ms'):MovL H (rs++rs') (ms++ms'):=qRW h h'
def qIG (w:Str) (n:Nat):List (Str × Int):=(G2 n).map fun (i:Nat)=>(w,(i:Int))
theorem qL0 (w:Str) (n:Nat):qIG w (n+1)=qIG w n++[(w,0+(n:Int))]:=by
 unfold qIG;rw [A21,B1,A75]
 rfl
theorem qF5 (w:Str) (n:Nat):(qIG w n).length=n:=by unfold qIG;simp
def wd (Ae:Aa0) (st:List Int) (Aa:Int) (m:Str × Int):V:=qDQ ((Ae[m.2.toNat]?).getD []) st Aa m.1 m.2
def qKM (n:Nat):List (Str × Int):=qIG "do" n++qIG "clear" n
def qDZ (Ae:Aa0) (st:List Int) (Aa:Int):List (Str × Int):=(qKM Ae.length).filter fun m=>decide (wd Ae st Aa m=.non)
theorem qNU (n:Nat):(qKM n).length=n+n:=by unfold qKM;rw [B0,qF5,qF5]
theorem qR4 {n:Nat} {m:Str × Int} (h:m ∈ qKM n):(m.1 = "do"\/m.1 = "clear")/\0<=m.2/\m.2<(n:Int):=by
 unfold qKM qIG at h;rcases B3.mp h with h | h
 ·obtain ⟨i,hi,rfl⟩:=D5.mp h;have:=F5.mp hi;exact ⟨.inl rfl,by simp;lia⟩
 ·obtain ⟨i,hi,rfl⟩:=D5.mp h;have:=F5.mp hi;exact ⟨.inr rfl,by simp;lia⟩
def qJ1:Sp:=fun vs H Q _=>∃ (a s:Addr) (Ae:Aa0) (st:List Int) (Aa:Int),vs=[.ref a,.int Aa,.ref s]/\NetAt H a Ae/\WFn Ae/\Ae.length<=1000/\H s=some (.tup (st.map V.int))/\st.length<=1000/\
 ∀ l rs H',Same H H'->H l=none->H' l=some (.lst (rs.map V.ref))->MovL H' rs (qDZ Ae st Aa)->Q (.ref l) H'
theorem qG9 {n:Int} {i:Nat} (h:(i:Int)<n):(qBM 0 n)[i]?=some (i:Int):=by
 unfold qBM;rw [B6,List.getElem?_range (by lia)]
 simp
theorem qB7 {α:Type} {l:List α} {n:Nat} (h:l.length=n):l.take n=l:=C4 (by lia)
theorem qSC {p:Int->Bool} {n:Nat} :((qBM 0 (n:Int)).filter p).length<=n:=by
 have:=T8 p (qBM 0 (n:Int));rw [qDT] at this
 lia
theorem qBZ {p:Int->Bool} {l:List Int} {i:Nat} :((l.take i).filter p).length<=i:=by
 have:=T8 p (l.take i);rw [C5] at this
 lia
structure Cnt (n:Nat) (cs:List Int) (seen:List Int):Prop where
 len:cs.length=n
 at_:∀ x:Nat,x<n->∃ c,cs[x]?=some c/\0<=c/\(c=0 ↔ (x:Int) ∉ seen)
theorem qBF {n:Nat} (h:n<=1000000):n<B28:=by rw [B39];lia
inductive Nd (Ae:Aa0) (Ad:List Int):Int->Prop
 | ask {x:Int}:x ∈ Ad->Nd Ae Ad x
 | need {w y:Int} {zs:List Int}:Nd Ae Ad w->Ae[w.toNat]?=some zs->y ∈ zs->Nd Ae Ad y
structure KeysI (Af:List (Key × V)) (ks:List Int):Prop where
 keys:Af.map (·.1)=ks.map E3
 nd:ks.Nodup
theorem KeysI.len {Af:List (Key × V)} {ks:List Int} (h:KeysI Af ks):Af.length=ks.length:=by
 have:=congrArg V5 h.keys;simpa using this
theorem KeysI.nil:KeysI [] []:=⟨rfl,.nil⟩
theorem qPP (k:Key):∀ Af:List (Key × V),(Af.any fun kv=>decide (kv.1=k))=true ↔ k ∈ Af.map (·.1)
 | []=>by simp
 | p::r=>by
  rw [V6,D0,X0,qPP k r,C1,decide_eq_true_eq];exact or_congr_left ⟨B24,B24⟩
theorem KeysI.mem {Af:List (Key × V)} {ks:List Int} (h:KeysI Af ks) (x:Int):(E3 x:Key) ∈ Af.map (·.1) ↔ x ∈ ks:=by
 rw [h.keys,D5];exact ⟨fun ⟨y,hy,e⟩=>i0 e ▸ hy,fun hx=>⟨x,hx,rfl⟩⟩
theorem KeysI.has {Af:List (Key × V)} {ks:List Int} (h:KeysI Af ks) (x:Int):(valV Af (E3 x)).isSome=decide (x ∈ ks):=by
 rw [<- qFK];have:=(qPP (E3 x) Af).trans (h.mem x);by_cases e:x ∈ ks
 ·rw [decide_eq_true e];exact this.mpr e
 ·rw [decide_eq_false e];exact E8.mpr fun z=>e (this.mp z)
theorem qQT (k:Key) (v:V):∀ Af:List (Key × V),(Af.map fun kv=>if kv.1=k then (kv.1,v) else kv).map (·.1)=Af.map (·.1)
 | []=>rfl
 | p::r=>by
  rw [D0,D0,D0,qQT k v r];congr 1
  split <;> rfl
theorem KeysI.put {Af:List (Key × V)} {ks:List Int} (h:KeysI Af ks) (x:Int) (v:V):KeysI (putK Af (E3 x) v) (addI ks x):=by
 have key:=(qPP (E3 x) Af).trans (h.mem x);unfold putK addI;by_cases e:x ∈ ks
 ·rw [if_pos (key.mpr e),if_pos e];exact ⟨by rw [qQT];exact h.keys,h.nd⟩
 ·rw [if_neg fun z=>e (key.mp z),if_neg e];refine ⟨by rw [B1,B1,h.keys];rfl,qJG h.nd e⟩
theorem qU4 {ks:List Int} {n:Nat} (h:ks.Nodup) (b:∀ x ∈ ks,0<=x/\x<(n:Int)):ks.length<=n:=by
 have sub:ks ⊆ (G2 n).map fun (i:Nat)=>(i:Int):=fun x hx=>by
  have:=b x hx;exact D5.mpr ⟨x.toNat,F5.mpr (by lia),by lia⟩
 have:=V4 h sub;simpa using this
structure Fnd (Ae:Aa0) (Ad ks:List Int) (j:Int):Prop where
 in_:∀ x ∈ ks,(0<=x/\x<(Ae.length:Int))/\Nd Ae Ad x
 ask:∀ x ∈ Ad,x ∈ ks
 clo:∀ (w:Nat) zs,j<=(w:Int)->(w:Int) ∈ ks->Ae[w]?=some zs->∀ y ∈ zs,y ∈ ks
theorem Fnd.all {Ae:Aa0} {Ad ks:List Int} (wf:WFn Ae) (h:Fnd Ae Ad ks 0) (x:Int):x ∈ ks ↔ Nd Ae Ad x:=by
 refine ⟨fun hx=>(h.in_ x hx).2,fun hx=>?_⟩
 induction hx with
 | ask m=>exact h.ask _ m
 | @need w y zs _ e m ih=>
  have b:=(h.in_ w ih).1;exact h.clo w.toNat zs (by lia) (by rw [show ((w.toNat:Nat):Int)=w by lia];exact ih) e y m
def qBK (Ae:Aa0) (Ad zs:List Int):Prop:=Rise (Ae.length:Int) zs/\∀ x,x ∈ zs ↔ Nd Ae Ad x
theorem qSX:∀ {l m:List Int},l.Pairwise (·<·)->m.Pairwise (·<·)->(∀ x,x ∈ l ↔ x ∈ m)->l=m
 | [],[],_,_,_=>rfl
 | [],y::m,_,_,h=>absurd ((h y).mpr (by simp)) (by simp)
 | x::l,[],_,_,h=>absurd ((h x).mp (by simp)) (by simp)
 | x::l,y::m,hl,hm,h=>by
  have l1:=O0.mp hl;have m1:=O0.mp hm;have exy:x=y:=by
   rcases C1.mp ((h x).mp (by simp)) with e | e
   ·exact e
   ·rcases C1.mp ((h y).mpr (by simp)) with e2 | e2
    ·exact e2.symm
    ·have:=m1.1 x e;have:=l1.1 y e2
     lia
  subst exy;rw [qSX l1.2 m1.2 fun z=>?_]
  constructor
  ·intro hz;rcases C1.mp ((h z).mp (by simp [hz])) with e | e
   ·have:=l1.1 z hz;lia
   ·exact e
  ·intro hz;rcases C1.mp ((h z).mpr (by simp [hz])) with e | e
   ·have:=m1.1 z hz;lia
   ·exact e
def qC7 (ws:List Int) (x:Int):Option Int:=if x ∈ ws then some (ws.idxOf x:Int) else none
theorem qF3 {ws:List Int} {x p:Int} (h:qC7 ws x=some p):0<=p/\ws[p.toNat]?=some x:=by
 unfold qC7 at h
 split at h
 ·rename_i m
  cases h;have lt:=List.idxOf_lt_length_iff.mpr m;refine ⟨by lia,?_⟩
  rw [E1,A5 lt,List.getElem_idxOf]
 ·cases h
theorem qFR {ws:List Int} (nd:ws.Nodup) {x:Int} {i:Nat} (h:ws[i]?=some x):qC7 ws x=some (i:Int):=by
 obtain ⟨hi,e⟩:=A4.mp h;unfold qC7;rw [if_pos (by rw [<- e];exact k6 hi),<- e,nd.idxOf_getElem]
theorem qKT {ws:List Int} (nd:ws.Nodup) {i:Nat} {y:Int} (h:ws[i]?=some y) (x:Int):qC7 (ws.take (i+1)) x=if x=y then some (i:Int) else qC7 (ws.take i) x:=by
 obtain ⟨hi,e⟩:=A4.mp h;have tk:ws.take (i+1)=ws.take i++[y]:=by rw [C8,h];rfl
 have ndt:(ws.take (i+1)).Nodup:=nd.sublist (X6 _ _);by_cases exy:x=y
 ·subst exy;rw [if_pos rfl];exact qFR ndt (by rw [Z6 (by lia)];exact h)
 ·rw [if_neg exy];unfold qC7;rw [tk];by_cases m:x ∈ ws.take i
  ·rw [if_pos (by simp [m]),if_pos m,List.idxOf_append,if_pos m]
  ·rw [if_neg (by simp [m,exy]),if_neg m]
def qCJ (Ae:Aa0) (ws:List Int):Aa0:=ws.map fun w=>((Ae[w.toNat]?).getD []).filterMap (qC7 ws)
theorem qBX (Ae:Aa0) (ws:List Int):(qCJ Ae ws).length=ws.length:=by simp [qCJ]
theorem qNA {Ae:Aa0} {ws:List Int} {i:Nat} {w:Int} (h:ws[i]?=some w):(qCJ Ae ws)[i]?=some (((Ae[w.toNat]?).getD []).filterMap (qC7 ws)):=by
 unfold qCJ;rw [B6,h]
 rfl
theorem qY9 {ws:List Int} (up:ws.Pairwise (·<·)) {i j:Nat} {x y:Int} (hx:ws[i]?=some x) (hy:ws[j]?=some y):i<j ↔ x<y:=by
 obtain ⟨hi,ex⟩:=A4.mp hx;obtain ⟨hj,ey⟩:=A4.mp hy;have key:∀ a b (ha:a<ws.length) (hb:b<ws.length),a<b->ws[a]<ws[b]:=fun a b ha hb hab=>F9.mp up a b ha hb hab
 constructor
 ·intro h;have:=key i j hi hj h
  lia
 ·intro h;rcases i7 i j with z | z | z
  ·exact z
  ·subst z
   lia
  ·have:=key j i hj hi z
   lia
theorem qSW {ws zs:List Int} (uw:ws.Pairwise (·<·)) (uz:zs.Pairwise (·<·)):(zs.filterMap (qC7 ws)).Pairwise (·<·):=by
 rw [List.pairwise_filterMap];refine uz.imp fun {a b} hab p hp q hq=>?_;obtain ⟨p0,e1⟩:=qF3 hp;obtain ⟨q0,e2⟩:=qF3 hq;have:=(qY9 uw e1 e2).mpr hab
 lia
theorem qP0 {ws zs:List Int} (nd:ws.Nodup) {p:Int}:p ∈ zs.filterMap (qC7 ws) ↔ 0<=p/\∃ x,ws[p.toNat]?=some x/\x ∈ zs:=by
 rw [a9]
 constructor
 ·rintro ⟨x,hx,e⟩;obtain ⟨p0,e1⟩:=qF3 e;exact ⟨p0,x,e1,hx⟩
 ·rintro ⟨p0,x,e1,hx⟩;refine ⟨x,hx,?_⟩;have:=qFR nd e1;rw [this];congr 1
  lia
theorem qJF {Ae:Aa0} (wf:WFn Ae) (w:Nat):Rise (w:Int) ((Ae[w]?).getD []):=by
 cases e:Ae[w]? with
 | none=>exact Rise.nil
 | some zs=>exact wf w zs e
theorem qDV {Ae:Aa0} {ws:List Int} (wf:WFn Ae) (r:Rise (Ae.length:Int) ws):WFn (qCJ Ae ws):=by
 intro i zs h;have hi:i<ws.length:=by rw [<- qBX Ae ws];exact (A4.mp h).1
 have hw:=A5 hi;rw [qNA hw] at h;cases h;have w0:=(r.in_ ws[i] (k6 hi)).1;have nr:=qJF wf ws[i].toNat;refine ⟨qSW r.up nr.up,fun p hp=>?_⟩;obtain ⟨p0,x,e1,hx⟩:=(qP0 r.nodup).mp hp;have xb:=nr.in_ x hx;have:=(qY9 r.up e1 hw).mpr (by lia)
 lia
def qbG:Sp:=fun vs H Q _=>∃ (r d:Addr) (zs:List Int) (Af:List (Key × V)) (num:Int->Option Int),vs=[.ref r,.ref d]/\H r=some (.tup (zs.map V.int))/\zs.length<=1000/\H d=some (.dK Af)/\(∀ x,valV Af (E3 x)=(num x).map V.int)/\
 ∀ r' H',Same H H'->H' r'=some (.tup ((zs.filterMap num).map V.int))->Q (.ref r') H'
abbrev Mv:=Str × Int
def nd (Ae:Aa0) (w:Int):List Int:=(Ae[w.toNat]?).getD []
def qYV (Ae:Aa0):List Int->Int->Option Int
 | [],_=>none
 | w::r,y=>match qYV Ae r y with
  | some v=>some v
  | none=>if y ∈ nd Ae w then some w else none
def later (Ae:Aa0) (zs:List Int) (j:Nat) (x:Int):Prop:=∃ v ∈ zs.drop j,x ∈ nd Ae v
instance (Ae:Aa0) (zs:List Int) (j:Nat) (x:Int):Decidable (later Ae zs j x):=by unfold later;infer_instance
def clrs (Ae:Aa0) (Ad zs:List Int) (w:Int):List Int:=(nd Ae w).filter fun y=>decide (qYV Ae zs y=some w/\y ∉ Ad)
def qdK (Ae:Aa0) (Ad zs:List Int) (w:Int):List Mv:=("do",w)::(clrs Ae Ad zs w).map fun y=>("clear",y)
def qbS (Ae:Aa0) (Ad zs:List Int):List Mv:=zs.flatMap (qdK Ae Ad zs)
inductive Run (Ae:Aa0) (Aa:Int):List Int->List Mv->List Int->Prop
 | nil {s:List Int}:Run Ae Aa s [] s
 | do_ {s s' t:List Int} {w:Int} {ms:List Mv}:w ∉ s->(∀ y ∈ nd Ae w,y ∈ s)->(s.length:Int)<Aa->s'.Perm (s++[w])->s'.Pairwise (·<·)->Run Ae Aa s' ms t->Run Ae Aa s (("do",w)::ms) t
 | clear {s t:List Int} {w:Int} {ms:List Mv}:w ∈ s->Run Ae Aa (s.filter fun x=>decide (x ≠ w)) ms t->Run Ae Aa s (("clear",w)::ms) t
def qe1 (ms:List Mv):List Int:=ms.filterMap fun (m:Mv)=>if m.1=D4 "do" then some m.2 else none
section
variable {Ae:Aa0} {Ad zs:List Int}
theorem qKZ {ys:List Int} (a:qBK Ae Ad zs) (b:qBK Ae Ad ys):zs=ys:=qSX a.1.up b.1.up fun x=>(a.2 x).trans (b.2 x).symm
end
def qZA (H:Hp) (l:Addr) (ms:List Mv):Prop:=∃ rs:List Addr,H l=some (.lst (rs.map V.ref))/\MovL H rs ms
def qHX (H:Hp) (t:Addr) (Ae:Aa0) (Ad:List Int):Prop:=H t=some (.tup (Ad.map V.int))/\Rise (Ae.length:Int) Ad
def qT8:Sp:=fun vs H Q _=>∃ d c t ns a Ae,vs=[.ref d,.ref a]/\StAt H d c t ns/\t<=TB - 100/\NetAt H a Ae/\WFn Ae/\1<=Ae.length/\Ae.length<=400/\
 ∀ r ws t' ns' H',StAt H' d c t' ns'->t<=t'->t'<=t+10->Keep d c H H'->H' r=some (.tup (ws.map V.int))->Rise (Ae.length:Int) ws->1<=ws.length->Q (.ref r) H'
def qQ2:Sp:=fun vs H Q _=>∃ (a t:Addr) (Ae:Aa0) (Ad:List Int),vs=[.ref a,.ref t]/\NetAt H a Ae/\WFn Ae/\Ae.length<=1000/\qHX H t Ae Ad/\
 ∀ l zs H',Same H H'->H l=none->H' l=some (.lst (zs.map V.int))->qBK Ae Ad zs->Q (.ref l) H'
theorem qVV:B33 "dict" = some (.type "dict"):=by decide +kernel
def lv (L:List Int) (x:Int):Int:=(L[x.toNat]?).getD 0
structure Lev (Ae:Aa0) (L:List Int):Prop where
 len:L.length=Ae.length
 at_:∀ (i:Nat) zs,Ae[i]?=some zs->∃ l,L[i]?=some l/\0<=l/\l<=(i:Int)/\(∀ y ∈ zs,lv L y+1<=l)/\(l=0\/∃ y ∈ zs,lv L y+1=l)
structure Fd (n:Nat) (L:List Int) (S:Int->Prop) (fs:List Int):Prop where
 len:fs.length=n
 at_:∀ w:Nat,w<n->(S w->fs[w]?=some (lv L w))/\(¬ S w->fs[w]?=some 0)
structure CntX (n:Nat) (cs:List Int) (seen:List Int):Prop where
 len:cs.length=n
 at_:∀ x:Nat,x<n->cs[x]?=some ((seen.count (x:Int):Nat):Int)
def Beh (st st':List Int) (Ac:Str) (wk:Int):Prop:=(Ac = "do"->st'.Perm (st++[wk])/\st'.Pairwise (·<=·))/\(Ac = "clear"->st'=st.filter fun x=>decide (x ≠ wk))
theorem qRM:∀ {l m:List Int},l.Perm m->l.Pairwise (·<=·)->m.Pairwise (·<=·)->l=m:=by
 intro l m hp h1 h2;exact hp.eq_of_pairwise (fun a b _ _ h3 h4=>Int.le_antisymm h3 h4) h1 h2
theorem Beh.one {st a b:List Int} {Ac:Str} {wk:Int} (hw:Ac = "do"\/Ac = "clear") (h1:Beh st a Ac wk) (h2:Beh st b Ac wk):a=b:=by
 rcases hw with e | e
 ·obtain ⟨p1,s1⟩:=h1.1 e;obtain ⟨p2,s2⟩:=h2.1 e;exact qRM (p1.trans p2.symm) s1 s2
 ·rw [h1.2 e,h2.2 e]
def qEZ:Sp:=fun vs H Q _=>∃ (s mv:Addr) (st:List Int) (Ac:Str) (wk:Int),vs=[.ref s,.ref mv]/\H s=some (.tup (st.map V.int))/\st.length<=62/\H mv=some (.tup [.str Ac,.int wk])/\(Ac = "do"\/Ac = "clear")/\
 ∀ r st' H',Same H H'->H' r=some (.tup (st'.map V.int))->Beh st st' Ac wk->Q (.ref r) H'
inductive Play (Ae:Aa0) (Aa:Int):List Int->List Mv->Aa0->V->Prop
 | nil {st}:Play Ae Aa st [] [] .non
 | stop {st m ms w0}:wd Ae st Aa m=.str w0->Play Ae Aa st (m::ms) [] (.str w0)
 | go {st st' m ms sts v}:wd Ae st Aa m=.non->Beh st st' m.1 m.2->Play Ae Aa st' ms sts v->Play Ae Aa st (m::ms) (st'::sts) v
def MvOk (Ae:Aa0) (ms:List Mv):Prop:=∀ m ∈ ms,(m.1 = "do"\/m.1 = "clear")/\0<=m.2/\m.2<(Ae.length:Int)
def qY5 (H:Hp) (l:Addr) (sts:Aa0):Prop:=∃ rs:List Addr,H l=some (.lst (rs.map V.ref))/\NetL H rs sts
structure YNa (K:Ab1) (C:Addr):Prop where
 Ae:qRD K C "net"
 Aa:qRD K C "rooms"
 made:qRD K C "made"
 stands:qRD K C "stands"
def yfs (a:Addr) (Aa:Int) (lm ls:Addr):List (Str × V):=putF "stands" (.ref ls) (putF "made" (.ref lm) (putF "rooms" (.int Aa) (putF "net" (.ref a) [])))
structure YardAt (C:Addr) (H:Hp) (y a lm ls:Addr) (Ae:Aa0) (Aa:Int) (ms:List Mv) (sts:Aa0):Prop where
 obj:∃ dx,H y=some (.ins C dx (yfs a Aa lm ls))
 nat:NetAt H a Ae
 wf:WFn Ae
 n400:Ae.length<=400
 r0:0<=Aa
 r62:Aa<=62
 made:qZA H lm ms
 ok:MvOk Ae ms
 len:ms.length<=10000
 stands:qY5 H ls ([]::sts)
 play:Play Ae Aa [] ms sts .non
 ne:lm ≠ ls
section
variable {Ae:Aa0}
def qaU (Ae:Aa0):Nat->List Int
 | 0=>[]
 | i+1=>qaU Ae i++[if nd Ae (i:Int)=[] then 1 else ((nd Ae (i:Int)).map fun z=>(qaU Ae i).getD z.toNat 0).sum]
def cn (Ae:Aa0) (z:Int):Int:=(qaU Ae (z.toNat+1)).getD z.toNat 0
def hd (p:List Int):Int:=p.headD 0
def apF (Ae:Aa0):Nat->List Int->Aa0
 | 0,p=>[p]
 | n+1,p=>if nd Ae (hd p)=[] then [p] else ((nd Ae (hd p)).reverse.map fun z=>apF Ae n (z::p)).flatten
def aP (Ae:Aa0) (p:List Int):Aa0:=apF Ae ((hd p).toNat+1) p
structure POk (Ae:Aa0) (p:List Int):Prop where
 ne:p ≠ []
 h0:0<=hd p
 h1:hd p<(Ae.length:Int)
 len:(p.length:Int)+hd p<=(Ae.length:Int)
structure PWay (Ae:Aa0) (work:Int) (fs st:Aa0):Prop where
 all:fs++(st.map (aP Ae)).flatten=aP Ae [work]
 ok:∀ p ∈ st,POk Ae p
 fok:∀ p ∈ fs,POk Ae p
end
def TLAt (H:Hp) (l:Addr) (ts:Aa0):Prop:=∃ rs:List Addr,H l=some (.lst (rs.map V.ref))/\NetL H rs ts
theorem qPS {H:Hp} {a b:Addr} {zs:List Int} (h1:H a=some (.tup (zs.map V.int))) (h2:H b=some (.tup (zs.map V.int))) (hl:zs.length<=100000):Alike H 1 (.ref a) (.ref b):=by
 refine .inr ⟨true,a,b,_,_,rfl,rfl,h1,h2,rfl,by rw [A0];exact hl,fun i x y hx hy=>?_⟩
 rw [hx] at hy;cases hy;obtain ⟨z,_,rfl⟩:=qAX hx;exact ⟨rfl,.inr (.inl ⟨_,rfl⟩)⟩
theorem qY3 {H:Hp} {a b:Addr} {ts:Aa0} (h1:TLAt H a ts) (h2:TLAt H b ts) (hl:ts.length<=100000) (hz:∀ t ∈ ts,t.length<=100000):Alike H 2 (.ref a) (.ref b):=by
 obtain ⟨rs,ha,N1⟩:=h1;obtain ⟨ss,hb,N2⟩:=h2;refine .inr ⟨false,a,b,_,_,rfl,rfl,ha,hb,by rw [A0,A0,B7 N1,B7 N2],by rw [A0,B7 N1];exact hl,fun i x y hx hy=>?_⟩
 obtain ⟨r,hr,rfl⟩:=qC6 hx;obtain ⟨r',hr',rfl⟩:=qC6 hy;obtain ⟨z,ez,gz⟩:=qAU N1 hr;obtain ⟨z',ez',gz'⟩:=qAU N2 hr';rw [ez] at ez';cases ez';exact qPS gz gz' (hz z (B5 ez))
abbrev qcG (s:Nat × Nat):List Key:=[E3 (s.1:Int),E3 (s.2:Int)]
structure NumP (rs:List Addr) (ss:List (Nat × Nat)) (j:Nat) (ps:List (List Key × Addr × V)):Prop where
 keys:ps.map (·.1)=(ss.take j).map qcG
 at_:∀ (k:Nat) (s:Nat × Nat),k<j->ss[k]?=some s->∃ a,ps[k]?=some (qcG s,a,.int (k:Int))
def qQ0:Sp:=fun vs H Q _=>∃ i:Int,vs=[.int i]/\Q (.bl true) H
def qT6:Sp:=fun vs H Q _=>∃ i k:Int,vs=[.int i,.int k]/\0<=i/\i<k/\Q (.bl true) H
def qaF (ins:List (Int × Int)) (x:Int):Option Int:=(ins.find? fun q=>decide (q.1=x)).map (·.2)
def qdC (ins:List (Int × Int)) (i:Nat):Nat:=((G2 i).filter fun (x:Nat)=>(qaF ins (x:Int)).isNone).length
def numO (m:Nat) (ins:List (Int × Int)) (x:Nat):Int:=match qaF ins (x:Int) with | some v=>v | none=>((m+qdC ins x:Nat):Int)
structure InsAt (H:Hp) (i:Addr) (ins:List (Int × Int)):Prop where
 at_:∃ rs:List Addr,BareT H i (rs.map V.ref)/\Paired (fun r (q:Int × Int)=>H r=some (.tup [.int q.1,.int q.2])) rs ins
 nodup:(ins.map (·.1)).Nodup
structure InsOk (m:Nat) (other:Aa0) (k:Nat) (ins:List (Int × Int)) (fs:List Int):Prop where
 st:∀ q ∈ ins,(0<=q.1/\q.1<(k:Int))/\other[q.1.toNat]?=some []/\0<=q.2/\q.2<(m:Int)
 nd1:(ins.map (·.1)).Nodup
 nd2:(ins.map (·.2)).Nodup
 fr:fs.Nodup
 fin:∀ x ∈ fs,(0<=x/\x<(m:Int))/\x ∉ ins.map (·.2)
 len:ins.length<=k
def pm (m:Mv):Int:=if m.1 = "do" then 1 else -1
def peak:Int->List Mv->Int
 | n,[]=>n
 | n,m::ms=>max n (peak (n+pm m) ms)
def less (th s:List Int):List Int:=s.filter fun x=>decide (x ∉ th)
def qdR (th:List Int) (ms:List Mv):List Mv:=ms.filter fun m=>decide (m.2 ∉ th)
def pbGo (num:Int->Int) (jn:Int->Bool) (pl:Int->List Mv):List Int->List Mv->List Mv
 | _,[]=>[]
 | th,m::ms=>if m.1 = "clear" then ("clear",num m.2)::pbGo num jn pl (th.filter fun x=>decide (x ≠ num m.2)) ms else (if jn m.2 then qdR th (pl (num m.2)) else [("do",num m.2)])++pbGo num jn pl (th++[num m.2]) ms
structure ThOk (n:Nat) (num:Int->Int) (th s:List Int):Prop where
 perm:th.Perm (s.map num)
 rise:Rise (n:Int) s
structure TopO (Ae:Aa0) (zs:List Int):Prop where
 nodup:zs.Nodup
 in_:∀ x ∈ zs,0<=x/\x<(Ae.length:Int)
 bef:∀ (p:Nat) (o:Int),zs[p]?=some o->∀ x ∈ nd Ae o,x ∈ zs.take p
 aft:∀ (p:Nat) (o:Int),zs[p]?=some o->p+1<zs.length->later Ae zs (p+1) o
structure Begun (Ae:Aa0) (some_ ord:List Int):Prop where
 nodup:ord.Nodup
 sub:∀ x ∈ ord,x ∈ some_
 bef:∀ (p:Nat) (o:Int),ord[p]?=some o->∀ x ∈ nd Ae o,x ∈ ord.take p
def qYH:Sp:=fun vs H Q _=>∃ (a t:Addr) (Ae:Aa0) (Ad:List Int),vs=[.ref a,.ref t]/\NetAt H a Ae/\WFn Ae/\Ae.length<=60/\H t=some (.tup (Ad.map V.int))/\(∀ x ∈ Ad,0<=x/\x<(Ae.length:Int))/\
 ∀ l zs H',Same H H'->H l=none->H' l=some (.lst (zs.map V.int))->qBK Ae Ad zs->Q (.ref l) H'
noncomputable def ndOf (Ae:Aa0) (Ad:List Int):List Int:=by
 classical
 exact if h:∃ zs,qBK Ae Ad zs then A85 h else []
noncomputable def qYK (Ae:Aa0) (w:Int):List Mv:=qbS Ae [w] (ndOf Ae [w])
def numF (m:Nat) (ins:List (Int × Int)) (x:Int):Int:=numO m ins x.toNat
def qdU (ins:List (Int × Int)) (x:Int):Bool:=(qaF ins x).isSome
noncomputable def qeA (one:Aa0) (ins:List (Int × Int)) (ms:List Mv):List Mv:=pbGo (numF one.length ins) (qdU ins) (qYK one) [] ms
noncomputable def qdN (one:Aa0) (ins:List (Int × Int)):Int:=(topD (some 1) (ins.map fun q=>peak 0 (qYK one q.2))).getD 0
noncomputable def qe9 (one:Aa0) (ins:List (Int × Int)) (ms:List Mv):Int:=match ins with | []=>peak 0 ms | _::_=>qdN one ins+peak 0 ms - 1
structure BehIn (H:Hp) (a b i l:Addr) (one other:Aa0) (ins:List (Int × Int)) (ms:List Mv) (st:List Int):Prop where
 gA:NetAt H a one
 wf1:WFn one
 gB:NetAt H b other
 wf2:WFn other
 gI:InsAt H i ins
 ok:∃ fs,InsOk one.length other other.length ins fs
 plan:qZA H l ms
 mv:MvOk other ms
 len:ms.length<=400
 run:Run other (other.length:Int) [] ms st
 o1:1<=one.length
 o2:one.length<=60
 o3:1<=other.length
 o4:other.length<=60
theorem qX6 {Ae:Aa0} {Ad:List Int} (wf:WFn Ae) (r:Rise (Ae.length:Int) Ad) {x:Int} (h:Nd Ae Ad x):0<=x/\x<(Ae.length:Int):=by
 induction h with
 | ask m=>exact r.in_ _ m
 | need _ e hy ih=>
  have h1:=(wf _ _ e).in_ _ hy;have h2:=(A4.mp e).1
  lia
theorem qU2 {Ae:Aa0} {Ad:List Int} (wf:WFn Ae) (r:Rise (Ae.length:Int) Ad):∃ zs,qBK Ae Ad zs:=by
 classical
 refine ⟨(qBM 0 Ae.length).filter fun x=>decide (Nd Ae Ad x),⟨(qF1 _ _).filter _,fun x hx=>?_⟩,fun x=>?_⟩
 ·have:=mem_rangeI.mp (E6.mp hx).1
  lia
 ·rw [E6,decide_eq_true_eq,mem_rangeI];exact ⟨fun h=>h.2,fun h=>⟨qX6 wf r h,h⟩⟩
structure TwoIn (H:Hp) (a b i:Addr) (one other:Aa0) (ins:List (Int × Int)):Prop where
 gA:NetAt H a one
 wf1:WFn one
 gB:NetAt H b other
 wf2:WFn other
 gI:InsAt H i ins
 ok:∃ fs,InsOk one.length other other.length ins fs
 o1:1<=one.length
 o2:one.length<=40
 o3:1<=other.length
 o4:other.length<=7
theorem qb7 {Ae:Aa0} {st:List Int} {Aa:Int} {Ac:Str} {wk:Int} (hw:Ac = "do"\/Ac = "clear") (e:wd Ae st Aa (Ac,wk)=.non):(Ac = "do"->wk ∉ st/\(∀ y ∈ nd Ae wk,y ∈ st)/\(st.length:Int)<Aa)/\(Ac = "clear"->wk ∈ st):=by
 rcases hw with d | d
 ·subst d;refine ⟨fun _=>?_,fun z=>absurd z.symm qAR⟩;have e':qDE ((Ae[wk.toNat]?).getD []) st Aa wk=.non:=by
   have:=e;unfold wd qDQ at this;rw [if_pos rfl] at this;exact this
  unfold qDE at e'
  split at e'
  ·cases e'
  rename_i hn
  split at e'
  ·rename_i hall
   split at e'
   ·cases e'
   ·exact ⟨hn,hall,by lia⟩
  ·cases e'
 ·subst d;refine ⟨fun z=>absurd z qAR,fun _=>?_⟩;have e':qDR st wk=.non:=by
   have:=e;unfold wd qDQ at this;rw [if_neg (show ¬ D4 "clear" = D4 "do" from qAR)] at this
   exact this
  unfold qDR at e'
  split at e'
  ·rename_i hin;exact hin
  ·cases e'
theorem qY2 {n:Nat} {st st':List Int} {Ac:Str} {wk:Int} (r:Rise (n:Int) st) (hw:Ac = "do"\/Ac = "clear") (w0:0<=wk) (w1:wk<(n:Int)) (hd:Ac = "do"->wk ∉ st) (b:Beh st st' Ac wk):Rise (n:Int) st':=by
 rcases hw with d | d
 ·obtain ⟨p1,s1⟩:=b.1 d;refine ⟨qF6 s1 (p1.nodup_iff.mpr (qJG r.nodup (hd d))),fun x hx=>?_⟩;rcases B3.mp (p1.mem_iff.mp hx) with q | q
  ·exact r.in_ x q
  ·rw [A7.mp q];exact ⟨w0,w1⟩
 ·rw [b.2 d];exact ⟨r.up.filter _,fun x hx=>r.in_ x (E6.mp hx).1⟩
structure Ord (Ae:Aa0) (Ad os:List Int):Prop where
 nodup:os.Nodup
 in_:∀ w ∈ os,0<=w/\w<(Ae.length:Int)
 has:∀ (i:Nat) (w y:Int),os[i]?=some w->y ∈ nd Ae w->y ∈ os.take i
 used:∀ (i:Nat) (w:Int),os[i]?=some w->w ∈ Ad\/later Ae os (i+1) w
 ask:∀ x ∈ Ad,x ∈ os
section
variable {Ae:Aa0} {Ad os:List Int}
end
structure Span (Ae:Aa0) (Ad os:List Int) (K:Nat):Prop where
 near:∀ (q r:Nat) (x v:Int),os[q]?=some x->os[r]?=some v->x ∈ nd Ae v->r<=q+K
 last:∀ x ∈ Ad,∀ q:Nat,os[q]?=some x->q+1=os.length
structure Told (Ae:Aa0) (R:Int) (ms:List Mv):Prop where
 run:Run Ae R [] ms [(Ae.length:Int) - 1]
 top:peak 0 ms=R
 ok:MvOk Ae ms
 once:(qe1 ms).Perm (qBM 0 (Ae.length:Int))
 len:ms.length<=2 * Ae.length
def mskN (zs:List Int):Nat:=(zs.map fun z=>2 ^ z.toNat).sum
def cntN (n b:Nat):Nat:=((G2 n).map fun k=>b / 2 ^ k % 2).sum
def clrb (b k:Nat):Nat:=b - 2 ^ k * (b / 2 ^ k % 2)
def nxt (Ae:Aa0) (k:Nat):Nat:=mskN ((Ae[k]?).getD [])
def can (Ae:Aa0) (Aa:Int) (b k:Nat):Prop:=(cntN Ae.length b:Int)<Aa/\k<Ae.length/\b &&& nxt Ae k=nxt Ae k
inductive Rm (Ae:Aa0) (Aa:Int):Nat->Nat->Prop
 | zero:Rm Ae Aa 0 0
 | clr {m b k:Nat}:Rm Ae Aa m b->k<Ae.length->Rm Ae Aa m (clrb b k)
 | do_ {m b k:Nat}:Rm Ae Aa m b->can Ae Aa b k->Rm Ae Aa (m+1) (b ||| 2 ^ k)
def Mn (Ae:Aa0) (Aa:Int) (m b:Nat):Prop:=Rm Ae Aa m b/\∀ m',m'<m->¬ Rm Ae Aa m' b
theorem qaV (b k:Nat):clrb b k<=b:=Nat.sub_le _ _
theorem Rm.lt {Ae:Aa0} {Aa:Int} {m b:Nat} (h:Rm Ae Aa m b):b<2 ^ Ae.length:=by
 induction h with
 | zero=>exact Nat.two_pow_pos _
 | clr _ _ ih=>exact T0 (qaV _ _) ih
 | do_ _ c ih=>exact Nat.or_lt_two_pow ih (A34 (by decide) c.2.1)
theorem Rm.mono {Ae:Aa0} {r r':Int} (h:r<=r') {m b:Nat} (x:Rm Ae r m b):Rm Ae r' m b:=by
 induction x with
 | zero=>exact .zero
 | clr _ k ih=>exact .clr ih k
 | do_ _ c ih=>exact .do_ ih ⟨Int.lt_of_lt_of_le c.1 h,c.2⟩
theorem qT1 {α:Type} [DecidableEq α]:∀ {l r:List α},l.Nodup->(∀ x ∈ l,x ∈ r)->l.length<=r.length
 | [],r,_,_=>E5 _
 | a::l,r,nd,h=>by
  have nd':=U8.mp nd;have ha:=h a (F4 ..);have:=qT1 (r:=r.erase a) nd'.2 fun x hx=>(List.mem_erase_of_ne (fun (e:x=a)=>nd'.1 (e ▸ hx))).mpr (h x (C3 _ hx));rw [List.length_erase_of_mem ha] at this;have:0<r.length:=f9 ha;rw [E2]
  lia
theorem qE1 {ks:List Nat} {n:Nat} (nd:ks.Nodup) (h:∀ b ∈ ks,b<n):ks.length<=n:=by
 have:=qT1 (r:=G2 n) nd fun x hx=>F5.mpr (h x hx)
 rwa [A71] at this
theorem qHI {ks:List Nat} {x:Nat} (nd:ks.Nodup) (h:x ∉ ks):(ks++[x]).Nodup:=by
 rw [A72];exact ⟨nd,by simp,fun a ha b hb e=>h (by rw [A7.mp hb] at e;exact e ▸ ha)⟩
structure FdC (Ae:Aa0) (Aa:Int) (many:Nat) (ks:List Nat) (f:Nat->Nat):Prop where
 nd:ks.Nodup
 snd:∀ b ∈ ks,f b<=many/\Mn Ae Aa (f b) b
 zero:0 ∈ ks
 full:∀ m,m<many->∀ b,Rm Ae Aa m b->b ∈ ks
section
variable {Ae:Aa0} {Aa:Int} {many:Nat} {ks cl ly:List Nat} {f:Nat->Nat} {at_ wk:Nat}
theorem FdC.lt (h:FdC Ae Aa many ks f) {b:Nat} (hb:b ∈ ks):b<2 ^ Ae.length:=(h.snd b hb).2.1.lt
theorem FdC.len (h:FdC Ae Aa many ks f):ks.length<=2 ^ Ae.length:=qE1 h.nd fun b hb=>h.lt hb
theorem FdC.le (h:FdC Ae Aa many ks f) {m b:Nat} (hb:b ∈ ks) (r:Rm Ae Aa m b):f b<=m:=by
 apply O7;intro z;exact (h.snd b hb).2.2 m (by lia) r
def fset (f:Nat->Nat) (x v:Nat):Nat->Nat:=fun y=>if y=x then v else f y
theorem qF7 (f:Nat->Nat) (x v:Nat):fset f x v x=v:=if_pos rfl
theorem qaJ {f:Nat->Nat} {x v y:Nat} (h:y ≠ x):fset f x v y=f y:=if_neg h
theorem qF8 {f:Nat->Nat} {x v y:Nat} {ks:List Nat} (h:y ∈ ks) (hx:x ∉ ks):fset f x v y=f y:=qaJ fun e=>hx (by rw [<- e];exact h)
theorem FdC.add (h:FdC Ae Aa many ks f) {x:Nat} (hx:x ∉ ks) (r:Rm Ae Aa many x):FdC Ae Aa many (ks++[x]) (fset f x many):=by
 refine ⟨qHI h.nd hx,fun b hb=>?_,B3.mpr (.inl h.zero),fun m hm b rb=>B3.mpr (.inl (h.full m hm b rb))⟩;rcases B3.mp hb with hb | hb
 ·rw [qF8 hb hx];exact h.snd b hb
 ·rw [A7.mp hb,qF7];exact ⟨A6 _,r,fun m' hm z=>hx (h.full m' hm x z)⟩
structure A1 (Ae:Aa0) (Aa:Int) (many:Nat) (ks:List Nat) (f:Nat->Nat) (cl:List Nat) (at_ wk:Nat):Prop where
 fd:FdC Ae Aa many ks f
 dos:∀ m b k,m+1=many->Rm Ae Aa m b->can Ae Aa b k->b ||| 2 ^ k ∈ ks
 clm:∀ b,b ∈ cl ↔ b ∈ ks/\f b=many
 nd:cl.Nodup
 done:∀ i b,cl[i]?=some b->i<at_->∀ k,k<Ae.length->clrb b k ∈ ks
 dk:∀ b,cl[at_]?=some b->∀ k,k<wk->clrb b k ∈ ks
theorem A1.start:A1 Ae Aa 0 [0] (fun _=>0) [0] 0 0:=
 ⟨⟨by simp,fun b hb=>by rw [A7.mp hb];exact ⟨A6 _,.zero,fun _ z=>absurd z (G6 _)⟩,by simp,fun m hm=>absurd hm (G6 _)⟩,fun m b k e=>by lia,fun b=>by simp,by simp,fun i b _ z=>absurd z (G6 _),fun b _ k z=>absurd z (G6 _)⟩
theorem A1.hit (h:A1 Ae Aa many ks f cl at_ wk) {c:Nat} (hc:cl[at_]?=some c) (hk:clrb c wk ∈ ks):A1 Ae Aa many ks f cl at_ (wk+1):=by
 refine ⟨h.fd,h.dos,h.clm,h.nd,h.done,fun b hb k hk'=>?_⟩;by_cases e:k=wk
 ·rw [hc] at hb;cases hb;rw [e];exact hk
 ·exact h.dk b hb k (by lia)
theorem A1.add (h:A1 Ae Aa many ks f cl at_ wk) {c:Nat} (hc:cl[at_]?=some c) (hw:wk<Ae.length) (hk:clrb c wk ∉ ks):A1 Ae Aa many (ks++[clrb c wk]) (fset f (clrb c wk) many) (cl++[clrb c wk]) at_ (wk+1):=by
 have cin:=(h.clm c).mp (B5 hc);have rc:Rm Ae Aa many c:=cin.2 ▸ (h.fd.snd c cin.1).2.1;have old:∀ {i b},i<=at_->(cl++[clrb c wk])[i]?=some b->cl[i]?=some b:=fun {i b} hi e=>by
  have:=(A4.mp hc).1
  rwa [J3 (by lia)] at e
 refine ⟨h.fd.add hk (.clr rc hw),fun m b k e1 r c=>B3.mpr (.inl (h.dos m b k e1 r c)),fun b=>?_,qHI h.nd fun z=>hk ((h.clm _).mp z).1,fun i b e hi k hk'=>?_,fun b e k hk'=>?_⟩
 ·rw [B3,B3,A7,h.clm b]
  constructor
  ·rintro (z | z)
   ·exact ⟨.inl z.1,by rw [qF8 z.1 hk];exact z.2⟩
   ·exact ⟨.inr z,by rw [z,qF7]⟩
  ·rintro ⟨z | z,e⟩
   ·rw [qF8 z hk] at e;exact .inl ⟨z,e⟩
   ·exact .inr z
 ·exact B3.mpr (.inl (h.done i b (old (by lia) e) hi k hk'))
 ·have e':=old (A6 _) e;by_cases ek:k=wk
  ·rw [hc] at e';cases e';rw [ek];exact B3.mpr (.inr (A7.mpr rfl))
  ·exact B3.mpr (.inl (h.dk b e' k (by lia)))
theorem A1.next (h:A1 Ae Aa many ks f cl at_ Ae.length):A1 Ae Aa many ks f cl (at_+1) 0:=by
 refine ⟨h.fd,h.dos,h.clm,h.nd,fun i b e hi k hk=>?_,fun b _ k z=>absurd z (G6 _)⟩;by_cases ei:i=at_
 ·rw [ei] at e;exact h.dk b e k hk
 ·exact h.done i b e (by lia) k hk
theorem A1.len (h:A1 Ae Aa many ks f cl at_ wk):cl.length<=2 ^ Ae.length:=qE1 h.nd fun b hb=>h.fd.lt ((h.clm b).mp hb).1
theorem A1.all (h:A1 Ae Aa many ks f cl at_ wk) (he:cl.length<=at_):∀ m b,Rm Ae Aa m b->m<=many->b ∈ ks:=by
 intro m b r
 induction r with
 | zero=>exact fun _=>h.fd.zero
 | @clr m b k r hk ih=>
  intro hm;have hb:=ih hm;by_cases e:f b=many
  ·obtain ⟨i,hi,ei⟩:=J7 ((h.clm b).mpr ⟨hb,e⟩);exact h.done i b (by rw [A5 hi,ei]) (by lia) k hk
  ·have:=(h.fd.snd b hb);exact h.fd.full (f b) (by lia) _ (.clr this.2.1 hk)
 | @do_ m b k r c ih=>
  intro hm;by_cases e:m+1=many
  ·exact h.dos m b k e r c
  ·exact h.fd.full (m+1) (by lia) _ (.do_ r c)
structure A2 (Ae:Aa0) (Aa:Int) (many:Nat) (ks:List Nat) (f:Nat->Nat) (cl ly:List Nat) (at_ wk:Nat):Prop where
 fd:FdC Ae Aa (many+1) ks f
 clm:∀ b,b ∈ cl ↔ b ∈ ks/\f b=many
 lym:∀ b,b ∈ ly ↔ b ∈ ks/\f b=many+1
 nd:ly.Nodup
 done:∀ i b,cl[i]?=some b->i<at_->∀ k,can Ae Aa b k->b ||| 2 ^ k ∈ ks
 dk:∀ b,cl[at_]?=some b->∀ k,k<wk->can Ae Aa b k->b ||| 2 ^ k ∈ ks
theorem A1.two (h:A1 Ae Aa many ks f cl at_ wk) (he:cl.length<=at_):A2 Ae Aa many ks f cl [] 0 0:=by
 refine ⟨⟨h.fd.nd,fun b hb=>⟨by have:=(h.fd.snd b hb).1;lia,(h.fd.snd b hb).2⟩,h.fd.zero,fun m hm b r=>h.all he m b r (by lia)⟩,h.clm,fun b=>⟨fun z=>absurd z (by simp),fun z=>?_⟩,.nil,fun i b _ z=>absurd z (G6 _),fun b _ k z=>absurd z (G6 _)⟩
 have:=(h.fd.snd b z.1).1
 lia
theorem A2.hit (h:A2 Ae Aa many ks f cl ly at_ wk) {c:Nat} (hc:cl[at_]?=some c) (hk:can Ae Aa c wk->c ||| 2 ^ wk ∈ ks):A2 Ae Aa many ks f cl ly at_ (wk+1):=by
 refine ⟨h.fd,h.clm,h.lym,h.nd,h.done,fun b hb k hk' c'=>?_⟩;by_cases e:k=wk
 ·rw [hc] at hb;cases hb;rw [e] at c' ⊢;exact hk c'
 ·exact h.dk b hb k (by lia) c'
theorem A2.add (h:A2 Ae Aa many ks f cl ly at_ wk) {c:Nat} (hc:cl[at_]?=some c) (hn:can Ae Aa c wk) (hk:c ||| 2 ^ wk ∉ ks):A2 Ae Aa many (ks++[c ||| 2 ^ wk]) (fset f (c ||| 2 ^ wk) (many+1)) cl (ly++[c ||| 2 ^ wk]) at_ (wk+1):=by
 have cin:=(h.clm c).mp (B5 hc);have rc:Rm Ae Aa many c:=cin.2 ▸ (h.fd.snd c cin.1).2.1;refine ⟨h.fd.add hk (.do_ rc hn),fun b=>?_,fun b=>?_,qHI h.nd fun z=>hk ((h.lym _).mp z).1,fun i b e hi k c'=>B3.mpr (.inl (h.done i b e hi k c')),fun b e k hk' c'=>?_⟩
 ·rw [h.clm b,B3,A7]
  constructor
  ·rintro ⟨z,e⟩;exact ⟨.inl z,by rw [qF8 z hk];exact e⟩
  ·rintro ⟨z | z,e⟩
   ·rw [qF8 z hk] at e;exact ⟨z,e⟩
   ·rw [z,qF7] at e
    lia
 ·rw [B3,B3,A7,h.lym b]
  constructor
  ·rintro (z | z)
   ·exact ⟨.inl z.1,by rw [qF8 z.1 hk];exact z.2⟩
   ·exact ⟨.inr z,by rw [z,qF7]⟩
  ·rintro ⟨z | z,e⟩
   ·rw [qF8 z hk] at e;exact .inl ⟨z,e⟩
   ·exact .inr z
 ·by_cases ek:k=wk
  ·rw [hc] at e;cases e;rw [ek];exact B3.mpr (.inr (A7.mpr rfl))
  ·exact B3.mpr (.inl (h.dk b e k (by lia) c'))
theorem A2.next (h:A2 Ae Aa many ks f cl ly at_ Ae.length):A2 Ae Aa many ks f cl ly (at_+1) 0:=by
 refine ⟨h.fd,h.clm,h.lym,h.nd,fun i b e hi k c=>?_,fun b _ k z=>absurd z (G6 _)⟩;by_cases ei:i=at_
 ·rw [ei] at e;exact h.dk b e k c.2.1 c
 ·exact h.done i b e (by lia) k c
theorem A2.skip (h:A2 Ae Aa many ks f cl ly at_ wk) {c:Nat} (hc:cl[at_]?=some c) (hn:¬ (cntN Ae.length c:Int)<Aa):A2 Ae Aa many ks f cl ly (at_+1) 0:=by
 refine ⟨h.fd,h.clm,h.lym,h.nd,fun i b e hi k c'=>?_,fun b _ k z=>absurd z (G6 _)⟩;by_cases ei:i=at_
 ·rw [ei,hc] at e;cases e;exact absurd c'.1 hn
 ·exact h.done i b e (by lia) k c'
theorem A2.one (h:A2 Ae Aa many ks f cl ly at_ wk) (he:cl.length<=at_):A1 Ae Aa (many+1) ks f ly 0 0:=by
 refine ⟨h.fd,fun m b k e r c=>?_,h.lym,h.nd,fun i b _ z=>absurd z (G6 _),fun b _ k z=>absurd z (G6 _)⟩;have em:m=many:=by lia
 subst em;have hb:=h.fd.full m (by lia) b r
 have hle:=h.fd.le hb r;by_cases e':f b=m
 ·obtain ⟨i,hi,ei⟩:=J7 ((h.clm b).mpr ⟨hb,e'⟩);exact h.done i b (by rw [A5 hi,ei]) (by lia) k c
 ·exact h.fd.full (f b+1) (by lia) _ (.do_ (h.fd.snd b hb).2.1 c)
structure Come (Ae:Aa0) (Aa:Int) (ks:List Nat) (f:Nat->Nat):Prop where
 nd:ks.Nodup
 snd:∀ b ∈ ks,Mn Ae Aa (f b) b
 all:∀ m b,Rm Ae Aa m b->b ∈ ks
theorem A1.come (h:A1 Ae Aa many ks f [] at_ wk):Come Ae Aa ks f:=by
 have lt:∀ b ∈ ks,f b<many:=fun b hb=>by
  have h1:=(h.fd.snd b hb).1;have h2:f b ≠ many:=fun e=>nomatch (h.clm b).mpr ⟨hb,e⟩
  lia
 refine ⟨h.fd.nd,fun b hb=>(h.fd.snd b hb).2,fun m b r=>?_⟩
 induction r with
 | zero=>exact h.fd.zero
 | @clr m b k r hk ih=>exact h.fd.full (f b) (lt b ih) _ (.clr (h.fd.snd b ih).2.1 hk)
 | @do_ m b k r c ih=>
  have:=lt b ih;by_cases e:f b+1=many
  ·exact h.dos (f b) b k e (h.fd.snd b ih).2.1 c
  ·exact h.fd.full (f b+1) (by lia) _ (.do_ (h.fd.snd b ih).2.1 c)
end
def kvN (ks:List Nat) (f:Nat->Nat):List (Key × V):=ks.map fun (b:Nat)=>((E3 (b:Int):Key),V.int (f b:Int))
theorem qP5 (ks:List Nat) (f:Nat->Nat):(kvN ks f).length=ks.length:=by simp [kvN]
theorem qP4 (ks:List Nat) (f:Nat->Nat) (x:Nat):valV (kvN ks f) (E3 (x:Int))=if x ∈ ks then some (.int (f x:Int)) else none:=by
 induction ks with
 | nil=>rfl
 | cons b ks ih=>
  show ((((E3 (b:Int):Key),V.int (f b:Int))::kvN ks f).find? fun kv=>decide (kv.1=E3 (x:Int))).map (·.2)=_;rw [V0];by_cases e:b=x
  ·subst e;simp
  ·have:¬ ((E3 (b:Int):Key)=E3 (x:Int)):=fun z=>e (by have:=i0 z;lia)
   rw [decide_eq_false this];show valV (kvN ks f) (E3 (x:Int))=_;rw [ih];have e':x ≠ b:=F2 e;simp [e']
theorem qUC {ks:List Nat} {f:Nat->Nat} {x v:Nat} (h:x ∉ ks):putK (kvN ks f) (E3 (x:Int)) (.int (v:Int))=kvN (ks++[x]) (fset f x v):=by
 rw [qQF _ (by rw [qP4,if_neg h])]
 unfold kvN;rw [B1];congr 1
 ·exact R3 fun b hb=>by rw [qF8 hb h]
 ·simp [qF7]
theorem qE0 (a b:Nat):T9 (a:Int) (b:Int)=((a &&& b:Nat):Int):=by
 unfold T9;rw [decide_eq_true (W5 a),decide_eq_true (W5 b)]
 rfl
theorem qVX (a b:Nat):A47 (a:Int) (b:Int)=((a ||| b:Nat):Int):=by
 have h1:∀ c:Nat,U2 (c:Int)=A07 c:=fun c=>by unfold U2;lia
 have h2:∀ c:Nat,decide (0<=A07 c)=false:=fun c=>decide_eq_false (by lia)
 have h3:∀ c:Nat,U2 (A07 c)=(c:Int):=fun c=>by unfold U2;lia
 unfold A47 T9;rw [h1,h1,h2,h2];show U2 (U2 (((U2 (A07 a)).toNat ||| (U2 (A07 b)).toNat:Nat)))=_;rw [h3,h3,h1,h3]
 rfl
theorem qZS (a k:Nat):(a:Int) / 2 ^ k=((a / 2 ^ k:Nat):Int):=by
 rw [Int.natCast_ediv,A94]
 rfl
theorem qPN (a k:Nat):T9 ((a:Int) / 2 ^ k) 1=((a / 2 ^ k % 2:Nat):Int):=by
 rw [qZS,show (1:Int)=((1:Nat):Int) from rfl,qE0,Nat.and_one_is_mod]
theorem qOP (k:Nat):(1:Int) * 2 ^ k=((2 ^ k:Nat):Int):=by
 rw [Int.one_mul,A94]
 rfl
theorem qaW (a k:Nat):(a:Int) - (1 * 2 ^ k) * T9 ((a:Int) / 2 ^ k) 1=((clrb a k:Nat):Int):=by
 rw [qPN,qOP,<- Int.natCast_mul];unfold clrb;have h1:a / 2 ^ k % 2<=a / 2 ^ k:=Nat.mod_le _ _;have h2:2 ^ k * (a / 2 ^ k % 2)<=a:=F6 (Nat.mul_le_mul_left _ h1) (Nat.mul_div_le _ _)
 lia
def qOB (ws Ad:List Int):Nat:=mskN ((qBM 0 ws.length).filter fun p=>decide ((ws[p.toNat]?).getD 0 ∈ Ad))
def DoneIn (Ae:Aa0) (ws Ad:List Int) (r:Int):Prop:=∃ m b,Rm (qCJ Ae ws) r m b/\b &&& qOB ws Ad=qOB ws Ad
def qW6 (Ae:Aa0) (ws Ad:List Int) (r:Int):Prop:=1<=r/\DoneIn Ae ws Ad r/\∀ r',1<=r'->r'<r->¬ DoneIn Ae ws Ad r'
theorem qR9 (g:Nat->Nat):∀ l:List Nat,(l.map fun k=>((g k:Nat):Int)).sum=(((l.map g).sum:Nat):Int)
 | []=>rfl
 | k::l=>by rw [D0,m6,qR9 g l,D0,m6];lia
theorem qOW:∀ zs:List Int,(zs.map fun z=>(1:Int) * 2 ^ z.toNat).sum=((mskN zs:Nat):Int)
 | []=>rfl
 | z::l=>by
  have:=qOW l;unfold mskN at this ⊢;rw [D0,m6,this,D0,m6,qOP]
  lia
def natI (l:List Nat):List Int:=l.map fun (b:Nat)=>(b:Int)
theorem qJH (l:List Nat) (b:Nat):natI (l++[b])=natI l++[(b:Int)]:=by simp [natI]
theorem qGZ (l:List Nat):(natI l).length=l.length:=by simp [natI]
theorem qQS {l:List Nat} {i:Nat} {b:Nat} (h:l[i]?=some b):(natI l)[i]?=some (b:Int):=by unfold natI;rw [B6,h];rfl
theorem qa6 {l:List Nat} {i:Nat} {z:Int} (h:(natI l)[i]?=some z):∃ b:Nat,l[i]?=some b/\z=(b:Int):=by
 unfold natI at h;rw [B6] at h;cases e:l[i]? with
 | none=>rw [e] at h;cases h
 | some b=>rw [e] at h;cases h;exact ⟨b,rfl,rfl⟩
def qYE:Sp:=fun vs H Q _=>∃ (a:Addr) (Ae:Aa0) (Aa:Int),vs=[.ref a,.int Aa]/\NetAt H a Ae/\WFn Ae/\Ae.length<=12/\
 ∀ (d:Addr) (o:Obj) (ks:List Nat) (f:Nat->Nat) H',Same H H'->H d=none->H' d=some (.frz o (.dK (kvN ks f)))->Come Ae Aa ks f->Q (.ref d) H'
def qYF:Sp:=fun vs H Q _=>∃ (l:Addr) (ws:List Int),vs=[.ref l]/\H l=some (.lst (ws.map V.int))/\(∀ x ∈ ws,0<=x/\x<1000)/\ws.length<=1000/\∀ H',Same H H'->Q (.int ((mskN ws:Nat):Int)) H'
def qQ5:Sp:=fun vs H Q _=>∃ (a t:Addr) (Ae:Aa0) (Ad ws:List Int) (Aa:Int),vs=[.ref a,.ref t,.int Aa]/\NetAt H a Ae/\WFn Ae/\Ae.length<=12/\qHX H t Ae Ad/\qBK Ae Ad ws/\∀ b H',Same H H'->(b=true ↔ DoneIn Ae ws Ad Aa)->Q (.bl b) H'
def qQ3:Sp:=fun vs H Q _=>∃ (a t:Addr) (Ae:Aa0) (Ad ws:List Int) (r:Int),vs=[.ref a,.ref t]/\NetAt H a Ae/\WFn Ae/\Ae.length<=12/\qHX H t Ae Ad/\qBK Ae Ad ws/\qW6 Ae ws Ad r/\∀ H',Same H H'->Q (.int r) H'
theorem qU5 {k:Nat} :∀ {st:List Int},(∀ x ∈ st,(k:Int)<=x)->∃ a,mskN st=2 ^ k * a
 | [],_=>⟨0,rfl⟩
 | z::st,h=>by
  obtain ⟨a,ha⟩:=qU5 (st:=st) fun x hx=>h x (C3 _ hx);have hz:=h z (by simp)
  refine ⟨2 ^ (z.toNat - k)+a,?_⟩;show 2 ^ z.toNat+mskN st=_;rw [ha,Nat.mul_add,<- Nat.pow_add,show k+(z.toNat - k)=z.toNat by lia]
theorem qM0:∀ {st:List Int},st.Pairwise (·<·)->(∀ x ∈ st,0<=x)->∀ j:Nat,(mskN st).testBit j=decide ((j:Int) ∈ st)
 | [],_,_,j=>by show (0:Nat).testBit j=_;simp
 | z::st,up,nn,j=>by
  have up':=O0.mp up;have hz:=nn z (by simp)
  obtain ⟨a,ha⟩:=qU5 (k:=z.toNat+1) (st:=st) fun x hx=>by have:=up'.1 x hx;lia
  have ih:=qM0 up'.2 (fun x hx=>nn x (C3 _ hx)) j;have e:mskN (z::st)=2 ^ (z.toNat+1) * a+2 ^ z.toNat:=by show 2 ^ z.toNat+mskN st=_;rw [ha,Nat.add_comm]
  rw [e,Nat.testBit_two_pow_mul_add a (A34 (by decide) (by lia)) j]
  by_cases c:j<z.toNat+1
  ·rw [if_pos c,Z4];refine decide_eq_decide.mpr ⟨fun h=>?_,fun h=>?_⟩
   ·rw [C1];left;lia
   ·rcases C1.mp h with h | h
    ·lia
    ·have:=up'.1 _ h;lia
  ·rw [if_neg c];rw [ha,Nat.testBit_two_pow_mul] at ih;have:decide (j >= z.toNat+1)=true:=decide_eq_true (by lia)
   rw [this,l8] at ih;rw [ih];refine decide_eq_decide.mpr ⟨fun h=>C3 _ h,fun h=>?_⟩;rcases C1.mp h with h | h
   ·lia
   ·exact h
theorem Rise.nn {n:Int} {st:List Int} (r:Rise n st):∀ x ∈ st,0<=x:=fun x hx=>(r.in_ x hx).1
theorem qBP {n:Int} {st:List Int} (r:Rise n st) (j:Nat):(mskN st).testBit j=decide ((j:Int) ∈ st):=qM0 r.up r.nn j
theorem qU6 {n:Int} {st st':List Int} (r:Rise n st) (r':Rise n st') (h:mskN st=mskN st'):st=st':=by
 refine qSX r.up r'.up fun x=>?_
 constructor
 ·intro hx;have e:=qBP r x.toNat;rw [h,qBP r' x.toNat] at e;have hx0:=r.nn x hx;rw [show ((x.toNat:Nat):Int)=x by lia,decide_eq_true hx] at e
  exact of_decide_eq_true e
 ·intro hx;have e:=qBP r x.toNat;rw [h,qBP r' x.toNat] at e;have hx0:=r'.nn x hx;rw [show ((x.toNat:Nat):Int)=x by lia,decide_eq_true hx] at e
  exact of_decide_eq_true e.symm
theorem qPO (b k:Nat):b / 2 ^ k % 2=if b.testBit k=true then 1 else 0:=by
 rw [Nat.testBit_eq_decide_div_mod_eq];by_cases h:b / 2 ^ k % 2=1
 ·rw [decide_eq_true h,if_pos rfl,h]
 ·rw [decide_eq_false h,if_neg B4]
  lia
theorem qX8 {a b:List Int} (h:a.Perm b):mskN a=mskN b:=by
 induction h with
 | nil=>rfl
 | cons x _ ih=>show 2 ^ x.toNat+mskN _=2 ^ x.toNat+mskN _;rw [ih]
 | swap x y l=>show 2 ^ y.toNat+(2 ^ x.toNat+mskN l)=2 ^ x.toNat+(2 ^ y.toNat+mskN l);lia
 | trans _ _ h1 h2=>exact h1.trans h2
theorem qJU {st:List Int} (nd:st.Nodup) {k:Int} (h:k ∈ st):st.Perm (k::st.filter fun x=>decide (x ≠ k)):=by
 have e:(st.filter fun x=>decide (x ≠ k))=st.erase k:=by
  rw [nd.erase_eq_filter];exact List.filter_congr fun x _=>by simp [bne,BEq.beq]
 rw [e];exact List.perm_cons_erase h
theorem qPJ {n:Int} {st:List Int} (r:Rise n st) (k:Nat):clrb (mskN st) k=mskN (st.filter fun x=>decide (x ≠ (k:Int))):=by
 unfold clrb;rw [qPO,qBP r];by_cases h:(k:Int) ∈ st
 ·rw [decide_eq_true h,if_pos rfl,Nat.mul_one,qX8 (qJU r.nodup h)];show 2 ^ ((k:Int)).toNat+mskN _ - _=_;rw [E1,Nat.add_sub_cancel_left]
 ·rw [decide_eq_false h,if_neg B4,Nat.mul_zero,q9];congr 1;exact (A43.mpr fun x hx=>by rw [decide_eq_true_eq];intro e;exact h (e ▸ hx)).symm
theorem qK7 {n:Int} {st ns:List Int} (r:Rise n st) (r':Rise n ns):mskN st &&& mskN ns=mskN ns ↔ ∀ y ∈ ns,y ∈ st:=by
 constructor
 ·intro h y hy;have e:=congrArg (fun b=>Nat.testBit b y.toNat) h;simp only [n9,qBP r,qBP r'] at e;have y0:=r'.nn y hy;rw [show ((y.toNat:Nat):Int)=y by lia,decide_eq_true hy,Bool.and_true] at e
  exact of_decide_eq_true e
 ·intro h;refine P6 fun j=>?_;rw [n9,qBP r,qBP r'];by_cases c:(j:Int) ∈ ns
  ·rw [decide_eq_true c,decide_eq_true (h _ c)];rfl
  ·rw [decide_eq_false c,i9]
def insL:List Int->Int->List Int
 | [],k=>[k]
 | x::r,k=>if k<x then k::x::r else x::insL r k
theorem qH4:∀ (st:List Int) (k:Int),(insL st k).Perm (st++[k])
 | [],k=>.refl _
 | x::r,k=>by
  unfold insL
  split
  ·exact (A16 (l₁:=x::r) (l₂:=[k])).symm
  ·exact (qH4 r k).cons x
theorem mem_insL {st:List Int} {k x:Int} :x ∈ insL st k ↔ x ∈ st\/x=k:=by
 rw [(qH4 st k).mem_iff,B3,A7]
theorem qUO:∀ {st:List Int} {k:Int},st.Pairwise (·<=·)->(insL st k).Pairwise (·<=·)
 | [],k,_=>by simp [insL]
 | x::r,k,h=>by
  have h':=O0.mp h;unfold insL
  split
  ·rename_i c
   refine O0.mpr ⟨fun y hy=>?_,h⟩;rcases C1.mp hy with e | e
   ·lia
   ·have:=h'.1 y e;lia
  ·rename_i c
   refine O0.mpr ⟨fun y hy=>?_,qUO h'.2⟩;rcases mem_insL.mp hy with e | e
   ·exact h'.1 y e
   ·lia
theorem qQY (st:List Int) (k:Int):(insL st k).length=st.length+1:=by rw [(qH4 st k).length_eq,B0];rfl
def behL (st:List Int) (m:Mv):List Int:=if m.1=D4 "do" then insL st m.2 else st.filter fun x=>decide (x ≠ m.2)
theorem qRC {n:Int} {st:List Int} {m:Mv} (r:Rise n st) (hw:m.1 = "do"\/m.1 = "clear"):Beh st (behL st m) m.1 m.2:=by
 refine ⟨fun e=>?_,fun e=>?_⟩
 ·unfold behL;rw [if_pos e];exact ⟨qH4 _ _,qUO (r.up.imp fun h=>p9 h)⟩
 ·unfold behL;rw [if_neg (fun z=>by rw [e] at z;exact qAR z)]
theorem qW0 {n:Int} {st st':List Int} {m:Mv} (r:Rise n st) (hw:m.1 = "do"\/m.1 = "clear") (h:Beh st st' m.1 m.2):st'=behL st m:=Beh.one hw h (qRC r hw)
theorem qYQ {n:Int} {st:List Int} (r:Rise n st) {k:Nat} (hk:(k:Int) ∉ st) (r':Rise n (insL st (k:Int))):mskN st ||| 2 ^ k=mskN (insL st (k:Int)):=by
 refine P6 fun j=>?_;rw [A40,qBP r,qBP r',Z4,J4,X0,decide_eq_true_eq,decide_eq_true_eq,decide_eq_true_eq,mem_insL]
 constructor
 ·rintro (h | h)
  ·exact .inl h
  ·exact .inr (by lia)
 ·rintro (h | h)
  ·exact .inl h
  ·exact .inr (by lia)
theorem qIZ (p:Nat->Bool):∀ l:List Nat,(l.map fun k=>if p k=true then 1 else 0).sum=(l.filter p).length
 | []=>rfl
 | k::l=>by
  rw [D0,m6,qIZ p l,R6];cases p k
  ·simp
  ·simp;lia
theorem qVK {n:Nat} {st:List Int} (r:Rise (n:Int) st):cntN n (mskN st)=st.length:=by
 unfold cntN;have e:((G2 n).map fun k=>mskN st / 2 ^ k % 2)=(G2 n).map fun (k:Nat)=>if (decide ((k:Int) ∈ st))=true then 1 else 0:=R3 fun k _=>by rw [qPO,qBP r]
 rw [e,qIZ (fun (k:Nat)=>decide ((k:Int) ∈ st))];have e2:(((G2 n).filter fun (k:Nat)=>decide ((k:Int) ∈ st)).map fun (k:Nat)=>(k:Int))=st:=by
  refine qSX ?_ r.up fun x=>?_
  ·refine O4.mpr ?_;exact (A11.filter _).imp fun h=>by lia
  ·rw [D5]
   constructor
   ·rintro ⟨k,hk,rfl⟩;exact of_decide_eq_true (E6.mp hk).2
   ·intro hx;have xb:=r.in_ x hx;exact ⟨x.toNat,E6.mpr ⟨F5.mpr (by lia),decide_eq_true (by rw [show ((x.toNat:Nat):Int)=x by lia];exact hx)⟩,by lia⟩
 have:=congrArg V5 e2
 rwa [A0] at this
section
variable {Ae:Aa0} {Aa:Int}
theorem due_iff {st:List Int} {m:Mv} :m ∈ qDZ Ae st Aa ↔ ((m.1 = "do"\/m.1 = "clear")/\0<=m.2/\m.2<(Ae.length:Int))/\(m.1 = "do"->m.2 ∉ st/\(∀ y ∈ nd Ae m.2,y ∈ st)/\(st.length:Int)<Aa)/\(m.1 = "clear"->m.2 ∈ st):=by
 unfold qDZ;rw [E6,decide_eq_true_eq]
 constructor
 ·rintro ⟨h1,h2⟩;have a:=qR4 h1;exact ⟨a,qb7 a.1 h2⟩
 ·rintro ⟨⟨h1,h2,h3⟩,h4,h5⟩;obtain ⟨Ac,wk⟩:=m;refine ⟨?_,?_⟩
  ·unfold qKM qIG;rw [B3,D5,D5];rcases h1 with e | e
   ·exact .inl ⟨wk.toNat,F5.mpr (by dsimp only at h2 h3;lia),by dsimp only at e h2 ⊢;rw [e];congr 1;lia⟩
   ·exact .inr ⟨wk.toNat,F5.mpr (by dsimp only at h2 h3;lia),by dsimp only at e h2 ⊢;rw [e];congr 1;lia⟩
  ·show qDQ _ st Aa Ac wk=.non;unfold qDQ;rcases h1 with e | e
   ·obtain ⟨a,b,c⟩:=h4 e;dsimp only at e;rw [if_pos e];unfold qDE;rw [if_neg a,if_pos (show ∀ y ∈ (Ae[wk.toNat]?).getD [],y ∈ st from b),if_neg (by lia)]
   ·have a:=h5 e;dsimp only at e;rw [if_neg (fun z=>by rw [e] at z;exact qAR z)]
    unfold qDR;rw [if_pos a]
inductive Pt (Ae:Aa0) (Aa:Int):Nat->List Int->Prop
 | zero:Pt Ae Aa 0 []
 | step {t:Nat} {st:List Int} {m:Mv}:Pt Ae Aa t st->m ∈ qDZ Ae st Aa->Pt Ae Aa (t+1) (behL st m)
theorem Pt.rise {t:Nat} {st:List Int} (h:Pt Ae Aa t st):Rise (Ae.length:Int) st:=by
 induction h with
 | zero=>exact .nil
 | step _ hm ih=>
  obtain ⟨⟨a,b,c⟩,d,e⟩:=due_iff.mp hm;exact qY2 ih a b c (fun z=>(d z).1) (qRC ih a)
theorem qMN {st:List Int} (r:Rise (Ae.length:Int) st) {m:Mv} (hm:m ∈ qDZ Ae st Aa):(m.1 = "do"/\(behL st m).length=st.length+1)\/(m.1 = "clear"/\(behL st m).length+1=st.length):=by
 obtain ⟨⟨a,b,c⟩,d,e⟩:=due_iff.mp hm;rcases a with a | a
 ·refine .inl ⟨a,?_⟩;unfold behL;rw [if_pos a,qQY]
 ·refine .inr ⟨a,?_⟩;unfold behL;rw [if_neg (fun z=>by rw [a] at z;exact qAR z)]
  have:=(qJU r.nodup (e a)).length_eq;rw [E2] at this
  lia
theorem qU3 (wf:WFn Ae) {w:Int} (h:w<(Ae.length:Int)):Rise (Ae.length:Int) (nd Ae w):=by
 by_cases h0:0<=w
 ·exact (qJF wf w.toNat).mono (by lia)
 ·have:=qJF wf w.toNat;rw [show w.toNat=0 by lia] at this
  unfold nd;rw [show w.toNat=0 by lia]
  exact this.mono (by lia)
theorem Pt.bits (wf:WFn Ae) {t:Nat} {st:List Int} (h:Pt Ae Aa t st):∃ m,2 * m=t+st.length/\Rm Ae Aa m (mskN st):=by
 induction h with
 | zero=>exact ⟨0,rfl,.zero⟩
 | @step t st m h hm ih=>
  obtain ⟨d,e,R⟩:=ih;have r:=h.rise;have r':=(Pt.step h hm).rise;obtain ⟨⟨a,b,c⟩,dd,ee⟩:=due_iff.mp hm;have ek:((m.2.toNat:Nat):Int)=m.2:=by lia
  rcases qMN r hm with ⟨w,l⟩ | ⟨w,l⟩
  ·refine ⟨d+1,by lia,?_⟩
   obtain ⟨n1,n2,n3⟩:=dd w;have eb:behL st m=insL st m.2:=by unfold behL;rw [if_pos w]
   rw [eb] at r' ⊢;have:=qYQ (k:=m.2.toNat) r (by rw [ek];exact n1) (by rw [ek];exact r')
   rw [ek] at this;rw [<- this];refine .do_ R ⟨by rw [qVK r];exact n3,by lia,?_⟩
   have rn:Rise (Ae.length:Int) (nd Ae m.2):=qU3 wf c;exact (qK7 r rn).mpr n2
  ·refine ⟨d,by lia,?_⟩
   have eb:behL st m=st.filter fun x=>decide (x ≠ m.2):=by unfold behL;rw [if_neg (fun z=>by rw [w] at z;exact qAR z)]
   rw [eb];have:=qPJ r m.2.toNat;rw [ek] at this;rw [<- this];exact .clr R (by lia)
theorem qa1 {b k:Nat} (h:b.testBit k=true):b ||| 2 ^ k=b:=by
 refine P6 fun j=>?_;rw [A40,Z4];by_cases e:k=j
 ·subst e;simp [h]
 ·simp [e]
theorem Rm.path (wf:WFn Ae) {m b:Nat} (h:Rm Ae Aa m b):∃ st t,b=mskN st/\Pt Ae Aa t st/\t+st.length<=2 * m:=by
 induction h with
 | zero=>exact ⟨[],0,rfl,.zero,by simp⟩
 | @clr m b k _ hk ih=>
  obtain ⟨st,t,rfl,P,l⟩:=ih;have r:=P.rise;by_cases c:(k:Int) ∈ st
  ·have hm:((D4 "clear",(k:Int)):Mv) ∈ qDZ Ae st Aa:=due_iff.mpr ⟨⟨.inr rfl,by show (0:Int)<=(k:Int);lia,by show (k:Int)<_;lia⟩,fun z=>absurd z qAR,fun _=>c⟩
   refine ⟨_,t+1,?_,.step P hm,?_⟩
   ·rw [qPJ r];unfold behL;rw [if_neg qAR]
   ·rcases qMN r hm with ⟨w,_⟩ | ⟨_,l2⟩
    ·exact absurd w qAR
    ·lia
  ·refine ⟨st,t,?_,P,l⟩;rw [qPJ r];congr 1;exact A43.mpr fun x hx=>by rw [decide_eq_true_eq];intro e;exact c (e ▸ hx)
 | @do_ m b k _ hc ih=>
  obtain ⟨st,t,rfl,P,l⟩:=ih;have r:=P.rise;by_cases c:(k:Int) ∈ st
  ·exact ⟨st,t,qa1 (by rw [qBP r];exact decide_eq_true c),P,by lia⟩
  ·obtain ⟨h1,h2,h3⟩:=hc;rw [qVK r] at h1;have rn:Rise (Ae.length:Int) (nd Ae (k:Int)):=qU3 wf (by lia)
   have en:nxt Ae k=mskN (nd Ae (k:Int)):=by unfold nxt nd;rw [E1]
   rw [en] at h3;have hm:((D4 "do",(k:Int)):Mv) ∈ qDZ Ae st Aa:=due_iff.mpr ⟨⟨.inl rfl,by show (0:Int)<=(k:Int);lia,by show (k:Int)<_;lia⟩,fun _=>⟨c,(qK7 r rn).mp h3,h1⟩,fun z=>absurd z.symm qAR⟩
   have P':=Pt.step P hm;have eb:behL st ((D4 "do",(k:Int)):Mv)=insL st (k:Int):=by unfold behL;rw [if_pos rfl]
   refine ⟨_,t+1,?_,P',?_⟩
   ·have r':=P'.rise;rw [eb] at r' ⊢;exact qYQ r c r'
   ·rw [eb,qQY]
    lia
def Mt (Ae:Aa0) (Aa:Int) (t:Nat) (st:List Int):Prop:=Pt Ae Aa t st/\∀ u,u<t->¬ Pt Ae Aa u st
theorem Mt.one {t u:Nat} {st:List Int} (h:Mt Ae Aa t st) (h':Mt Ae Aa u st):t=u:=by
 rcases i7 t u with c | c | c
 ·exact absurd h.1 (h'.2 t c)
 ·exact c
 ·exact absurd h'.1 (h.2 u c)
structure BF (Ae:Aa0) (Aa:Int) (t:Nat) (ks due ly:Aa0) (f:List Int->Nat) (i k:Nat):Prop where
 nd:ks.Nodup
 snd:∀ s ∈ ks,∃ u,u<=t+1/\Mt Ae Aa u s/\2 * f s=u+s.length
 full:∀ u s,u<=t->Pt Ae Aa u s->s ∈ ks
 duem:∀ s,s ∈ due ↔ Mt Ae Aa t s
 lym:∀ s,s ∈ ly ↔ s ∈ ks/\Mt Ae Aa (t+1) s
 done:∀ j s,due[j]?=some s->j<i->∀ m ∈ qDZ Ae s Aa,behL s m ∈ ks
 dk:∀ s,due[i]?=some s->∀ m ∈ (qDZ Ae s Aa).take k,behL s m ∈ ks
theorem BF.start:BF Ae Aa 0 [[]] [[]] [] (fun _=>0) 0 0:=by
 have z:∀ s,Pt Ae Aa 0 s->s=[]:=fun s h=>by cases h;rfl
 have m0:Mt Ae Aa 0 []:=⟨.zero,fun u hu=>absurd hu (G6 _)⟩;refine ⟨by simp,fun s hs=>?_,fun u s hu p=>?_,fun s=>?_,fun s=>?_,fun j s _ hj=>absurd hj (G6 _),fun s _ m hm=>by simp at hm⟩
 ·rw [A7.mp hs];exact ⟨0,by lia,m0,rfl⟩
 ·have:u=0:=by lia
  subst this;rw [z s p];simp
 ·rw [A7];exact ⟨fun e=>e ▸ m0,fun h=>z s h.1⟩
 ·constructor
  ·intro h;cases h
  ·rintro ⟨h,m⟩;rw [A7.mp h] at m;exact absurd (Mt.one m m0) (by lia)
section
variable {t:Nat} {ks due ly:Aa0} {f:List Int->Nat} {i k:Nat}
theorem BF.hit (h:BF Ae Aa t ks due ly f i k) {s:List Int} {m:Mv} (hs:due[i]?=some s) (hm:(qDZ Ae s Aa)[k]?=some m) (hk:behL s m ∈ ks):BF Ae Aa t ks due ly f i (k+1):=by
 refine ⟨h.nd,h.snd,h.full,h.duem,h.lym,h.done,fun s' e m' hm'=>?_⟩;rw [hs] at e;cases e;rw [C8,hm,C9,B3,A7] at hm';rcases hm' with z | z
 ·exact h.dk s hs m' z
 ·rw [z];exact hk
def qKH (f:List Int->Nat) (x:List Int) (v:Nat):List Int->Nat:=fun y=>if y=x then v else f y
theorem qSB (f:List Int->Nat) (x:List Int) (v:Nat):qKH f x v x=v:=if_pos rfl
theorem qXU {f:List Int->Nat} {x y:List Int} {v:Nat} {ks:Aa0} (h:y ∈ ks) (hx:x ∉ ks):qKH f x v y=f y:=if_neg fun e=>hx (by rw [<- e];exact h)
theorem qOI {ks:Aa0} {x:List Int} (nd:ks.Nodup) (h:x ∉ ks):(ks++[x]).Nodup:=by
 rw [A72];exact ⟨nd,by simp,fun a ha b hb e=>h (by rw [A7.mp hb] at e;exact e ▸ ha)⟩
theorem BF.val (h:BF Ae Aa t ks due ly f i k) {s:List Int} (hs:s ∈ due):s ∈ ks/\2 * f s=t+s.length:=by
 have m:=(h.duem s).mp hs;have hk:=h.full t s (A6 _) m.1;obtain ⟨u,_,mu,e⟩:=h.snd s hk;rw [Mt.one mu m] at e;exact ⟨hk,e⟩
theorem BF.add (h:BF Ae Aa t ks due ly f i k) {s:List Int} {m:Mv} (hs:due[i]?=some s) (hm:(qDZ Ae s Aa)[k]?=some m) (hk:behL s m ∉ ks) :
  BF Ae Aa t (ks++[behL s m]) due (ly++[behL s m]) (qKH f (behL s m) (f s+if m.1=D4 "do" then 1 else 0)) i (k+1):=by
 have hsd:=B5 hs;have ms:=(h.duem s).mp hsd;obtain ⟨hsk,ev⟩:=h.val hsd;have md:=B5 hm;have M1:Mt Ae Aa (t+1) (behL s m):=⟨.step ms.1 md,fun u hu p=>hk (h.full u _ (by lia) p)⟩
 refine ⟨qOI h.nd hk,fun x hx=>?_,fun u x hu p=>B3.mpr (.inl (h.full u x hu p)),h.duem,fun x=>?_,fun j x e hj m' hm'=>B3.mpr (.inl (h.done j x e hj m' hm')),fun x e m' hm'=>?_⟩
 ·rcases B3.mp hx with z | z
  ·rw [qXU z hk];exact h.snd x z
  ·rw [A7.mp z,qSB];refine ⟨t+1,A6 _,M1,?_⟩;rcases qMN ms.1.rise md with ⟨w,l⟩ | ⟨w,l⟩
   ·rw [if_pos w];lia
   ·rw [if_neg (fun z=>by rw [w] at z;exact qAR z)];lia
 ·rw [B3,B3,A7,h.lym x]
  constructor
  ·rintro (z | z)
   ·exact ⟨.inl z.1,z.2⟩
   ·exact ⟨.inr z,z ▸ M1⟩
  ·rintro ⟨z | z,e⟩
   ·exact .inl ⟨z,e⟩
   ·exact .inr z
 ·rw [hs] at e;cases e;rw [C8,hm,C9,B3,A7] at hm';rcases hm' with z | z
  ·exact B3.mpr (.inl (h.dk s hs m' z))
  ·rw [z];simp
theorem BF.next (h:BF Ae Aa t ks due ly f i k) {s:List Int} (hs:due[i]?=some s) (hk:(qDZ Ae s Aa).length<=k):BF Ae Aa t ks due ly f (i+1) 0:=by
 refine ⟨h.nd,h.snd,h.full,h.duem,h.lym,fun j x e hj m hm=>?_,fun s _ m hm=>by simp at hm⟩
 by_cases ej:j=i
 ·subst ej;rw [hs] at e;cases e;exact h.dk s hs m (by rw [C4 hk];exact hm)
 ·exact h.done j x e (by lia) m hm
theorem BF.level (h:BF Ae Aa t ks due ly f i k) (hi:due.length<=i):BF Ae Aa (t+1) ks ly [] f 0 0:=by
 have full:∀ u s,u<=t+1->Pt Ae Aa u s->s ∈ ks:=fun u s hu p=>by
  cases p with
  | zero=>exact h.full 0 [] (by lia) .zero
  | @step u st m p hm=>
   have hst:=h.full u st (by lia) p
   obtain ⟨v,hv,mv,_⟩:=h.snd st hst;have hvu:v<=u:=by
    apply O7;intro z;exact mv.2 u (by lia) p
   by_cases e:v=t
   ·subst e;obtain ⟨j,hj,ej⟩:=J7 ((h.duem st).mpr mv);exact h.done j st (by rw [A5 hj,ej]) (by lia) m hm
   ·exact h.full (v+1) _ (by lia) (.step mv.1 hm)
 refine ⟨h.nd,fun s hs=>?_,full,fun s=>?_,fun s=>?_,fun j s _ hj=>absurd hj (G6 _),fun s _ m hm=>by simp at hm⟩
 ·obtain ⟨u,hu,r⟩:=h.snd s hs;exact ⟨u,by lia,r⟩
 ·rw [h.lym s];exact ⟨fun z=>z.2,fun z=>⟨full _ _ (A6 _) z.1,z⟩⟩
 ·constructor
  ·intro z;cases z
  ·rintro ⟨hs,m⟩;obtain ⟨u,hu,mu,_⟩:=h.snd s hs;exact absurd (Mt.one mu m) (by lia)
structure Rch (Ae:Aa0) (Aa:Int) (ks:Aa0) (f:List Int->Nat):Prop where
 nd:ks.Nodup
 snd:∀ s ∈ ks,∃ u,Mt Ae Aa u s/\2 * f s=u+s.length
 all:∀ u s,Pt Ae Aa u s->s ∈ ks
theorem BF.rch (h:BF Ae Aa t ks [] [] f i k):Rch Ae Aa ks f:=by
 have lt:∀ s ∈ ks,∃ u,u<t/\Mt Ae Aa u s:=fun s hs=>by
  obtain ⟨u,hu,mu,_⟩:=h.snd s hs;have n1:u ≠ t:=fun e=>nomatch (h.duem s).mpr (e ▸ mu);have n2:u ≠ t+1:=fun e=>nomatch (h.lym s).mpr ⟨hs,e ▸ mu⟩;exact ⟨u,by lia,mu⟩
 refine ⟨h.nd,fun s hs=>let ⟨u,_,r⟩:=h.snd s hs;⟨u,r⟩,fun u s p=>?_⟩
 induction p with
 | zero=>exact h.full 0 [] (by lia) .zero
 | step p hm ih=>
  obtain ⟨v,hv,mv⟩:=lt _ ih;exact h.full (v+1) _ (by lia) (.step mv.1 hm)
theorem BF.len (h:BF Ae Aa t ks due ly f i k):ks.length<=2 ^ Ae.length:=by
 have rs:∀ s ∈ ks,Rise (Ae.length:Int) s:=fun s hs=>let ⟨_,_,m,_⟩:=h.snd s hs;m.1.rise
 have nd:(ks.map mskN).Nodup:=by
  refine O4.mpr (h.nd.imp_of_mem fun {a b} ha hb hab e=>hab (qU6 (rs a ha) (rs b hb) e))
 have:=qE1 (n:=2 ^ Ae.length) nd fun b hb=>by
  obtain ⟨s,hs,rfl⟩:=D5.mp hb;refine u0 _ fun j hj=>?_;rw [qBP (rs s hs)];refine decide_eq_false fun z=>?_;have:=((rs s hs).in_ _ z).2
  lia
 rwa [A0] at this
end
theorem Rch.le {ks:Aa0} {f:List Int->Nat} (h:Rch Ae Aa ks f) {s:List Int} (hs:s ∈ ks) {t:Nat} (p:Pt Ae Aa t s):2 * f s<=t+s.length:=by
 obtain ⟨u,m,e⟩:=h.snd s hs;have:u<=t:=by
  apply O7;intro z;exact m.2 t (by lia) p
 lia
end
theorem _root_.L2.lm_hu {X:Cx} {scope:Scope} {p:Str} {fv:List Nat} {q:Str} (z:LmZ):(lmCx X scope p fv q z).A.units+1<cLine:=by
 have:=z.rm.un;show z.A.units+3+1<cLine
 lia
theorem _root_.L2.hu2_of {k:Nat} (hr:Room k A):A.in1.units+1<cLine:=by
 have:=hr.units;show A.units+1+1<cLine
 lia
def keyS (s:List Int):List Key:=s.map E3
theorem qD8 (s:List Int):(keyS s).map kV=s.map V.int:=by unfold keyS;rw [Z9];rfl
theorem qH3 {s s':List Int} (h:keyS s=keyS s'):s=s':=by
 unfold keyS at h;exact List.map_inj_right (fun a b e=>i0 e) |>.mp h
def Val3 (H:Hp) (v:V) (n:Nat):Prop:=∃ r x y,v=.ref r/\H r=some (.tup [.int (n:Int),x,y])
theorem Val3.same {H H':Hp} {v:V} {n:Nat} (h:Val3 H v n) (sm:Same H H'):Val3 H' v n:=let ⟨r,x,y,e,g⟩:=h;⟨r,x,y,e,sm _ _ g⟩
theorem Val3.put {H:Hp} {v:V} {n:Nat} {d:Addr} {o u:HO} (h:Val3 H v n) (hd:H d=some o) (ho:∀ xs,o ≠ .tup xs):Val3 (Ag H d u) v n:=by
 obtain ⟨r,x,y,e,g⟩:=h;refine ⟨r,x,y,e,?_⟩;rw [qA9 (qCF g hd fun z=>ho _ z.symm)];exact g
def Ent (H:Hp) (Af:List (List Key × V)) (ks:Aa0) (f:List Int->Nat):Prop:=Paired (fun (kv:List Key × V) s=>kv.1=keyS s/\Val3 H kv.2 (f s)) Af ks
section
variable {H H':Hp} {Af:List (List Key × V)} {ks:Aa0} {f:List Int->Nat}
theorem Ent.same (h:Ent H Af ks f) (sm:Same H H'):Ent H' Af ks f:=Paired.mapP h fun _ _ z=>⟨z.1,z.2.same sm⟩
theorem Ent.put {d:Addr} {o u:HO} (h:Ent H Af ks f) (hd:H d=some o) (ho:∀ xs,o ≠ .tup xs):Ent (Ag H d u) Af ks f:=Paired.mapP h fun _ _ z=>⟨z.1,z.2.put hd ho⟩
theorem Ent.val:∀ {Af:List (List Key × V)} {ks:Aa0},Ent H Af ks f->∀ {s:List Int},s ∈ ks->∃ v,valV Af (keyS s)=some v/\Val3 H v (f s)
 | _,_,.nil,s,hs=>nomatch hs
 | _,_,.cons (a:=kv) (b:=s0) ⟨e,v3⟩ t,s,hs=>by
  by_cases c:s0=s
  ·subst c;exact ⟨kv.2,qBR e,v3⟩
  ·rw [qBS (fun z=>c (qH3 (e.symm.trans z)))];exact Ent.val t ((C1.mp hs).resolve_left fun z=>c z.symm)
theorem Ent.none:∀ {Af:List (List Key × V)} {ks:Aa0},Ent H Af ks f->∀ {s:List Int},s ∉ ks->valV Af (keyS s)=none
 | _,_,.nil,s,hs=>rfl
 | _,_,.cons (a:=kv) (b:=s0) ⟨e,v3⟩ t,s,hs=>by
  rw [qBS (fun z=>hs (by rw [qH3 (e.symm.trans z)];simp))]
  exact Ent.none t fun z=>hs (C3 _ z)
theorem Ent.snoc (h:Ent H Af ks f) {s:List Int} (hs:s ∉ ks) {v:V} {n:Nat} (hv:Val3 H v n):Ent H (putK Af (keyS s) v) (ks++[s]) (qKH f s n):=by
 rw [qQF v (h.none hs)];have h2:Ent H Af ks (qKH f s n):=by
  have:∀ {Af:List (List Key × V)} {ks:Aa0},Ent H Af ks f->s ∉ ks->Ent H Af ks (qKH f s n):=by
   intro Af ks h
   induction h with
   | nil=>exact fun _=>.nil
   | @cons kv s0 l1 l2 a t ih=>exact fun hn=>.cons ⟨a.1,by rw [show qKH f s n s0=f s0 from if_neg fun z=>hn (by rw [z];simp)];exact a.2⟩ (ih fun z=>hn (C3 _ z))
  exact this h hs
 have:∀ {Af:List (List Key × V)} {ks:Aa0},Ent H Af ks (qKH f s n)->Ent H (Af++[(keyS s,v)]) (ks++[s]) (qKH f s n):=by
  intro Af ks h
  induction h with
  | nil=>exact .cons ⟨rfl,by rw [show qKH f s n s=n from if_pos rfl];exact hv⟩ .nil
  | cons a _ ih=>exact .cons a ih
 exact this h2
theorem Ent.len (h:Ent H Af ks f):Af.length=ks.length:=B7 h
end
def StL (H:Hp) (rs:List Addr) (ss:Aa0):Prop:=Paired (fun (r:Addr) (s:List Int)=>H r=some (.tup (s.map V.int))) rs ss
theorem StL.same {H H':Hp} {rs:List Addr} {ss:Aa0} (h:StL H rs ss) (sm:Same H H'):StL H' rs ss:=Paired.mapP h fun _ _ z=>sm _ _ z
theorem StL.put {H:Hp} {rs:List Addr} {ss:Aa0} {d:Addr} {o u:HO} (h:StL H rs ss) (hd:H d=some o) (ho:∀ xs,o ≠ .tup xs):StL (Ag H d u) rs ss:=Paired.mapP h fun r s z=>by
 rw [qA9 (qCF z hd fun e=>ho _ e.symm)];exact z
theorem StL.snoc {H:Hp} {rs:List Addr} {ss:Aa0} {r:Addr} {s:List Int} (h:StL H rs ss) (g:H r=some (.tup (s.map V.int))):StL H (rs++[r]) (ss++[s]):=by
 induction h with
 | nil=>exact .cons g .nil
 | cons a _ ih=>exact .cons a ih
theorem MovL.putG {H:Hp} {rs:List Addr} {ms:List Mv} {d:Addr} {o u:HO} (h:MovL H rs ms) (hd:H d=some o) (ho:∀ xs,o ≠ .tup xs):MovL (Ag H d u) rs ms:=Paired.mapP h fun r s z=>by
 rw [qA9 (qCF z hd fun e=>ho _ e.symm)];exact z
theorem qHN:∀ a b c:List Int,HT.lexLt a b=false->HT.lexLt b c=false->HT.lexLt a c=false
 | [],[],c,_,h=>h
 | [],_::_,c,h,_=>by cases h
 | x::a,[],[],_,_=>rfl
 | x::a,[],_::_,_,h=>by cases h
 | x::a,y::b,[],_,_=>rfl
 | x::a,y::b,z::c,h1,h2=>by
  rw [HT.lexLt_cons] at h1 h2 ⊢;by_cases e1:x=y
  ·subst e1;rw [if_pos rfl] at h1;by_cases e2:x=z
   ·rw [if_pos e2] at h2 ⊢;exact qHN a b c h1 h2
   ·rw [if_neg e2] at h2 ⊢;exact h2
  ·rw [if_neg e1] at h1;have h1:=of_decide_eq_false h1;by_cases e2:y=z
   ·subst e2;rw [if_neg e1];exact decide_eq_false h1
   ·rw [if_neg e2] at h2;have h2:=of_decide_eq_false h2;rw [if_neg (by lia)]
    exact decide_eq_false (by lia)
theorem qQU:∀ a b:List Int,HT.lexLt a b=true->HT.lexLt b a=false
 | [],[],_=>rfl
 | [],_::_,_=>rfl
 | _::_,[],h=>by cases h
 | x::a,y::b,h=>by
  rw [HT.lexLt_cons] at h ⊢;by_cases e:x=y
  ·subst e;rw [if_pos rfl] at h ⊢;exact qQU a b h
  ·rw [if_neg e] at h;have h:=of_decide_eq_true h;rw [if_neg (by lia)]
   exact decide_eq_false (by lia)
theorem qJB:∀ (r:List (V × List Int)) (b:V × List Int),∃ k,(qET b r,k) ∈ b::r/\∀ q ∈ b::r,HT.lexLt q.2 k=false
 | [],b=>⟨b.2,by simp [qET],fun q hq=>by rw [A7.mp hq];exact qP2 _⟩
 | x::r,b=>by
  by_cases e:HT.lexLt x.2 b.2=true
  ·obtain ⟨k,h1,h2⟩:=qJB r x;have ep:qET b (x::r)=qET x r:=by rw [qET,if_pos e]
   rw [ep];refine ⟨k,C3 _ h1,fun q hq=>?_⟩;rcases C1.mp hq with z | z
   ·rw [z];exact qHN _ _ _ (qQU _ _ e) (h2 x (by simp))
   ·exact h2 q z
  ·obtain ⟨k,h1,h2⟩:=qJB r b;have ep:qET b (x::r)=qET b r:=by rw [qET,if_neg e]
   rw [ep];refine ⟨k,?_,fun q hq=>?_⟩
   ·rcases C1.mp h1 with z | z
    ·rw [z];simp
    ·exact C3 _ (C3 _ z)
   ·rcases C1.mp hq with z | z
    ·exact h2 q (by rw [z];simp)
    ·rcases C1.mp z with z | z
     ·rw [z];exact qHN _ _ _ (E8.mpr e) (h2 b (by simp))
     ·exact h2 q (C3 _ z)
def TabB (H:Hp) (Pt:Addr):Prop:=H Pt=some (.tbl (.tab "best_end.<locals>.<lambda>"))
def qYG (Pt:Addr):Sp:=fun vs H Q _=>∃ (d t:Addr) (o:Obj) (Af:List (List Key × V)) (ks:Aa0) (f:List Int->Nat) (Ad:List Int),vs=[.ref d,.ref t]/\TabB H Pt/\H d=some (.frz o (.dT Af))/\Ent H Af ks f/\ks.length<=4096/\H t=some (.tup (Ad.map V.int))/\Ad.length<=1000/\
 ∀ H',Same H H'->((∀ s ∈ ks,¬ ∀ x ∈ Ad,x ∈ s)->Q .non H')/\∀ r s,H' r=some (.tup (s.map V.int))->s ∈ ks->(∀ x ∈ Ad,x ∈ s)->(∀ s' ∈ ks,(∀ x ∈ Ad,x ∈ s')->f s<=f s')->Q (.ref r) H'
def LB (Ae:Aa0) (Aa:Int) (Ad:List Int):Option Nat->Prop
 | none=>∀ m b,Rm Ae Aa m b->¬ b &&& mskN Ad=mskN Ad
 | some k=>(∃ b,Rm Ae Aa k b/\b &&& mskN Ad=mskN Ad)/\∀ m b,Rm Ae Aa m b->b &&& mskN Ad=mskN Ad->k<=m
section
variable {Ae:Aa0} {Aa:Int} {Ad:List Int}
theorem qVY (wf:WFn Ae) (ra:Rise (Ae.length:Int) Ad) {ks:Aa0} {f:List Int->Nat} (h:Rch Ae Aa ks f) {s:List Int} (hs:s ∈ ks) (ha:∀ x ∈ Ad,x ∈ s) (le:∀ s' ∈ ks,(∀ x ∈ Ad,x ∈ s')->f s<=f s'):LB Ae Aa Ad (some (f s)):=by
 obtain ⟨u,m,e⟩:=h.snd s hs;obtain ⟨d,e2,R⟩:=m.1.bits wf;have ed:d=f s:=by lia
 subst ed;refine ⟨⟨_,R,(qK7 m.1.rise ra).mpr ha⟩,fun m' b R' e'=>?_⟩;obtain ⟨st,t,eb,P,l⟩:=R'.path wf;subst eb;have hst:=h.all t st P;have a:=le st hst ((qK7 P.rise ra).mp e');have c:=h.le hst P
 lia
theorem qVZ (wf:WFn Ae) (ra:Rise (Ae.length:Int) Ad) {ks:Aa0} {f:List Int->Nat} (h:Rch Ae Aa ks f) (hn:∀ s ∈ ks,¬ ∀ x ∈ Ad,x ∈ s):LB Ae Aa Ad none:=fun m b R e=>by
 obtain ⟨st,t,eb,P,l⟩:=R.path wf;subst eb;exact hn st (h.all t st P) ((qK7 P.rise ra).mp e)
theorem qQV {P:Nat->Prop} :∀ n,P n->∃ k,P k/\∀ m,P m->k<=m:=by
 intro n
 induction n using Nat.strongRecOn with
 | _ n ih=>
  intro h;by_cases c:∃ m,m<n/\P m
  ·obtain ⟨m,h1,h2⟩:=c;exact ih m h1 h2
  ·exact ⟨n,h,fun m hm=>Y8 fun z=>c ⟨m,z,hm⟩⟩
theorem qdP (Ae:Aa0) (Aa:Int) (Ad:List Int):∃ o,LB Ae Aa Ad o:=by
 by_cases c:∃ m b,Rm Ae Aa m b/\b &&& mskN Ad=mskN Ad
 ·obtain ⟨m,b,R,e⟩:=c;obtain ⟨k,⟨b',R',e'⟩,l⟩:=qQV (P:=fun m=>∃ b,Rm Ae Aa m b/\b &&& mskN Ad=mskN Ad) m ⟨b,R,e⟩;exact ⟨some k,⟨b',R',e'⟩,fun m b R e=>l m ⟨b,R,e⟩⟩
 ·exact ⟨none,fun m b R e=>c ⟨m,b,R,e⟩⟩
noncomputable def lstO (Ae:Aa0) (Aa:Int) (Ad:List Int):Option Nat:=A85 (qdP Ae Aa Ad)
noncomputable def upS (Ae:Aa0) (Ad:List Int) (r:Nat):List (Nat × Nat):=(G2 r).filterMap fun i=>(lstO Ae ((i+1:Nat):Int) Ad).map fun k=>(i+1,k)
end
theorem Rch.len {Ae:Aa0} {Aa:Int} {ks:Aa0} {f:List Int->Nat} (h:Rch Ae Aa ks f):ks.length<=2 ^ Ae.length:=by
 have rs:∀ s ∈ ks,Rise (Ae.length:Int) s:=fun s hs=>let ⟨_,m,_⟩:=h.snd s hs;m.1.rise
 have nd:(ks.map mskN).Nodup:=O4.mpr (h.nd.imp_of_mem fun {a b} ha hb hab e=>hab (qU6 (rs a ha) (rs b hb) e));have:=qE1 (n:=2 ^ Ae.length) nd fun b hb=>by
  obtain ⟨s,hs,rfl⟩:=D5.mp hb;refine u0 _ fun j hj=>?_;rw [qBP (rs s hs)];refine decide_eq_false fun z=>?_;have:=((rs s hs).in_ _ z).2
  lia
 rwa [A0] at this
def qQ4 (K:Ab1) (Pt:Addr):Sp:=fun vs H Q E=>TabB H Pt/\qd9 K vs H Q E
abbrev Prv:=Option (List Int × Mv)
def ValX (H:Hp) (v:V) (n:Nat):Prv->Prop
 | none=>∃ r,v=.ref r/\H r=some (.tup [.int (n:Int),.non,.non])
 | some (p,m)=>∃ r rp rm,v=.ref r/\H r=some (.tup [.int (n:Int),.ref rp,.ref rm])/\H rp=some (.tup (p.map V.int))/\H rm=some (.tup [.str m.1,.int m.2])
def EntX (H:Hp) (Af:List (List Key × V)) (ks:Aa0) (f:List Int->Nat) (g:List Int->Prv):Prop:=Paired (fun (kv:List Key × V) s=>kv.1=keyS s/\ValX H kv.2 (f s) (g s)) Af ks
section
variable {H H':Hp} {Af:List (List Key × V)} {ks:Aa0} {f:List Int->Nat} {g:List Int->Prv}
end
section
variable {Ae:Aa0} {Aa:Int} {ks ks':Aa0} {f f':List Int->Nat} {g g':List Int->Prv}
end
structure EntZ (H:Hp) (Af:List (List Key × V)) (ks:Aa0) (f:List Int->Nat) (Φ:(List Int->Prv)->Prop):Prop where
 ex:∃ g,EntX H Af ks f g/\Φ g
section
variable {H H':Hp} {Af:List (List Key × V)} {ks:Aa0} {f:List Int->Nat} {Φ Ψ:(List Int->Prv)->Prop}
end
section
variable {Ae:Aa0} {Ad ws:List Int} {Aa:Int}
def qC8 (ws Ad:List Int):List Int:=Ad.filterMap (qC7 ws)
theorem qRH (N:qBK Ae Ad ws) (ra:Rise (Ae.length:Int) Ad):Rise ((qCJ Ae ws).length:Int) (qC8 ws Ad):=by
 refine ⟨qSW N.1.up ra.up,fun x hx=>?_⟩;obtain ⟨h0,y,hy,_⟩:=(qP0 N.1.nodup).mp hx;have:=(A4.mp hy).1;rw [qBX]
 lia
theorem qMQ (N:qBK Ae Ad ws) (ra:Rise (Ae.length:Int) Ad):qOB ws Ad=mskN (qC8 ws Ad):=by
 unfold qOB;congr 1;refine qSX ((qF1 0 ws.length).filter _) (qSW N.1.up ra.up) fun x=>?_;rw [E6,show x ∈ qC8 ws Ad ↔ _ from qP0 N.1.nodup,mem_rangeI,decide_eq_true_eq]
 constructor
 ·rintro ⟨⟨h0,h1⟩,h2⟩;have hx:x.toNat<ws.length:=by lia
  rw [A5 hx] at h2 ⊢;exact ⟨h0,_,rfl,h2⟩
 ·rintro ⟨h0,y,hy,h2⟩;have hx:=(A4.mp hy).1;rw [hy];exact ⟨⟨h0,by lia⟩,h2⟩
theorem qaC (N:qBK Ae Ad ws) (ra:Rise (Ae.length:Int) Ad) {k:Nat} (h:LB (qCJ Ae ws) Aa (qC8 ws Ad) (some k)):DoneIn Ae ws Ad Aa:=by
 obtain ⟨⟨b,R,e⟩,_⟩:=h;exact ⟨k,b,R,by rw [qMQ N ra];exact e⟩
theorem qc6 (N:qBK Ae Ad ws) (ra:Rise (Ae.length:Int) Ad) (h:LB (qCJ Ae ws) Aa (qC8 ws Ad) none):¬ DoneIn Ae ws Ad Aa:=by
 rintro ⟨m,b,R,e⟩;rw [qMQ N ra] at e;exact h m b R e
end
def qPZ:Sp:=fun vs H Q _=>∃ (t u:Addr) (ws Ad:List Int),vs=[.ref t,.ref u]/\BareT H t (ws.map V.int)/\H u=some (.tup (Ad.map V.int))/\ws.Nodup/\Ad.length<=1000/\ws.length<=1000/\(∀ x ∈ Ad,x ∈ ws)/\
 ∀ r H',Same H H'->H' r=some (.tup ((qC8 ws Ad).map V.int))->Q (.ref r) H'
def qOF:Sp:=fun vs H Q _=>∃ (a t:Addr) (Ae:Aa0) (ws:List Int),vs=[.ref a,.ref t]/\NetAt H a Ae/\WFn Ae/\Ae.length<=1000/\Rd H t (.tup (ws.map V.int))/\Rise (Ae.length:Int) ws/\
 ∀ b H',Same H H'->NetAt H' b (qCJ Ae ws)->Q (.ref b) H'
def qYD:Sp:=fun vs H Q _=>∃ (d c:Addr) (t:Int) (ns:List Int),vs=[.ref d]/\StAt H d c t ns/\t<=TB - 20000/\
 ∀ a Ae t' ns' H',StAt H' d c t' ns'->t<=t'->t'<=t+1000->Keep d c H H'->NetAt H' a Ae->WFn Ae->1<=Ae.length->Ae.length<=10->Q (.ref a) H'
theorem qdH {v u:Int} (b:Bool):atI [V.int v,V.int u] (if b=true then (1:Int) else 0)=some (.int (if b=true then u else v)):=by cases b <;> rfl
theorem sqo {b:Bool} {K:Ab1} {H:Hp} {a:Addr} {xs:List V} (h:Rd H a (seqO b xs)):SqO b K H a xs:=by
 cases b with
 | true=>exact .inl h
 | false=>exact .inl h
theorem Rd.same {H H':Hp} {a:Addr} {o:HO} (h:Rd H a o) (s:Same H H'):Rd H' a o:=h.elim (fun e=>.inl (s _ _ e)) fun ⟨q,e⟩=>.inr ⟨q,s _ _ e⟩
structure Nev (Ae:Aa0) (Aa:Int) (want:List Int) (ss:Aa0):Prop where
 rise:∀ s ∈ ss,Rise (Ae.length:Int) s
 few:∀ s ∈ ss,(s.length:Int)<=Aa
 nil:[] ∈ ss
 shut:∀ s ∈ ss,∀ m ∈ qDZ Ae s Aa,behL s m ∈ ss
 no:∀ s ∈ ss,¬ ∀ x ∈ want,x ∈ s
theorem Nev.mem {Ae:Aa0} {Aa:Int} {want:List Int} {ss tt:Aa0} (h:Nev Ae Aa want ss) (e:∀ s,s ∈ tt ↔ s ∈ ss):Nev Ae Aa want tt:=
 ⟨fun s hs=>h.rise s ((e s).mp hs),fun s hs=>h.few s ((e s).mp hs),(e _).mpr h.nil,fun s hs m hm=>(e _).mpr (h.shut s ((e s).mp hs) m hm),fun s hs=>h.no s ((e s).mp hs)⟩
structure NevP (Ae:Aa0) (Aa:Int) (ss:Aa0):Prop where
 nd:ss.Nodup
 mem:∀ s,s ∈ ss ↔ ∃ u,Pt Ae Aa u s
 so:ss.Pairwise fun a b=>HT.lexLt b a=false
theorem NevP.one {Ae:Aa0} {Aa:Int} {a b:Aa0} (h:NevP Ae Aa a) (h':NevP Ae Aa b):a=b:=
 ((List.perm_ext_iff_of_nodup h.nd h'.nd).mpr fun s=>(h.mem s).trans (h'.mem s).symm).eq_of_pairwise (fun x y _ _ h1 h2=>L2.G.lexLt_tri x y h2 h1) h.so h'.so
theorem Pt.few {Ae:Aa0} {Aa:Int} (r0:0<=Aa) {u:Nat} {s:List Int} (h:Pt Ae Aa u s):(s.length:Int)<=Aa:=by
 induction h with
 | zero=>exact r0
 | @step t st m p hm ih=>
  rcases qMN p.rise hm with ⟨e,l⟩ | ⟨_,l⟩
  ·have:=((due_iff.mp hm).2.1 e).2.2
   lia
  ·lia
theorem NevP.nev {Ae:Aa0} {Aa:Int} {want:List Int} {ss:Aa0} (r0:0<=Aa) (h:NevP Ae Aa ss) (no:∀ s ∈ ss,¬ ∀ x ∈ want,x ∈ s):Nev Ae Aa want ss:=by
 refine ⟨fun s hs=>?_,fun s hs=>?_,(h.mem _).mpr ⟨0,.zero⟩,fun s hs m hm=>?_,no⟩
 ·obtain ⟨u,p⟩:=(h.mem s).mp hs;exact p.rise
 ·obtain ⟨u,p⟩:=(h.mem s).mp hs;exact p.few r0
 ·obtain ⟨u,p⟩:=(h.mem s).mp hs;exact (h.mem _).mpr ⟨u+1,.step p hm⟩
theorem Rch.nevP {Ae:Aa0} {Aa:Int} {ks ss:Aa0} {f:List Int->Nat} (h:Rch Ae Aa ks f) (pm:ss.Perm ks) (so:ss.Pairwise fun a b=>HT.lexLt b a=false):NevP Ae Aa ss:=
 ⟨pm.nodup_iff.mpr h.nd,fun s=>pm.mem_iff.trans ⟨fun hs=>let ⟨u,m,_⟩:=h.snd s hs;⟨u,m.1⟩,fun ⟨u,p⟩=>h.all u s p⟩,so⟩
def qPY:Sp:=fun vs H Q _=>∃ (a:Addr) (Ae:Aa0) (Aa:Int),vs=[.ref a,.int Aa]/\NetAt H a Ae/\WFn Ae/\Ae.length<=12/\
 ∀ d o Af ks f H',Same H H'->H d=none->H' d=some (.frz o (.dT Af))->Ent H' Af ks f->Rch Ae Aa ks f->ks.head?=some []->Q (.ref d) H'
theorem Ent.keys1 {H:Hp} {f:List Int->Nat} :∀ {Af:List (List Key × V)} {ks:Aa0},Ent H Af ks f->Af.map (·.1)=ks.map fun t=>t.map (E3:Int->Key)
 | [],[],.nil=>rfl
 | _::_,_::_,.cons a b=>by rw [D0,D0,Ent.keys1 b,a.1];rfl
def qT5:Sp:=fun vs H Q _=>∃ (b:Bool) (a t:Addr) (st Ad:List Int),vs=[.ref a,.ref t]/\H a=some (.tup (st.map V.int))/\Rd H t (seqO b (Ad.map V.int))/\Ad.length<=1000/\∀ H',Same H H'->Q (.bl (decide (∀ x ∈ Ad,x ∈ st))) H'
def qOE:Sp:=fun vs H Q _=>∃ (o:Bool) (a l:Addr) (Ae:Aa0) (ws:List Int),vs=[.ref a,.ref l]/\NetAt H a Ae/\WFn Ae/\Ae.length<=60/\Rd H l (seqO o (ws.map V.int))/\Rise (Ae.length:Int) ws/\∀ b H',Same H H'->NetAt H' b (qCJ Ae ws)->Q (.ref b) H'
def qEY:Sp:=fun vs H Q _=>∃ (a:Addr) (zs:List Int) (k:Int),vs=[.ref a,.int k]/\Rd H a (.tup (zs.map V.int))/\Rise k zs/\zs.length<=1000/\∀ H',Same H H'->Q (.bl true) H'
def qMZ:Sp:=fun vs H Q _=>∃ (a:Addr) (x y:V),vs=[.ref a]/\H a=some (.tup [x,y])/\Q (.bl true) H
def qMY:Sp:=fun vs H Q _=>∃ (a t:Addr) (Ae:Aa0) (Aa:Int) (zs:List Int),vs=[.ref a,.int Aa,.ref t]/\NetAt H a Ae/\Ae.length<=12/\H t=some (.tup (zs.map V.int))/\Rise (Ae.length:Int) zs/\(zs.length:Int)<=Aa/\∀ H',Same H H'->Q (.bl true) H'
def qQ6:Sp:=fun vs H Q _=>∃ (a l:Addr) (Ae:Aa0) (Aa:Int) (want:List Int) (rs:List Addr) (ss:Aa0),vs=[.ref a,.int Aa,.ref l]/\NetAt H a Ae/\WFn Ae/\Ae.length<=12/\H l=some (.lst (rs.map V.ref))/\StL H rs ss/\ss.length<=5000/\Nev Ae Aa want ss/\∀ H',Same H H'->Q (.bl true) H'
def qMX:Sp:=fun vs H Q _=>∃ (a lw l:Addr) (Ae:Aa0) (Aa:Int) (want:List Int) (rs:List Addr) (ss:Aa0),vs=[.ref a,.ref lw,.int Aa,.ref l]/\NetAt H a Ae/\WFn Ae/\Ae.length<=12/\H lw=some (.lst (want.map V.int))/\want.length<=1000/\H l=some (.lst (rs.map V.ref))/\StL H rs ss/\ss.length<=5000/\Nev Ae Aa want ss/\∀ H',Same H H'->Q (.bl true) H'
structure PapN (H:Hp) (T tw l:Addr) (ws:List Int) (rs:List Addr) (ss:Aa0):Prop where
 tup:H T=some (.tup [.ref tw,.ref l])
 works:BareT H tw (ws.map V.int)
 lst:H l=some (.lst (rs.map V.ref))
 at_:StL H rs ss
def qIJ:Sp:=fun vs H Q _=>∃ (a t T tw l:Addr) (Ae:Aa0) (Ad ws:List Int) (Aa:Int) (rs:List Addr) (ss:Aa0),vs=[.ref a,.ref t,.int Aa,.ref T]/\NetAt H a Ae/\WFn Ae/\Ae.length<=12/\qHX H t Ae Ad/\PapN H T tw l ws rs ss/\Rise (Ae.length:Int) ws/\qC8 ws Ad ≠ []/\ss.length<=5000/\Nev (qCJ Ae ws) Aa (qC8 ws Ad) ss/\∀ H',Same H H'->Q (.bl true) H'
def qQ1 (Pt:Addr):Sp:=fun vs H Q _=>∃ (a t:Addr) (Ae:Aa0) (Ad ws:List Int) (Aa:Int),vs=[.ref a,.ref t,.int Aa]/\TabB H Pt/\NetAt H a Ae/\WFn Ae/\Ae.length<=12/\qHX H t Ae Ad/\1<=Ad.length/\qBK Ae Ad ws/\
 (DoneIn Ae ws Ad Aa->∀ H',Same H H'->Q .non H')/\(¬ DoneIn Ae ws Ad Aa->∀ T tw l rs ss H',Same H H'->H T=none->H l=none->PapN H' T tw l ws rs ss->NevP (qCJ Ae ws) Aa ss->(∀ s ∈ ss,¬ ∀ x ∈ qC8 ws Ad,x ∈ s)->ss.length<=4096->Q (.ref T) H')
def qT4:Sp:=fun vs H Q _=>∃ (a t d:Addr) (o:Obj) (Ae:Aa0) (Aa:Int) (s:List Int) (ks:Aa0) (Af:List (List Key × V)),vs=[.ref a,.int Aa,.ref t,.ref d]/\NetAt H a Ae/\WFn Ae/\Ae.length<=12/\H t=some (.tup (s.map V.int))/\Rise (Ae.length:Int) s/\H d=some (.frz o (.dT Af))/\(∀ z:List Int,z ∈ ks->(valV Af (keyS z)).isSome=true)/\(∀ m ∈ qDZ Ae s Aa,behL s m ∈ ks)/\∀ H',Same H H'->Q (.bl true) H'
def qPX (Pt:Addr):Sp:=fun vs H Q _=>∃ (a t:Addr) (Ae:Aa0) (Ad ws:List Int) (Aa least:Int),vs=[.ref a,.ref t,.int Aa,.int least]/\TabB H Pt/\NetAt H a Ae/\WFn Ae/\Ae.length<=12/\qHX H t Ae Ad/\1<=Ad.length/\qBK Ae Ad ws/\qW6 Ae ws Ad least/\1<=Aa/\Aa<=1000/\∀ H',Same H H'->Q (.bl true) H'
def SeR (H:Hp) (b:Bool) (a:Addr) (xs:List V):Prop:=match b with | true=>Rd H a (.tup xs) | false=>H a=some (.lst xs)
theorem SeR.same {H H':Hp} {b:Bool} {a:Addr} {xs:List V} (h:SeR H b a xs) (s:Same H H'):SeR H' b a xs:=by
 cases b with
 | true=>exact Rd.same h s
 | false=>exact s _ _ h
def AlikeR (H:Hp):Nat->V->V->Prop
 | 0,x,y=>x=y/\Leaf x
 | n+1,x,y=>(x=y/\Leaf x)\/∃ (b:Bool) (a c:Addr) (xs ys:List V),x=.ref a/\y=.ref c/\SeR H b a xs/\SeR H b c ys/\xs.length=ys.length/\xs.length<=100000/\∀ (i:Nat) (x' y':V),xs[i]?=some x'->ys[i]?=some y'->AlikeR H n x' y'
theorem AlikeR.same {H H':Hp} (s:Same H H'):∀ {n:Nat} {x y:V},AlikeR H n x y->AlikeR H' n x y:=by
 intro n
 induction n with
 | zero=>exact fun {x y} h=>show x=y/\Leaf x from h
 | succ n ih=>
  rintro x y (h | ⟨b,a,c,xs,ys,e1,e2,h1,h2,hl,hb,h⟩)
  ·exact .inl h
  ·exact .inr ⟨b,a,c,xs,ys,e1,e2,h1.same s,h2.same s,hl,hb,fun i x' y' q1 q2=>ih (h i x' y' q1 q2)⟩
theorem Alike.r {H:Hp} :∀ {n:Nat} {x y:V},Alike H n x y->AlikeR H n x y:=by
 intro n
 induction n with
 | zero=>exact fun {x y} h=>show x=y/\Leaf x from h
 | succ n ih=>
  rintro x y (h | ⟨b,a,c,xs,ys,e1,e2,h1,h2,hl,hb,h⟩)
  ·exact .inl h
  ·refine .inr ⟨b,a,c,xs,ys,e1,e2,?_,?_,hl,hb,fun i x' y' q1 q2=>ih (h i x' y' q1 q2)⟩
   ·cases b with
    | true=>exact .inl h1
    | false=>exact h1
   ·cases b with
    | true=>exact .inl h2
    | false=>exact h2
def qZN (n:Nat):Sp:=fun vs H Q _=>∃ x y:V,vs=[x,y]/\AlikeR H n x y/\∀ H',Same H H'->Q (.bl true) H'
theorem SqB.ofR {b:Bool} {K:Ab1} {H:Hp} {a:Addr} {xs:List V} (h:SeR H b a xs):SqB b K H a xs:=by
 cases b
 ·exact Ab2 h
 ·exact .inl h
theorem qEX {b:Bool} {K:Ab1} {H:Hp} {a:Addr} {xs:List V} (h:SeR H b a xs):TyR K H (.ref a) (tyOf b):=by
 cases b
 ·exact .inl (TyOf.lst h)
 ·exact .inr ⟨a,xs,rfl,h,rfl⟩
theorem DoneIn.mono {Ae:Aa0} {ws Ad:List Int} {r r':Int} (h:DoneIn Ae ws Ad r) (l:r<=r'):DoneIn Ae ws Ad r':=by
 obtain ⟨m,b,R,e⟩:=h;exact ⟨m,b,R.mono l,e⟩
theorem PapN.keepT {H:Hp} {T tw l:Addr} {ws:List Int} {rs:List Addr} {ss:Aa0} (h:PapN H T tw l ws rs ss) {xs:List V}:(Ag H l (.lst xs)) T=some (.tup [.ref tw,.ref l])/\BareT (Ag H l (.lst xs)) tw (ws.map V.int)/\StL (Ag H l (.lst xs)) rs ss:=by
 refine ⟨by rw [qA9 (qCF h.tup h.lst (fun z=>nomatch z))];exact h.tup,?_,Paired.mapP h.at_ fun r s e=>by rw [qA9 (qCF e h.lst (fun z=>nomatch z))];exact e⟩
 obtain ⟨o,e1,e2⟩:=h.works;exact ⟨o,by rw [qA9 (qCF e1 h.lst (fun z=>nomatch z))];exact e1,e2⟩
section
variable {P:B30} {w:World} {K:Ab1} {mg:Ab0} {base:Heap} {f:Addr} {fd:B49} {qFE qEG qGH qFB qEF qHT qHC f_played qcV qK0 qPF qMA qPE qHU qG0 qCP Pt cc qV5 qGG qHS qEE qHR qFC qJY qFZ qDB qFD qDP qCV qDY qPD qK1 qJZ qM8 qED qGJ qEC qGI qMC qV6 qMD qMB qM9:Addr} {qFY qKL qNS qM5 qKK qPA qL9 fd_played qSF qXX qR3 qXW qPC qJX qFA qaL qNR qP9 qI5 qP8 qM6 qSD qJW qIH qM7 qJV qHQ qPB qXV qSG qSE qV0 qKJ qNT qKI qHB qV3 qaM qV4 qV2 qV1:B49}
theorem sc_Lbegin:FnScope ["_law_script","_law_cells"] ["_law_script"] (qAB qIN):=qBL
theorem ok_Lbegin (F:Fun K "_law_begin" "_law_begin" qIN f fd) (qCW:mg "list" = none):FnOk P w K mg base CX0 1 f fd ["_law_script"] (qT7 K):=by
 refine F.okA sc_Lbegin fun cdv A outer s H vs Q E hr h=>?_;obtain ⟨a,ns,rfl,hS,h63,q⟩:=h;have hu:=qHO hr;have hu0:=hr.units0;refine ⟨_,(qA4 (qAM (i:=1) sc_Lbegin.nd rfl (E9 rfl) (qAG qFH rfl qCW qFI (qA0 (qGV qLN (pv 0) qJ9 (qJ8 qA8)) qA3))) (qA4 (qB5 (qAN (qND hu0) (pv 1) (qBV qA3) (qAS _)) (qA5 (qAM (i:=1) sc_Lbegin.nd rfl (E9 rfl) (qBV (qA0 qA8 qA3)))) qAI) (qA5 (qAE (qTS (qLW qBU (pv 1) (qLW qBU qA8 qTH)) rfl rfl (by simp) (by decide)))))),?_⟩
 try dsimp only [Cx.nox,Cx.wish,cxOf]
 refine ⟨_,rfl,_,rfl,a,_,rfl,hS,fun p hp=>?_⟩;rw [qIR];have hl:(cutI ns none (some 63)).length<=63:=F6 (qY0 _ _ _) h63;refine ⟨p,_,rfl,.inl (Ab2 qA1),fun c hc=>?_⟩;have s1:Same H (Ag (Ag H p (.lst ((cutI ns none (some 63)).map V.int))) c (.lst ((cutI ns none (some 63)).map V.int))):=(qA2 hp _).trans (qA2 hc _);refine ⟨_,rfl,(by show 0<=B28;decide),fun e he=>?_⟩
 have hce:c ≠ e:=qA6 qA1 he;refine ⟨c,e,_,rfl,rfl,Ab2 (by rw [qA9 hce];exact qA1),Ab2 qA1,_,rfl,?_⟩
 have s2:=s1.trans (qA2 he (.lst []));cases hm:cutI ns none (some 63) with
 | nil=>
  rw [hm] at s2 he;refine iteT ?_;refine ⟨(by show 1<=B28;decide),fun c2 hc2=>?_⟩
  have s3:=s2.trans (qA2 hc2 (.lst [.int 7]));intro d hd;refine ⟨_,rfl,?_⟩;have s4:=s3.trans (qA2 hd (.dK []));refine ⟨qA1,[(J9 (D4 "cells"),.ref c2),(J9 (D4 "turn"),.int 0)],rfl,(by show 2<=15;decide),?_⟩
  have ncd:c2 ≠ d:=qA6 qA1 hd;refine q d c2 [7] _ ⟨?_,?_,by decide,by decide,by decide⟩ ?_ ?_ ?_
  ·rw [qA1,qYS]
  ·rw [qA9 ncd,qA9 ncd];exact qA1
  ·rw [qIY];exact s3.trans (qA2 hd _)
  ·exact s3.free hd
  ·exact s2.free hc2
 | cons x r=>
  rw [hm] at s2 he hl;refine iteF ?_;intro d hd;refine ⟨_,rfl,?_⟩;refine ⟨qA1,[(J9 (D4 "cells"),.ref c),(J9 (D4 "turn"),.int 0)],rfl,(by show 2<=15;decide),?_⟩
  have gc:(Ag (Ag (Ag H p (.lst ((x::r).map V.int))) c (.lst ((x::r).map V.int))) e (.lst [])) c=some (.lst ((x::r).map V.int)):=by rw [qA9 hce];exact qA1
  have ncd:c ≠ d:=qA6 gc hd;refine q d c (x::r) _ ⟨?_,?_,by simp,hl,by decide⟩ ?_ ?_ ?_
  ·rw [qA1,qYS]
  ·rw [qA9 ncd,qA9 ncd];exact gc
  ·rw [qIY];exact s2.trans (qA2 hd _)
  ·exact s2.free hd
  ·rw [hm] at hc;exact (qA2 hp _).free hc
theorem sc_Ltake:FnScope ["_law_state","_law_many","_law_turn","_law_place","_law_cell","_law_digit","_law_mixed"] ["_law_state","_law_many"] (qAB qLR):=qBL
theorem ok_Ltake (F:Fun K "_law_take" "_law_take" qLR f fd) (qB2:mg "len" = none) (qWH:mg "divmod" = none):FnOk P w K mg base CX0 1 f fd ["_law_state","_law_many"] qJ0:=by
 refine F.okA sc_Ltake fun cdv A outer s H vs Q E hr h=>?_;obtain ⟨d,c,t,ns,m,rfl,S,ht,hm1,hm2,q⟩:=h;have hu:=qHO hr;refine ⟨_,(qA4 (qAM (i:=2) sc_Ltake.nd rfl (E9 rfl) (qAP qD6 (qF4 hu (pv 0) qBU (fun _ _=>rfl)) qA8)) (qA4 (qE7 hu (pv 0) qBU (pv 2) rfl) (qA4 (qAM (i:=3) sc_Ltake.nd rfl (E9 rfl) (qAP qJE (pv 2) (qA7 qAA rfl qB2 qB4 (qA0 (qF4 hu (pv 0) qBU (fun _ _=>rfl)) qA3)))) (qA4 (qAM (i:=4) sc_Ltake.nd rfl (E9 rfl) (qBA qCU (qF4 hu (pv 0) qBU (fun _ _=>rfl)) (pv 3) (fun _ _=>rfl))) (qA4 (qB5 (qAN qTY (pv 4) (qAP qc0 qA8 qA8) (qAS _)) (qA4 (qQG (qA7 qPL rfl qWH qVU (qA0 (pv 4) (qA0 (pv 1) qA3))) (qQJ rfl (qB8 (qTO (qF4 hu (pv 0) qBU (fun _ _=>rfl)) (pv 3) qLO) (qB8 (qAY (i:=5) sc_Ltake.nd rfl (E9 rfl)) qE8)))) (qA5 (qAE (pv 5)))) qAI) (qA4 (qAM (i:=6) sc_Ltake.nd rfl (E9 rfl) (qAP qJE (qAP qJD (qAP qD6 (qAP qD6 (qAP qJE (pv 4) qA8) (qAP qJD (qAP qJD (pv 2) (pv 2)) qA8)) qA8) qA8) qA8)) (qA4 (qAM (i:=6) sc_Ltake.nd rfl (E9 rfl) (qAP qJE (qAP qJD (pv 6) (pv 6)) qA8)) (qA5 (qAE (qAP qJE (qAP qOT (qAP qJE (qAP qJD (qAP qD6 (pv 6) (qAP qJD (pv 2) qA8)) qA8) qA8) qA8) (pv 1))))))))))),?_⟩
 try dsimp only [Cx.nox,Cx.wish,cxOf]
 have hpos:=S.pos;have hne:=S.ne;have ht':t<=1000000000:=ht;refine ⟨_,rfl,d,_,rfl,qaQ S,_,_,rfl,rfl,?_⟩;refine ⟨_,rfl,_,rfl,d,_,rfl,qaO S,?_⟩;have S1:=S.turn (u:=t+1) (by lia)
 have k1:Keep d c H (Ag H d (.dK [(J9 (D4 "cells"),.ref c),(J9 (D4 "turn"),.int (t+1))])):=fun b o e n _=>by rw [qA9 n];exact e
 generalize Ag H d (.dK [(J9 (D4 "cells"),.ref c),(J9 (D4 "turn"),.int (t+1))])=H1 at S1 k1;have hlen:(((ns.map V.int).length:Nat):Int)=(ns.length:Int):=by rw [A0]
 refine ⟨_,rfl,_,rfl,d,_,rfl,qMF S1,c,_,rfl,.inl (Ab2 S1.list),_,_,rfl,rfl,(by rw [hlen];lia),?_⟩
 have p0:0<=(t+1) % (((ns.map V.int).length:Nat):Int):=X1 _ (by rw [hlen];lia)
 have p1:(t+1) % (((ns.map V.int).length:Nat):Int)<(ns.length:Int):=by
  have:=T5 (t+1) (b:=(((ns.map V.int).length:Nat):Int)) (by rw [hlen];lia)
  rw [hlen] at this ⊢;exact this
 dsimp only;generalize (t+1) % (((ns.map V.int).length:Nat):Int)=pl at p0 p1;obtain ⟨j,rfl⟩:∃ j:Nat,pl=(j:Int):=⟨pl.toNat,by lia⟩
 have hj:j<ns.length:=by lia
 have hat:atI (ns.map V.int) (j:Int)=some (.int ns[j]):=qW1 (by rw [B6,A5 hj];rfl)
 refine ⟨_,rfl,d,_,rfl,qMF S1,_,rfl,c,_,_,_,rfl,rfl,Ab2 S1.list,hat,?_⟩;generalize hx:ns[j]=x at hat ⊢;refine ⟨_,rfl,_,_,rfl,rfl,⟨by decide,by decide,by decide⟩,_,_,rfl,rfl,_,rfl,?_⟩
 refine ite2 (fun _=>?_) (fun _=>?_)
 ·-- a great cell
  refine ⟨_,rfl,_,rfl,x,m,rfl,⟨by lia,by lia⟩,fun p hp=>?_⟩
  have S2:=S1.new hp (.tup [.int (x / m),.int (x % m)]);have npc:p ≠ c:=(qA6 S1.list hp).symm;refine ⟨p,_,rfl,Ac0 qA1,rfl,_,_,rfl,?_⟩;refine ⟨_,rfl,d,_,rfl,qMF S2,_,rfl,c,_,_,j,rfl,rfl,S2.list,qUJ (by rw [A0];exact hj),?_⟩
  refine ⟨_,_,rfl,rfl,?_⟩;refine ⟨_,rfl,?_⟩;have e1:(ns.map V.int).set j (.int (x / m))=(ns.set j (x / m)).map V.int:=by rw [A76]
  rw [e1];refine q (x % m) (ns.set j (x / m)) _ (X1 _ (by lia)) (T5 _ (by lia)) (S2.put (by rw [A14])) ?_
  have k2:=k1.trans (qDL (d:=d) (c:=c) hp (.tup [.int (x / m),.int (x % m)]));exact fun b o e n1 n2=>by rw [qA9 n2];exact k2 b o e n1 n2
 ·have b1:0<=x % 2147483629:=X1 _ (by decide)
  have b2:x % 2147483629<2147483629:=T5 _ (by decide)
  refine ⟨_,rfl,_,_,rfl,rfl,(by show (0:Int)<2147483629;decide),_,rfl,_,rfl,_,_,rfl,rfl,.inl ⟨by lia,by lia⟩,_,_,rfl,rfl,.inr ⟨by decide,by decide⟩,_,_,rfl,rfl,_,_,rfl,rfl,_,_,rfl,rfl,.inr ⟨by decide,by decide⟩,_,_,rfl,rfl,(by show (0:Int)<2147483647;decide),?_⟩
  have c1:=X1 ((x % 2147483629+(t+1) * (t+1) * 7919+11) * 48271) (b:=2147483647) (by decide)
  have c2:=T5 ((x % 2147483629+(t+1) * (t+1) * 7919+11) * 48271) (b:=2147483647) (by decide)
  dsimp only;generalize ((x % 2147483629+(t+1) * (t+1) * 7919+11) * 48271) % 2147483647=y at c1 c2;refine ⟨_,rfl,_,rfl,_,_,rfl,rfl,.inl ⟨by lia,by lia⟩,_,_,rfl,rfl,(by show (0:Int)<2147483587;decide),?_⟩
  dsimp only;generalize y * y % 2147483587=z;refine ⟨_,rfl,_,rfl,_,_,rfl,rfl,.inr ⟨by decide,by decide⟩,_,_,rfl,rfl,_,_,rfl,rfl,.inr ⟨by decide,by decide⟩,_,_,rfl,rfl,(by show (0:Int)<2147483629;decide),_,_,rfl,rfl,⟨by decide,by decide⟩,_,rfl,_,_,rfl,rfl,(by lia),?_⟩
  exact q _ ns _ (X1 _ (by lia)) (T5 _ (by lia)) S1 k1
theorem sc_Lsome_needs:FnScope ["_law_state","_law_k","_law_found","_law_turn","_law_far"] ["_law_state","_law_k"] (qAB qD2):=qBL
theorem ok_Lsome_needs (F:Fun K "_law_some_needs" "_law_some_needs" qD2 f fd) (qBI:Clb P w K mg base 1 qFE qFY "_law_take" ["_law_state","_law_many"] qJ0)
  (qB3:mg "range" = none) (qMP:mg "min" = none) (qAK:mg "tuple" = none) (qC1:mg "sorted" = none) (qSU:mg "set" = none):FnOk P w K mg base CX0 2 f fd ["_law_state","_law_k"] qOG:=by
 refine F.okA sc_Lsome_needs fun cdv A outer s H vs Q E hr h=>?_;obtain ⟨d,c,t,ns,k,rfl,S,ht,hk0,hk1,q⟩:=h;have ht':t<=1000000000 - 20:=ht;have qQZ:Room 1 _:=hr;refine ⟨_,(qA4 (qAM (i:=2) sc_Lsome_needs.nd rfl (E9 rfl) (qBV qA3)) (qA4 (qBT D3 rfl (qBC rfl qB3 (qA0 (qAV qBI hr rfl (qA0 (pv 0) (qA0 qA8 qA3))) qA3)) (qAY (i:=3) sc_Lsome_needs.nd rfl (E9 rfl)) (qA4 (qAM (i:=4) sc_Lsome_needs.nd rfl (E9 rfl) (qBA qCU (qBV (qA0 (qA7 (qK4 rfl) rfl qMP qRB (qA0 (pv 1) (qA0 qA8 qA3))) (qA0 (pv 1) qA3))) (qAP qOT (qAV qBI hr rfl (qA0 (pv 0) (qA0 qA8 qA3))) qA8) (fun _ _=>rfl))) (qA5 (qB5 (qAN qTX (pv 1) qA8 (qAS _)) (qA5 (qF2 (qRV J1 M7 M8 qD7 (pv 2) (qA0 (qAP qCY (qAP qCY (pv 1) qA8) (qAV qBI hr rfl (qA0 (pv 0) (qA0 (pv 4) qA3)))) qA3)))) qAI)))) (qA5 (qAE (qAG qAL rfl qAK qAO (qA0 (qA7 (qDC rfl) rfl qC1 qDD (qA0 (qAG (qMK rfl) rfl qSU qVT (qA0 (pv 2) qA3)) qA3)) qA3)))))),?_⟩
 try dsimp only [Cx.nox,Cx.wish,cxOf]
 refine cut fun N0 hN0=>?_;refine ⟨(by show 0<=B28;decide),fun fo hfo=>?_⟩
 have S1:=S.new hfo (.lst []);have nd:fo ≠ d:=(qA6 S.dict hfo).symm;have nc:fo ≠ c:=(qA6 S.list hfo).symm;refine hN0 _ _ (cut fun N1 hN1=>?_);refine ⟨_,rfl,d,c,t,ns,5,rfl,S1,(by show t<=1000000000;lia),by decide,by decide,fun j ns1 H1 j0 j5 S2 K2=>?_⟩
 refine ⟨j,rfl,by lia,by lia,qF9 (lo:=0) (n:=j.toNat) (fun i σ Hc=>∃ (t':Int) (ms fs:List Int) (v1 v2:Option V),σ=[some (.ref d),some (.int k),some (.ref fo),v1,v2]/\StAt Hc d c t' ms/\t<=t'/\t'<=t+1+2 * i/\Keep d c H Hc/\
  Hc fo=some (.lst (fs.map V.int))/\fs.length<=i/\∀ x ∈ fs,0<=x/\x<k)
  ⟨t+1,ns1,[],none,none,rfl,S2,by lia,by lia,(qDL hfo _).trans K2,K2 _ _ qA1 nd nc,A6 _,fun _ z=>nomatch z⟩ ?_ ?_⟩
 ·refine fun i σ Hc hi hI_1=>opq fun G_1 hG_1=>?_;obtain ⟨t',ms,fs,v1,v2,rfl,S3,a1,a2,K3,h3,l3,m3⟩:=hI_1;refine hG_1 ?_;have hi5:(i:Int)<5:=by lia
  -- far
  refine nmD fun D1 d1 dr=>cut fun M0 hM0=>?_;refine ⟨_,rfl,k,4,rfl,_,rfl,(by show 2<=B28;decide),fun p hp=>?_⟩
  have S4:=S3.new hp (.lst [.int (if (4:Int)<k then 4 else k),.int k])
  have npd:p ≠ d:=(qA6 S3.dict hp).symm;have npc:p ≠ c:=(qA6 S3.list hp).symm;refine ⟨_,rfl,d,c,t',ms,4,rfl,S4,(by show t'<=1000000000;lia),by decide,by decide,fun k2 ms2 H2 g0 g4 S5 K5=>?_⟩
  obtain ⟨far,hfar,ef⟩:=qdJ (a:=if (4:Int)<k then 4 else k) (b:=k) g0 g4
  have far1:far<=k:=by rcases ef with e | e <;> (subst e;first | lia | (split <;> lia))
  have far2:0<k->1<=far:=fun hk=>by rcases ef with e | e <;> (subst e;first | lia | (split <;> lia))
  refine ⟨_,_,rfl,rfl,⟨by decide,by decide⟩,p,_,_,_,rfl,rfl,Ab2 (K5 _ _ qA1 npd npc),hfar,?_⟩
  have K6:=K3.trans ((qDL (d:=d) (c:=c) hp (.lst [.int (if (4:Int)<k then 4 else k),.int k])).trans K5)
  have h6:H2 fo=some (.lst (fs.map V.int)):=K5 _ _ (by rw [qA9 (qA6 h3 hp)];exact h3) nd nc
  refine hM0 _ _ ?_;refine ⟨_,rfl,_,_,rfl,rfl,_,rfl,?_⟩;refine ite2 (fun ck=>?_) (fun ck=>?_)
  ·have hk:0<k:=of_decide_eq_true ck;refine ⟨_,rfl,.inl ⟨rfl,_,Ab2 h6⟩,_,rfl,_,_,rfl,rfl,_,rfl,_,rfl,d,c,t'+1,ms2,far,rfl,S5,(by show t'+1<=1000000000;lia),far2 hk,by lia,fun k3 ms3 H3 c0 c1 S6 K7=>?_⟩
   have h7:=K7 _ _ h6 nd nc;refine ⟨_,_,rfl,rfl,fo,_,_,rfl,rfl,h7,qAF (by rw [A0];lia),?_⟩
   have S8:StAt (Ag H3 fo (.lst (fs.map V.int++[.int (k - 1 - k3)]))) d c (t'+1+1) ms3:=⟨by rw [qA9 (F2 nd)];exact S6.dict,by rw [qA9 (F2 nc)];exact S6.list,S6.ne,S6.len,S6.pos⟩
   have hH:H fo=none:=hfo;refine d1 _ _ ⟨t'+1+1,ms3,fs++[k - 1 - k3],_,_,rfl,S8,by lia,by lia,fun b o e n1 n2=>?_,?_,?_,fun x hx=>?_⟩
   ·rw [qA9 (qA6 e hH)];exact (K6.trans K7) b o e n1 n2
   ·rw [qA1,B1];rfl
   ·rw [B0,B9];lia
   ·rcases B3.mp hx with hx | hx
    ·exact m3 x hx
    ·rw [A7.mp hx];lia
  ·exact d1 _ _ ⟨t'+1,ms2,fs,_,_,rfl,S5,by lia,by lia,K6,h6,by lia,m3⟩
 ·refine fun σ Hc hI_2=>opq fun G_2 hG_2=>?_;obtain ⟨t',ms,fs,v1,v2,rfl,S3,a1,a2,K3,h3,l3,m3⟩:=hI_2;refine hG_2 ?_;refine hN1 _ _ ?_;refine ⟨_,rfl,fo,fs,rfl,Ab2 h3,by lia,fun a ha=>?_⟩
  have sm1:=qA2 ha (SetO w a (dedI fs));refine ⟨a,dedI fs,rfl,.inr (.inr qA1),T0 (qMG fs) (by lia),fun b zs hb hp hs=>?_⟩
  have sm2:=sm1.trans (qA2 hb (.lst (zs.map V.int)));refine ⟨b,_,rfl,.inl ⟨Ab2 qA1,fun r hr'=>?_⟩⟩;have sm3:=sm2.trans (qA2 hr' (.tup (zs.map V.int)));exact q r zs t' ms _ (S3.same sm3) (by lia) (by lia) (K3.trans (.of_same sm3)) qA1 (qLV hp hs m3)
theorem sc_Ltree_net:FnScope ["_law_state","_law_many","_law_open_ones","_law_found","_law_k","_law_so_many"] ["_law_state","_law_many"] (qAB qE5):=qBL
theorem ok_Ltree_net (F:Fun K "_law_tree_net" "_law_tree_net" qE5 f fd) (qBI:Clb P w K mg base 1 qFE qFY "_law_take" ["_law_state","_law_many"] qJ0)
  (qB3:mg "range" = none) (qMP:mg "min" = none) (qAK:mg "tuple" = none) (qB2:mg "len" = none):FnOk P w K mg base CX0 2 f fd ["_law_state","_law_many"] qYC:=by
 refine F.okA sc_Ltree_net fun cdv A outer s H vs Q E hr h=>?_;obtain ⟨d,c,t,ns,m,rfl,S,ht,hm0,hm1,q⟩:=h;have ht':t<=1000000000 - 1000:=ht;have qQZ:Room 1 _:=hr;refine ⟨_,(qA4 (qAM (i:=2) sc_Ltree_net.nd rfl (E9 rfl) (qBV qA3)) (qA4 (qAM (i:=3) sc_Ltree_net.nd rfl (E9 rfl) (qBV qA3)) (qA4 (qBT D3 rfl (qBC rfl qB3 (qA0 (qAP qCY (pv 1) qA8) qA3)) (qAY (i:=4) sc_Ltree_net.nd rfl (E9 rfl)) (qA4 (qAM (i:=5) sc_Ltree_net.nd rfl (E9 rfl) (qA7 (qK4 rfl) rfl qMP qRB (qA0 (qA7 qAA rfl qB2 qB4 (qA0 (pv 2) qA3)) (qA0 (qBA qCU (qBV (qA0 qA8 (qA0 qA8 (qA0 qA8 (qA0 qA8 (qA0 qA8 (qA0 qA8 qA3))))))) (qAV qBI hr rfl (qA0 (pv 0) (qA0 qA8 qA3))) (fun _ _=>rfl)) qA3)))) (qA4 (qF2 (qRV J1 M7 M8 qD7 (pv 3) (qA0 (qAG qAL rfl qAK qAO (qA0 (qGV qLN (pv 2) (qJ8 (qAP qCY (qA7 qAA rfl qB2 qB4 (qA0 (pv 2) qA3)) (pv 5))) qJ9) qA3)) qA3))) (qA5 (qAM (i:=2) sc_Ltree_net.nd rfl (E9 rfl) (qAP qKW (qGV qLN (pv 2) qJ9 (qJ8 (qAP qCY (qA7 qAA rfl qB2 qB4 (qA0 (pv 2) qA3)) (pv 5)))) (qBV (qA0 (pv 4) qA3)))))))) (qA5 (qAE (qAG qAL rfl qAK qAO (qA0 (qAP qKW (pv 3) (qBV (qA0 (qAG qAL rfl qAK qAO (qA0 (pv 2) qA3)) qA3))) qA3))))))),?_⟩
 try dsimp only [Cx.nox,Cx.wish,cxOf]
 refine cut fun N0 hN0=>?_;refine ⟨(by show 0<=B28;decide),fun o0 ho0=>?_⟩
 refine hN0 _ _ (cut fun N1 hN1=>?_);have S1:=S.new ho0 (.lst []);refine ⟨(by show 0<=B28;decide),fun fo hfo=>?_⟩
 have S2:=S1.new hfo (.lst []);have nd:fo ≠ d:=(qA6 S1.dict hfo).symm;have nc:fo ≠ c:=(qA6 S1.list hfo).symm;have no0:o0 ≠ fo:=qA6 qA1 hfo;have hF:H fo=none:=(qA2 ho0 _).free hfo;refine hN1 _ _ (cut fun N2 hN2=>?_);refine ⟨_,rfl,_,_,rfl,rfl,m - 1,rfl,by lia,by lia,qF9 (lo:=0) (n:=(m - 1).toNat) (fun i σ Hc=>∃ (t':Int) (ms os:List Int) (o:Addr) (rs:List Addr) (Ae:Aa0) (v1 v2:Option V),σ=[some (.ref d),some (.int m),some (.ref o),some (.ref fo),v1,v2]/\StAt Hc d c t' ms/\t<=t'/\t'<=t+i/\Keep d c H Hc/\
  Hc o=some (.lst (os.map V.int))/\(o ≠ fo/\o ≠ c)/\Hc fo=some (.lst (rs.map V.ref))/\NetL Hc rs Ae/\Ae.length=i/\WFn Ae/\Rise (i:Int) os)
  ⟨t,ns,[],o0,[],[],none,none,rfl,S2,by lia,by lia,(qDL ho0 _).trans (qDL hfo _),by rw [qA9 no0];exact qA1,⟨no0,(qA6 S.list ho0).symm⟩,qA1,.nil,rfl,WFn.nil,Rise.nil⟩ ?_ ?_⟩
 ·refine fun i σ Hc hi hI_3=>opq fun G_3 hG_3=>?_;obtain ⟨t',ms,os,o,rs,Ae,v1,v2,rfl,S3,a1,a2,K3,h3,⟨n3,n3c⟩,f3,N3,l3,w3,r3⟩:=hI_3;refine hG_3 ?_;have hlo:os.length<=i:=r3.len;refine nmD fun D1 d1 dr=>cut fun M0 hM0=>?_;refine ⟨_,rfl,o,_,rfl,.inl (Ab2 h3),(by show 6<=B28;decide),fun p hp=>?_⟩
  have S4:=S3.new hp (.lst [.int 0,.int 0,.int 1,.int 2,.int 2,.int 3]);have npd:p ≠ d:=(qA6 S3.dict hp).symm;have npc:p ≠ c:=(qA6 S3.list hp).symm;refine ⟨_,rfl,d,c,t',ms,6,rfl,S4,(by show t'<=1000000000;lia),by decide,by decide,fun k2 ms2 H2 g0 g6 S5 K5=>?_⟩
  obtain ⟨v,hv,v0,v3⟩:=qdI g0 g6;refine ⟨p,_,_,_,rfl,rfl,Ab2 (K5 _ _ qA1 npd npc),hv,?_⟩;have sm:Same Hc (Ag Hc p (.lst [.int 0,.int 0,.int 1,.int 2,.int 2,.int 3])):=qA2 hp _;have K6:=(Keep.of_same (d:=d) (c:=c) sm).trans K5;have nod:o ≠ d:=qCF h3 S3.dict (by intro z;cases z)
  have h6:H2 o=some (.lst (os.map V.int)):=K6 _ _ h3 nod n3c;have f6:H2 fo=some (.lst (rs.map V.ref)):=K6 _ _ f3 nd nc;have N6:NetL H2 rs Ae:=N3.keep (fun r zs e=>S3.tup e) K6;refine ⟨_,_,rfl,?_⟩;dsimp only;have so0:0<=(if v<(((os.map V.int).length:Nat):Int) then v else (((os.map V.int).length:Nat):Int)):=by split <;> lia
  have so1:(if v<(((os.map V.int).length:Nat):Int) then v else (((os.map V.int).length:Nat):Int))<=(os.length:Int):=by rw [A0];split <;> lia
  generalize (if v<(((os.map V.int).length:Nat):Int) then v else (((os.map V.int).length:Nat):Int))=so at so0 so1
  obtain ⟨kk,ek⟩:∃ kk:Nat,(os.length:Int) - so=(kk:Int):=⟨((os.length:Int) - so).toNat,by lia⟩
  have ek':(((os.map V.int).length:Nat):Int) - so=(kk:Int):=by rw [A0];exact ek
  have hkk:kk<=os.length:=by lia
  -- found.append(tuple(open_ones[len(open_ones) - so_many:]))
  refine hM0 _ _ (cut fun M1 hM1=>?_);refine ⟨_,rfl,.inl ⟨rfl,_,Ab2 f6⟩,_,rfl,_,rfl,o,_,rfl,.inl (Ab2 h6),_,rfl,_,_,rfl,rfl,_,rfl,o,_,rfl,Ab2 h6,fun p1 hp1=>?_⟩;refine ⟨p1,_,rfl,.inl ⟨Ab2 qA1,fun r hr1=>?_⟩⟩;rw [ek',qIR,qNX _ _ hkk] at hr1 ⊢;have sm1:=(qA2 hp1 (.lst ((os.drop kk).map V.int))).trans (qA2 hr1 (.tup ((os.drop kk).map V.int)));have f7:=sm1 _ _ f6;have h7:=sm1 _ _ h6;have N7:NetL _ (rs++[r]) (Ae++[os.drop kk]):=qCO (N6.same fun r zs e=>sm1 _ _ e) (show (Ag (Ag H2 p1 (.lst ((os.drop kk).map V.int))) r (.tup ((os.drop kk).map V.int))) r=some (.tup ((os.drop kk).map V.int)) from qA1);have S7:=S5.same sm1;have K7:=K6.trans (.of_same sm1);generalize (Ag (Ag H2 p1 (.lst ((os.drop kk).map V.int))) r (.tup ((os.drop kk).map V.int)))=H7 at f7 h7 N7 S7 K7 ⊢;refine ⟨fo,_,_,rfl,rfl,f7,qAF (by rw [A0,NetAt.len N3];lia),?_⟩
  have e8:rs.map V.ref++[V.ref r]=(rs++[r]).map V.ref:=by rw [B1];rfl
  rw [e8];have S8:StAt (Ag H7 fo (.lst ((rs++[r]).map V.ref))) d c (t'+1) ms2:=⟨by rw [qA9 (F2 nd)];exact S7.dict,by rw [qA9 (F2 nc)];exact S7.list,S7.ne,S7.len,S7.pos⟩
  have h8:(Ag H7 fo (.lst ((rs++[r]).map V.ref))) o=some (.lst (os.map V.int)):=by rw [qA9 n3];exact h7
  have N8:NetL (Ag H7 fo (.lst ((rs++[r]).map V.ref))) (rs++[r]) (Ae++[os.drop kk]):=N7.same fun r' zs e=>by rw [qA9 (qCF e f7 (by intro z;cases z))];exact e
  have K8:Keep d c H (Ag H7 fo (.lst ((rs++[r]).map V.ref))):=fun b u e n1 n2=>by rw [qA9 (qA6 e hF)];exact (K3.trans K7) b u e n1 n2
  have f8:(Ag H7 fo (.lst ((rs++[r]).map V.ref))) fo=some (.lst ((rs++[r]).map V.ref)):=qA1;generalize Ag H7 fo (.lst ((rs++[r]).map V.ref))=H8 at S8 h8 N8 K8 f8 ⊢
  -- open_ones=open_ones[:len(open_ones) - so_many]+[k]
  refine hM1 _ _ ?_;refine ⟨_,rfl,_,rfl,o,_,rfl,.inl (Ab2 h8),_,rfl,_,_,rfl,rfl,_,rfl,o,_,rfl,Ab2 h8,fun p2 hp2=>?_⟩;rw [ek',qIR,qaT];refine ⟨_,rfl,(by show 1<=B28;decide),fun p3 hp3=>?_⟩
  have n23:p2 ≠ p3:=qA6 qA1 hp3;refine ⟨p2,p3,_,_,rfl,rfl,by rw [qA9 n23];exact qA1,qA1,R8 (qAF (by rw [A0,C5,B9];lia)),fun p4 hp4=>?_⟩
  have sm2:=((qA2 hp2 (.lst ((os.take kk).map V.int))).trans (qA2 hp3 (.lst [.int (0+(i:Int))]))).trans (qA2 hp4 (.lst ((os.take kk).map V.int++[.int (0+(i:Int))])));have e9:(os.take kk).map V.int++[V.int (0+(i:Int))]=(os.take kk++[(i:Int)]).map V.int:=by rw [B1,A75];rfl
  have nf4:p4 ≠ fo:=(qA6 ((qA2 hp3 _) _ _ ((qA2 hp2 _) _ _ f8)) hp4).symm;have nc4:p4 ≠ c:=(qA6 ((qA2 hp3 _) _ _ ((qA2 hp2 _) _ _ S8.list)) hp4).symm;refine d1 _ _ ⟨t'+1,ms2,os.take kk++[(i:Int)],p4,rs++[r],Ae++[os.drop kk],_,_,rfl,S8.same sm2,by lia,by lia,K8.trans (.of_same sm2),by rw [<- e9];exact qA1,⟨nf4,nc4⟩,sm2 _ _ f8,N8.same fun r' zs e=>sm2 _ _ e,by rw [B0,B9,l3],w3.snoc ?_,?_⟩
  ·rw [l3];exact r3.sub (V2 _ _)
  ·have:=(r3.sub (X6 kk os)).snoc (by lia)
   rw [show ((i+1:Nat):Int)=(i:Int)+1 by lia]
   exact this
 ·refine fun σ Hc hI_4=>opq fun G_4 hG_4=>?_;obtain ⟨t',ms,os,o,rs,Ae,v1,v2,rfl,S3,a1,a2,K3,h3,⟨n3,n3c⟩,f3,N3,l3,w3,r3⟩:=hI_4;refine hG_4 ?_;refine hN2 _ _ ?_;refine ⟨_,rfl,_,rfl,o,_,rfl,.inl ⟨Ab2 h3,fun r hr1=>?_⟩⟩;refine ⟨(by show 1<=B28;decide),fun p hp=>?_⟩
  have sm1:=(qA2 hr1 (.tup (os.map V.int))).trans (qA2 hp (.lst [.ref r]));refine ⟨fo,p,_,_,rfl,rfl,sm1 _ _ f3,qA1,R8 (qAF (by rw [A0,NetAt.len N3,B9];lia)),fun p2 hp2=>?_⟩
  refine ⟨p2,_,rfl,.inl ⟨Ab2 qA1,fun a ha=>?_⟩⟩;have sm2:=(sm1.trans (qA2 hp2 (.lst (rs.map V.ref++[.ref r])))).trans (qA2 ha (.tup (rs.map V.ref++[.ref r])));have gr:=(qA2 ha (.tup (rs.map V.ref++[.ref r]))) _ _ ((qA2 hp2 (.lst (rs.map V.ref++[.ref r]))) _ _ ((qA2 hp (.lst [.ref r])) r _ (qA1 (H:=Hc) (o:=.tup (os.map V.int)))));have e8:rs.map V.ref++[V.ref r]=(rs++[r]).map V.ref:=by rw [B1];rfl
  refine q a (Ae++[os]) t' ms _ (S3.same sm2) (by lia) (by lia) (K3.trans (.of_same sm2)) ⟨rs++[r],by rw [<- e8];exact qA1,qCO (N3.same fun r' zs e=>sm2 _ _ e) gr⟩ (w3.snoc (by rw [l3];exact r3)) ?_
  rw [B0,B9,l3]
  lia
theorem sc_Lnet:FnScope ["_law_state","_law_many","_law_way","_law_wide","_law_some","_law_half"] ["_law_state","_law_many"] (qAB qQA):=qBL
theorem ok_Lnet (F:Fun K "_law_net" "_law_net" qQA f fd) (qBI:Clb P w K mg base 1 qFE qFY "_law_take" ["_law_state","_law_many"] qJ0)
  (qEN:Clb P w K mg base 2 qEG qKL "_law_some_needs" ["_law_state","_law_k"] qOG)
  (qK9:Clb P w K mg base 2 qGH qNS "_law_tree_net" ["_law_state","_law_many"] qYC)
  (qB3:mg "range" = none) (qcX:mg "max" = none) (qG8:mg "int" = none) (qBO:mg "enumerate" = none) (qAK:mg "tuple" = none) (qC1:mg "sorted" = none) (qSU:mg "set" = none):FnOk P w K mg base CX0 3 f fd ["_law_state","_law_many"] qbH:=by
 refine F.okA sc_Lnet fun cdv A outer s H vs Q E hr h=>?_;obtain ⟨d,c,t,ns,m,rfl,S,ht,hm0,hm1,q⟩:=h;have ht':t<=1000000000 - 10000:=ht;have qWC:Room 2 _:=hr;have qYY:Room 2 _:=hr;refine ⟨_,(qA4 (qAM (i:=2) sc_Lnet.nd rfl (E9 rfl) (qAV qBI hr rfl (qA0 (pv 0) (qA0 qA8 qA3)))) (qA4 (qAM (i:=3) sc_Lnet.nd rfl (l7 rfl) (qAP qD6 qA8 (qAV qBI hr rfl (qA0 (pv 0) (qA0 qA8 qA3))))) (qA4 (qB5 (qAN qGA (pv 2) qA8 (qAS _)) (qA5 (qAE (qAG qAL rfl qAK qAO (qA0 (qCB rfl (lcs (own:=["_law_k"]) (fv:=[3]) (by kernel_rfl)) (qBC rfl qB3 (qA0 (pv 1) qA3)) (fun z1=>qBG 0) (fun z1=>qAZ) (fun z1=>(qAG (qKO rfl) rfl qAK qAO (qA0 (qAG qVQ rfl qB3 qY1 (qA0 (qA7 (qVR rfl) rfl qcX qcQ (qA0 qA8 (qA0 (qAP qCY (pv 0) (pv 1)) qA3))) (qA0 (pv 0) qA3))) qA3)))) qA3)))) qAI) (qA4 (qB5 (qAN qGA (pv 2) qA8 (qAS _)) (qA4 (qN7 (i:=4) sc_Lnet.nd rfl rfl rfl (lcs (own:=["_law_k"]) (fv:=[3]) (by kernel_rfl)) (qBC rfl qB3 (qA0 (pv 1) qA3)) (fun z2=>qBG 0) (fun z2=>qAZ) (fun z2=>(qAP qKW (qAP qTV (qBV (qA0 (qAP qCY (pv 0) (pv 1)) qA3)) (qAG qHG rfl qG8 qK5 (qA0 (qCC qTY (pv 0) (pv 1) (qAS _)) qA3))) (qAP qTV (qBV (qA0 (qAP qCY (pv 0) qA8) qA3)) (qAG qHG rfl qG8 qK5 (qA0 (qCC qTX (qAP qJE (pv 0) (pv 1)) qA8 (qAS _)) qA3))))) (by kernel_rfl)) (qA5 (qAE (qAG qAL rfl qAK qAO (qA0 (qCB rfl (lcs (own:=["_law_needs"]) (fv:=[]) (by kernel_rfl)) (qCA (pv 4)) (fun z3=>qBG 0) (fun z3=>qAZ) (fun z3=>(qAG (qGK (K:=K) rfl) rfl qAK qAO (qA0 (qA7 (qO0 (K:=K) (w:=w) rfl rfl rfl) rfl qC1 qDD (qA0 (qAG (qVP (K:=K) (w:=w) rfl rfl rfl) rfl qSU qVT (qA0 (pv 0) qA3)) qA3)) qA3)))) qA3))))) qAI) (qA4 (qB5 (qAN qGA (pv 2) qA8 (qAS _)) (qA5 (qAE (qAV qK9 hr rfl (qA0 (pv 0) (qA0 (pv 1) qA3))))) qAI) (qA4 (qB5 (qAN qGA (pv 2) qA8 (qAS _)) (qA4 (qAM (i:=5) sc_Lnet.nd rfl (l7 rfl) (qAP qOT (pv 1) qA8)) (qA4 (qN7 (i:=4) sc_Lnet.nd rfl rfl rfl (lcs (own:=["_law_k"]) (fv:=[0,5]) (by kernel_rfl)) (qBC rfl qB3 (qA0 (pv 1) qA3)) (fun z4=>qBG 0) (fun z4=>qAZ) (fun z4=>(qAV qEN hr rfl (qA0 (pv 1) (qA0 (qGW (qAN qLZ (pv 0) (pv 2) (qAS _)) (pv 0) (qAP qCY (pv 0) (pv 2))) qA3)))) (by kernel_rfl)) (qA5 (qAE (qAG qAL rfl qAK qAO (qA0 (qCB rfl (lcs (own:=["_law_k","_law_needs"]) (fv:=[5]) (by kernel_rfl)) (qTM rfl qBO qCT (qA0 (pv 4) qA3)) (fun z5=>qHK (K:=K) (n:=2) rfl rfl (qB8 (qBG 0) (qB8 (qBG 1) qE8)) rfl rfl) (fun z5=>qAZ) (fun z5=>(qGW (qAN qLZ (pv 0) (pv 2) (qAS _)) (pv 1) (qAG (qGK (K:=K) rfl) rfl qAK qAO (qA0 (qCB (X:=lcCx _ _ _ _ z5) rfl (lcs (own:=["_law_n"]) (fv:=[2]) (by kernel_rfl)) (qOR (K:=K) rfl (pv 1)) (fun z6=>qBG 0) (fun z6=>qAZ) (fun z6=>(qAP qD6 (pv 0) (pv 1)))) qA3))))) qA3)))))) qAI) (qA5 (qAE (qAG qAL rfl qAK qAO (qA0 (qCB rfl (lcs (own:=["_law_k"]) (fv:=[0]) (by kernel_rfl)) (qBC rfl qB3 (qA0 (pv 1) qA3)) (fun z7=>qBG 0) (fun z7=>qAZ) (fun z7=>(qAV qEN hr rfl (qA0 (pv 1) (qA0 (pv 0) qA3))))) qA3)))))))))),?_⟩
 try dsimp only [Cx.nox,Cx.wish,cxOf]
 refine cut fun N1 hN1=>?_;refine ⟨_,rfl,d,c,t,ns,8,rfl,S,(by show t<=1000000000;lia),by decide,by decide,fun way ns1 H1 w0 w8 S1 K1=>?_⟩
 refine hN1 _ _ (cut fun N2 hN2=>?_);refine ⟨_,rfl,d,c,t+1,ns1,4,rfl,S1,(by show t+1<=1000000000;lia),by decide,by decide,fun wd ns2 H2 wd0 wd4 S2 K2=>⟨_,_,rfl,rfl,?_⟩⟩
 dsimp only;have K12:=K1.trans K2;generalize hwide:(1:Int)+wd=wide;have wi0:1<=wide:=by lia
 have wi4:wide<=4:=by lia
 refine hN2 _ _ (cut fun N3 hN3=>?_);refine ⟨_,rfl,rfl,_,rfl,?_⟩;refine ite2 (fun _=>?_) (fun _=>?_)
 ·refine ⟨_,rfl,m,rfl,by lia,by lia,fun p hp=>?_⟩
  refine qDK (p:=p) (lo:=0) (n:=m.toNat) (fun i σ Hc=>∃ (v:Option V) (rs:List Addr) (Ae:Aa0),σ=[v,some (.int wide)]/\Same H2 Hc/\Hc p=some (.lst (rs.map V.ref))/\NetL Hc rs Ae/\Ae.length=i/\WFn Ae) ?_ ?_ ?_
  ·exact ⟨none,[],[],rfl,qA2 hp _,qA1,.nil,rfl,WFn.nil⟩
  ·refine fun i σ Hc hi hI_1=>opq fun G_1 hG_1=>?_;obtain ⟨v,rs,Ae,rfl,sm,hpc,N,hl,wf⟩:=hI_1;refine hG_1 ?_;refine ⟨_,rfl,_,rfl,_,_,rfl,rfl,0,_,rfl,_,rfl,_,_,rfl,fun p1 hp1=>?_⟩;refine ⟨p1,_,_,rfl,qA1,by split <;> lia,by split <;> lia,by lia,by lia,fun r hr1=>?_⟩
   have lo0:0<=(if (0+(i:Int)) - wide > 0 then (0+(i:Int)) - wide else 0):=by split <;> lia
   have hri:=qOO (hi:=0+(i:Int)) lo0;dsimp only;rw [qON];generalize qBM (if (0+(i:Int)) - wide > 0 then (0+(i:Int)) - wide else 0) (0+(i:Int))=zs at hri ⊢
   generalize HO.rng (if (0+(i:Int)) - wide > 0 then (0+(i:Int)) - wide else 0) (0+(i:Int))=ho at hp1 hr1 ⊢
   have s1:=(qA2 hp1 ho).trans (qA2 hr1 (.tup (zs.map V.int)));have g1:=s1 _ _ hpc;refine ⟨_,g1,qAF (by rw [A0,NetAt.len N];lia),?_⟩
   rw [qBJ];refine ⟨_,rs++[r],Ae++[zs],rfl,qAC (sm.trans s1) hp,qA1,qDJ (qCO (N.same fun r' ys e=>s1 _ _ e) qA1) g1,by rw [B0,B9,hl],wf.snoc ?_⟩
   rw [hl];exact hri.mono (by lia)
  ·refine fun σ Hc hI_2=>opq fun G_2 hG_2=>?_;obtain ⟨v,rs,Ae,rfl,sm,hpc,N,hl,wf⟩:=hI_2;refine hG_2 ?_;refine ⟨p,_,rfl,.inl ⟨Ab2 hpc,fun a ha=>?_⟩⟩;have s1:=qA2 ha (.tup (rs.map V.ref));exact q a Ae (t+1+1) ns2 _ (S2.same (sm.trans s1)) (by lia) (by lia) (K12.trans (.of_same (sm.trans s1))) ⟨rs,qA1,N.same fun r ys e=>s1 _ _ e⟩ wf (by rw [hl];lia)
 refine hN3 _ _ (cut fun N4 hN4=>?_);refine ⟨_,rfl,rfl,_,rfl,?_⟩;refine ite2 (fun _=>?_) (fun _=>?_)
 ·refine ⟨_,rfl,m,rfl,by lia,by lia,fun p hp=>?_⟩
  refine qDK (p:=p) (lo:=0) (n:=m.toNat) (fun i σ Hc=>∃ (v:Option V) (rs:List Addr) (ls:Aa0),σ=[v,some (.int wide)]/\Same H2 Hc/\Hc p=some (.lst (rs.map V.ref))/\Paired (fun r zs=>r ≠ p/\Hc r=some (.lst (zs.map V.int))) rs ls/\ls.length=i/\
   ∀ (j:Nat) zs,ls[j]?=some zs->zs.length<=2/\∀ x ∈ zs,0<=x/\x<(j:Int)) ?_ ?_ ?_
  ·exact ⟨none,[],[],rfl,qA2 hp _,qA1,.nil,rfl,fun j zs e=>by simp at e⟩
  ·refine fun i σ Hc hi hI_3=>opq fun G_3 hG_3=>?_;obtain ⟨v,rs,ls,rfl,sm,hpc,N,hl,wf⟩:=hI_3;refine hG_3 ?_;refine ⟨_,rfl,_,rfl,_,_,rfl,rfl,(by show 1<=B28;decide),fun a1 ha1=>?_⟩
   refine ⟨_,rfl,_,rfl,_,_,rfl,rfl,.inr ⟨_,rfl,?_⟩⟩;refine ⟨a1,_,_,rfl,rfl,qA1,by split <;> decide,by split <;> decide,?_,fun a2 ha2=>?_⟩
   ·have:∀ b:Bool,[V.int (0+(i:Int) - wide)].length * (if b=true then (1:Int) else 0).toNat<=B28:=by intro b;cases b <;> simp [B39]
    exact this _
   dsimp only;rw [qbP];refine ⟨_,rfl,_,_,rfl,rfl,(by show 1<=B28;decide),fun a3 ha3=>?_⟩
   refine ⟨_,rfl,_,rfl,_,_,rfl,rfl,(by show 0<wide;lia),_,_,rfl,rfl,.inr ⟨_,rfl,?_⟩⟩
   refine ⟨a3,_,_,rfl,rfl,qA1,by split <;> decide,by split <;> decide,?_,fun a4 ha4=>?_⟩
   ·have:∀ b:Bool,[V.int (0+(i:Int) - 1)].length * (if b=true then (1:Int) else 0).toNat<=B28:=by intro b;cases b <;> simp [B39]
    exact this _
   dsimp only;rw [qbP];have b1:∀ x ∈ (if decide (wide<=0+(i:Int))=true then [0+(i:Int) - wide] else []),0<=x/\x<(i:Int):=by
    intro x hx
    split at hx
    ·rename_i hd
     have:=of_decide_eq_true hd;rw [A7.mp hx];lia
    ·cases hx
   have b2:∀ x ∈ (if decide (0<(0+(i:Int)) % wide)=true then [0+(i:Int) - 1] else []),0<=x/\x<(i:Int):=by
    intro x hx
    split at hx
    ·rename_i hd
     have hd':=of_decide_eq_true hd;have:(i:Int) ≠ 0:=by
      intro e;rw [e] at hd';simp at hd'
     rw [A7.mp hx];lia
    ·cases hx
   have c1:(if decide (wide<=0+(i:Int))=true then [0+(i:Int) - wide] else []).length<=1:=by split <;> simp
   have c2:(if decide (0<(0+(i:Int)) % wide)=true then [0+(i:Int) - 1] else []).length<=1:=by split <;> simp
   generalize (if decide (wide<=0+(i:Int))=true then [0+(i:Int) - wide] else [])=z1 at b1 c1 ha3 ha4 ⊢
   generalize (if decide (0<(0+(i:Int)) % wide)=true then [0+(i:Int) - 1] else [])=z2 at b2 c2 ⊢
   have s2:=(qA2 ha3 (.lst [.int (0+(i:Int) - 1)])).trans (qA2 ha4 (.lst (z2.map V.int)));refine ⟨a2,a4,_,_,rfl,rfl,s2 _ _ qA1,qA1,R8 (qAF (by rw [A0,A0];lia)),fun a5 ha5=>?_⟩
   have s1:=(qA2 ha1 (.lst [.int (0+(i:Int) - wide)])).trans (qA2 ha2 (.lst (z1.map V.int)));have s3:=(s1.trans s2).trans (qA2 ha5 (.lst (z1.map V.int++z2.map V.int)));have e5:z1.map V.int++z2.map V.int=(z1++z2).map V.int:=by rw [B1]
   rw [e5] at s3 ⊢;have g1:=s3 _ _ hpc;have n5:a5 ≠ p:=(qA6 ((s1.trans s2) _ _ hpc) ha5).symm;refine ⟨_,g1,qAF (by rw [A0,B7 N];lia),?_⟩
   rw [qBJ];refine ⟨_,rs++[a5],ls++[z1++z2],rfl,qAC (sm.trans s3) hp,qA1,Z2 (qKU N fun r zs e=>⟨e.1,by rw [qA9 e.1];exact s3 _ _ e.2⟩) ⟨n5,by rw [qA9 n5];exact qA1⟩,by rw [B0,B9,hl],fun j zs e=>?_⟩
   rcases qQ9 e with e | ⟨rfl,rfl⟩
   ·exact wf j zs e
   ·rw [hl];refine ⟨by rw [B0];lia,fun x hx=>?_⟩
    rcases B3.mp hx with hx | hx
    ·exact b1 x hx
    ·exact b2 x hx
  ·refine fun σ Hc hI_4=>opq fun G_4 hG_4=>?_;obtain ⟨v,rs,ls,rfl,sm,hpc,N,hl,wf⟩:=hI_4;refine hG_4 ?_;refine ⟨_,rfl,p,rfl,⟨_,Ab2 hpc⟩,fun p' hp'=>?_⟩;refine qE9 (p:=p') (a:=p) (xs:=rs.map V.ref) (fun i σ Hd=>∃ (v:Option V) (rs':List Addr) (Ae:Aa0),σ=[v]/\Same Hc Hd/\Hd p'=some (.lst (rs'.map V.ref))/\NetL Hd rs' Ae/\Ae.length=i/\WFn Ae) ?_ ?_ ?_ ?_
   ·exact ⟨none,[],[],rfl,qA2 hp' _,qA1,.nil,rfl,WFn.nil⟩
   ·rintro i σ Hd hi ⟨v,rs',Ae,rfl,sm2,_⟩;exact Ab2 (sm2 _ _ hpc)
   ·refine fun i x σ Hd hx hI_6=>opq fun G_6 hG_6=>?_;obtain ⟨v,rs',Ae,rfl,sm2,hpd,N2,hl2,wf2⟩:=hI_6;obtain ⟨r,hr1,rfl⟩:=qC6 hx;obtain ⟨zs,hz,_,hr2⟩:=qAU N hr1;obtain ⟨l2,m2⟩:=wf i zs hz;refine hG_6 ?_;refine ⟨_,rfl,r,zs,rfl,Ab2 (sm2 _ _ hr2),by lia,fun a ha=>?_⟩
    refine ⟨a,dedI zs,rfl,.inr (.inr qA1),T0 (qMG zs) (by lia),fun b ys hb hpm hs=>?_⟩
    refine ⟨b,_,rfl,.inl ⟨Ab2 qA1,fun r2 hr3=>?_⟩⟩;have s1:=((qA2 ha (SetO w a (dedI zs))).trans (qA2 hb (.lst (ys.map V.int)))).trans (qA2 hr3 (.tup (ys.map V.int)));have g1:=s1 _ _ hpd;have lrs:rs.length=m.toNat:=by rw [B7 N,hl]
    have hi:i<rs.length:=(A4.mp hr1).1;refine ⟨_,g1,qAF (by rw [A0,NetAt.len N2];lia),?_⟩
    rw [qBJ];refine ⟨_,rs'++[r2],Ae++[ys],rfl,qAC (sm2.trans s1) hp',qA1,qDJ (qCO (N2.same fun r' zs' e=>s1 _ _ e) qA1) g1,by rw [B0,B9,hl2],wf2.snoc ?_⟩
    rw [hl2];exact qLV hpm hs m2
   ·refine fun σ Hd hI_7=>opq fun G_7 hG_7=>?_;obtain ⟨v,rs',Ae,rfl,sm2,hpd,N2,hl2,wf2⟩:=hI_7;refine hG_7 ?_;refine ⟨p',_,rfl,.inl ⟨Ab2 hpd,fun a ha=>?_⟩⟩;have s1:=qA2 ha (.tup (rs'.map V.ref));refine q a Ae (t+1+1) ns2 _ (S2.same ((sm.trans sm2).trans s1)) (by lia) (by lia) (K12.trans (.of_same ((sm.trans sm2).trans s1))) ⟨rs',qA1,N2.same fun r ys e=>s1 _ _ e⟩ wf2 ?_
    rw [hl2,A0,B7 N,hl]
    lia
 refine hN4 _ _ (cut fun N5 hN5=>?_);refine ⟨_,rfl,rfl,_,rfl,?_⟩;refine ite2 (fun _=>?_) (fun _=>?_)
 ·refine ⟨_,rfl,_,rfl,d,c,t+1+1,ns2,m,rfl,S2,?_,hm0,hm1,fun a Ae t' ms H' a1 a2 a3 a4 a5 a6 a7=>?_⟩
  ·show t+1+1<=1000000000 - 1000;lia
  ·exact q a Ae t' ms H' a1 (by lia) (by lia) (K12.trans a4) a5 a6 a7
 refine hN5 _ _ (cut fun N6 hN6=>?_);refine ⟨_,rfl,rfl,_,rfl,?_⟩;refine ite2 (fun _=>?_) (fun _=>?_)
 ·refine ⟨_,rfl,_,_,rfl,rfl,⟨by decide,by decide⟩,?_⟩
  dsimp only;have hf0:0<=m / 2:=by lia
  have hf1:m / 2<=m:=by lia
  generalize m / 2=half at hf0 hf1;refine ⟨_,rfl,m,rfl,by lia,by lia,fun p hp=>?_⟩
  refine qDK (p:=p) (lo:=0) (n:=m.toNat) (fun i σ Hc=>∃ (v:Option V) (t':Int) (ms:List Int) (rs:List Addr) (Ae:Aa0),σ=[v,some (.ref d),some (.int half)]/\StAt Hc d c t' ms/\t+2<=t'/\t'<=t+2+9 * i/\Keep d c H2 Hc/\Hc p=some (.lst (rs.map V.ref))/\NetL Hc rs Ae/\Ae.length=i/\
   ∀ (j:Nat) zs,Ae[j]?=some zs->Rise (if (j:Int)<half then (j:Int) else (j:Int) - half) zs) ?_ ?_ ?_
  ·exact ⟨none,t+1+1,ns2,[],[],rfl,S2.new hp _,by lia,by lia,qDL hp _,qA1,.nil,rfl,fun j zs e=>by simp at e⟩
  ·refine fun i σ Hc hi hI_8=>opq fun G_8 hG_8=>?_;obtain ⟨v,t',ms,rs,Ae,rfl,S3,b1,b2,k3,hpc,N,hl,wf⟩:=hI_8;refine hG_8 ?_;have npd:p ≠ d:=(qA6 S2.dict hp).symm;have npc:p ≠ c:=(qA6 S2.list hp).symm;have nx:∀ (kk:Int),kk=(if (i:Int)<half then (i:Int) else (i:Int) - half)->qOG [.ref d,.int kk] Hc (fun y H4=>∃ ys,H4 p=some (.lst ys)/\ys.length<B28/\∃ (v:Option V) (t':Int) (ms:List Int) (rs:List Addr) (Ae:Aa0),[some (V.int (0+(i:Int))),some (.ref d),some (.int half)]=[v,some (.ref d),some (.int half)]/\StAt (Ag H4 p (.lst (ys++[y]))) d c t' ms/\t+2<=t'/\t'<=t+2+9 * (i+1:Nat)/\Keep d c H2 (Ag H4 p (.lst (ys++[y])))/\(Ag H4 p (.lst (ys++[y]))) p=some (.lst (rs.map V.ref))/\NetL (Ag H4 p (.lst (ys++[y]))) rs Ae/\Ae.length=i+1/\
     ∀ (j:Nat) zs,Ae[j]?=some zs->Rise (if (j:Int)<half then (j:Int) else (j:Int) - half) zs) E0:=by
    intro kk ek;refine ⟨d,c,t',ms,kk,rfl,S3,(by show t'<=1000000000 - 20;lia),by rw [ek];split <;> lia,by rw [ek];split <;> lia,fun r zs t'' ms2 H3 e1 e2 e3 e4 e5 e6=>?_⟩
    have g1:=e4 _ _ hpc npd npc;refine ⟨_,g1,qAF (by rw [A0,NetAt.len N];lia),?_⟩
    rw [qBJ];refine ⟨_,t'',ms2,rs++[r],Ae++[zs],rfl,⟨by rw [qA9 (F2 npd)];exact e1.dict,by rw [qA9 (F2 npc)];exact e1.list,e1.ne,e1.len,e1.pos⟩,by lia,by lia,qQX (k3.trans e4) hp,qA1,qDJ (qCO (N.keep (fun r ys e=>S3.tup e) e4) e5) g1,by rw [B0,B9,hl],fun j ys e=>?_⟩
    rcases qQ9 e with e | ⟨rfl,rfl⟩
    ·exact wf j ys e
    ·rw [hl,<- ek];exact e6
   refine ⟨_,rfl,_,rfl,_,rfl,_,_,rfl,rfl,_,rfl,?_⟩;refine ite2 (fun ck=>?_) (fun ck=>?_)
   ·have ck':0+(i:Int)<half:=of_decide_eq_true ck;exact ⟨_,rfl,nx _ (by rw [if_pos (by lia)];lia)⟩
   ·have ck':¬ 0+(i:Int)<half:=of_decide_eq_false (E8.mpr ck);exact ⟨_,rfl,_,rfl,_,_,rfl,rfl,nx _ (by rw [if_neg (by lia)];lia)⟩
  ·refine fun σ Hc hI_9=>opq fun G_9 hG_9=>?_;obtain ⟨v,t',ms,rs,Ae,rfl,S3,b1,b2,k3,hpc,N,hl,wf⟩:=hI_9;refine hG_9 ?_;have lrs:rs.length=m.toNat:=by rw [B7 N,hl]
   refine ⟨_,rfl,p,rfl,⟨_,Ab2 hpc⟩,fun p' hp'=>?_⟩;refine qP3 (p:=p') (a:=p) (xs:=rs.map V.ref) (fun i σ Hd=>∃ (v1 v2:Option V) (rs':List Addr) (net':Aa0),σ=[v1,v2,some (.int half)]/\Same Hc Hd/\Hd p'=some (.lst (rs'.map V.ref))/\NetL Hd rs' net'/\net'.length=i/\WFn net') ?_ ?_ ?_ ?_
   ·exact ⟨none,none,[],[],rfl,qA2 hp' _,qA1,.nil,rfl,WFn.nil⟩
   ·rintro i σ Hd hi ⟨v1,v2,rs',net',rfl,sm2,_⟩;exact Ab2 (sm2 _ _ hpc)
   ·refine fun i x σ Hd T hx hI_11 hT=>opq fun G_11 hG_11=>?_;obtain ⟨v1,v2,rs',net',rfl,sm2,hpd,N2,hl2,wf2⟩:=hI_11;obtain ⟨r,hr1,rfl⟩:=qC6 hx;obtain ⟨zs,hz,hr2⟩:=qAU N hr1;refine hG_11 ?_;have hi:i<rs.length:=(A4.mp hr1).1;have rz:=wf i zs hz;have sT:=qA2 hT (.tup [.int (i:Int),.ref r]);have hrT:=sT _ _ (sm2 _ _ hr2);have hpT:=sT _ _ hpd;have NT:=N2.same fun r' zs' e=>sT _ _ e;have smT:=sm2.trans sT;have gT:SqT K (Ag Hd T (.tup [.int (i:Int),.ref r])) T [.int (i:Int),.ref r]:=Ac0 qA1;generalize Ag Hd T (.tup [.int (i:Int),.ref r])=HT' at hrT hpT NT smT gT ⊢;refine ⟨T,_,rfl,gT,rfl,_,_,rfl,_,_,rfl,rfl,?_⟩;refine ⟨_,rfl,_,rfl,_,_,rfl,rfl,_,rfl,?_⟩;refine ite2 (fun ck=>?_) (fun ck=>?_)
    ·have ck':(i:Int)<half:=of_decide_eq_true ck;rw [if_pos ck'] at rz;refine ⟨_,rfl,_,hpT,qAF (by rw [A0,NetAt.len N2];lia),?_⟩
     rw [qBJ];refine ⟨_,_,rs'++[r],net'++[zs],rfl,qAC smT hp',qA1,qDJ (qCO NT hrT) hpT,by rw [B0,B9,hl2],wf2.snoc ?_⟩
     rw [hl2];exact rz
    ·have ck':¬ (i:Int)<half:=of_decide_eq_false (E8.mpr ck);rw [if_neg ck'] at rz;have lz:zs.length<=i:=by
      have e:((i:Int) - half)=(((i:Int) - half).toNat:Nat):=by lia
      rw [e] at rz;have:=rz.len
      lia
     refine ⟨_,rfl,r,rfl,⟨_,Ac0 hrT⟩,fun p2 hp2=>?_⟩;refine qER (p:=p2) (a:=r) (xs:=zs.map V.int) (fun j σ He=>∃ (v:Option V),σ=[v,some (.int half)]/\Same HT' He/\He p2=some (.lst (((zs.take j).map (·+half)).map V.int))) ?_ ?_ ?_ ?_
     ·exact ⟨none,rfl,qA2 hp2 _,qA1⟩
     ·rintro j σ He hj ⟨v,rfl,sm3,_⟩;exact Ac0 (sm3 _ _ hrT)
     ·refine fun j x σ He hx2 hI_13=>opq fun G_13 hG_13=>?_;obtain ⟨v,rfl,sm3,hp3⟩:=hI_13;obtain ⟨z,hz2,rfl⟩:=qAX hx2;refine hG_13 ?_;refine ⟨_,rfl,_,rfl,_,_,rfl,rfl,_,hp3,qAF (by rw [A0,A0,C5];lia),_,rfl,qAC sm3 hp2,?_⟩
      rw [qA1,C8,hz2,C9,B1,B1]
      rfl
     ·refine fun σ He hI_14=>opq fun G_14 hG_14=>?_;obtain ⟨v,rfl,sm3,hp3⟩:=hI_14;refine hG_14 ?_;rw [A0,C4 (A6 _)] at hp3;refine ⟨p2,_,rfl,.inl ⟨Ab2 hp3,fun r2 hr3=>?_⟩⟩;have s1:=qA2 hr3 (.tup ((zs.map (·+half)).map V.int));have s2:=sm3.trans s1;have g1:=s2 _ _ hpT;refine ⟨_,g1,qAF (by rw [A0,NetAt.len N2];lia),?_⟩
      rw [qBJ];refine ⟨_,_,rs'++[r2],net'++[zs.map (·+half)],rfl,qAC (smT.trans s2) hp',qA1,qDJ (qCO (NT.same fun r' zs' e=>s2 _ _ e) qA1) g1,by rw [B0,B9,hl2],wf2.snoc ?_⟩
      rw [hl2];have:=rz.shift hf0;rw [show (i:Int) - half+half=(i:Int) by lia] at this
      exact this
   ·refine fun σ Hd hI_15=>opq fun G_15 hG_15=>?_;obtain ⟨v1,v2,rs',net',rfl,sm2,hpd,N2,hl2,wf2⟩:=hI_15;refine hG_15 ?_;refine ⟨p',_,rfl,.inl ⟨Ab2 hpd,fun a ha=>?_⟩⟩;have s1:=qA2 ha (.tup (rs'.map V.ref));refine q a net' t' ms _ (S3.same (sm2.trans s1)) (by lia) (by lia) (K12.trans (k3.trans (.of_same (sm2.trans s1)))) ⟨rs',qA1,N2.same fun r ys e=>s1 _ _ e⟩ wf2 ?_
    rw [hl2,A0,B7 N,hl]
    lia
 refine hN6 _ _ ?_;refine ⟨_,rfl,m,rfl,by lia,by lia,fun p hp=>?_⟩
 refine qDK (p:=p) (lo:=0) (n:=m.toNat) (fun i σ Hc=>∃ (v:Option V) (t':Int) (ms:List Int) (rs:List Addr) (Ae:Aa0),σ=[v,some (.ref d)]/\StAt Hc d c t' ms/\t+2<=t'/\t'<=t+2+9 * i/\Keep d c H2 Hc/\Hc p=some (.lst (rs.map V.ref))/\NetL Hc rs Ae/\Ae.length=i/\WFn Ae) ?_ ?_ ?_
 ·exact ⟨none,t+1+1,ns2,[],[],rfl,S2.new hp _,by lia,by lia,qDL hp _,qA1,.nil,rfl,WFn.nil⟩
 ·refine fun i σ Hc hi hI_16=>opq fun G_16 hG_16=>?_;obtain ⟨v,t',ms,rs,Ae,rfl,S3,b1,b2,k3,hpc,N,hl,wf⟩:=hI_16;refine hG_16 ?_;have npd:p ≠ d:=(qA6 S2.dict hp).symm;have npc:p ≠ c:=(qA6 S2.list hp).symm;refine ⟨_,rfl,_,rfl,d,c,t',ms,0+(i:Int),rfl,S3,(by show t'<=1000000000 - 20;lia),by lia,by lia,fun r zs t'' ms2 H3 e1 e2 e3 e4 e5 e6=>?_⟩
  have g1:=e4 _ _ hpc npd npc;refine ⟨_,g1,qAF (by rw [A0,NetAt.len N];lia),?_⟩
  rw [qBJ];refine ⟨_,t'',ms2,rs++[r],Ae++[zs],rfl,⟨by rw [qA9 (F2 npd)];exact e1.dict,by rw [qA9 (F2 npc)];exact e1.list,e1.ne,e1.len,e1.pos⟩,by lia,by lia,qQX (k3.trans e4) hp,qA1,qDJ (qCO (N.keep (fun r ys e=>S3.tup e) e4) e5) g1,by rw [B0,B9,hl],wf.snoc ?_⟩
  rw [hl];exact e6.mono (by lia)
 ·refine fun σ Hc hI_17=>opq fun G_17 hG_17=>?_;obtain ⟨v,t',ms,rs,Ae,rfl,S3,b1,b2,k3,hpc,N,hl,wf⟩:=hI_17;refine hG_17 ?_;refine ⟨p,_,rfl,.inl ⟨Ab2 hpc,fun a ha=>?_⟩⟩;have s1:=qA2 ha (.tup (rs.map V.ref));exact q a Ae t' ms _ (S3.same s1) (by lia) (by lia) (K12.trans (k3.trans (.of_same s1))) ⟨rs,qA1,N.same fun r ys e=>s1 _ _ e⟩ wf (by rw [hl];lia)
theorem qWN:FnScope ["_law_found","_law_due"] ["_law_found","_law_due"] (qAB qJ4):=qBL
def spSR:Nat->Sp
 | 0=>fun _ _ _ _=>False
 | n+1=>qZN n
theorem ok_Lsame_step {n:Nat} {qGI:Addr} {qHB:B49} (F:Fun K "_law_same" "_law_same" qJ4 f fd) (qaZ:FnOk P w K mg base CX0 n qGI qHB ["_law_found","_law_due"] (spSR n)) (qGL:Binds K qHB ["_law_found","_law_due"] []) (qM3:N9 K (.ref qGI)=true) (qGC:mg "_law_same" = some (.ref qGI))
  (qAD:mg "isinstance" = none) (qCW:mg "list" = none) (qAK:mg "tuple" = none) (qST:mg "str" = none) (qG8:mg "int" = none) (qHY:mg "bool" = none) (qB2:mg "len" = none) (qEU:mg "all" = none) (qRG:mg "zip" = none):FnOk P w K mg base CX0 (n+1) f fd ["_law_found","_law_due"] (spSR (n+1)):=by
 refine F.okA qWN fun cdv A outer s H vs Q E hr h=>?_;obtain ⟨x,y,rfl,hal,q⟩:=h;have qXK:Room n _:=hr;refine ⟨_,(qA4 (qB5 (qDI (qN9 (pv 1))) (qA5 (qAE (qYN (qN9 (pv 0))))) qAI) (qA4 (qB5 (PW.pt (qGU (qBQ (qA7 qAT rfl qAD qAH (qA0 (pv 1) (qA0 (qBN (v:=.ty "list") rfl qCW qFI rfl) qA3)))) (qEP (qBQ (qA7 qAT rfl qAD qAH (qA0 (pv 1) (qA0 (qBN (v:=.ty "tuple") rfl qAK qAO rfl) qA3))))))) (qA4 (qB5 (qAN qRX (qA7 qAT rfl qAD qAH (qA0 (pv 0) (qA0 (qBN (v:=.ty "list") rfl qCW qFI rfl) qA3))) (qA7 qAT rfl qAD qAH (qA0 (pv 1) (qA0 (qBN (v:=.ty "list") rfl qCW qFI rfl) qA3))) (qAS _)) (qA5 (qAE qC3)) qAI) (qA4 (qB5 (PW.pt (qGU (qAN qRX (qA7 qAT rfl qAD qAH (qA0 (pv 0) (qA0 (qBN (v:=.ty "tuple") rfl qAK qAO rfl) qA3))) (qA7 qAT rfl qAD qAH (qA0 (pv 1) (qA0 (qBN (v:=.ty "tuple") rfl qAK qAO rfl) qA3))) (qAS _)) (qEP (qAN qRX (qA7 qAA rfl qB2 qB4 (qA0 (pv 0) qA3)) (qA7 qAA rfl qB2 qB4 (qA0 (pv 1) qA3)) (qAS _))))) (qA5 (qAE qC3)) qAI) (qA5 (qAE (qA7 (qEJ rfl) rfl qEU qK6 (qA0 (qCB rfl (lcs (own:=["_law_one","_law_other"]) (fv:=[]) (by kernel_rfl)) (qYL rfl qRG qZ5 (qA0 (pv 0) (qA0 (pv 1) qA3))) (fun z1=>qHK (K:=K) (n:=2) rfl rfl (qB8 (qBG 0) (qB8 (qBG 1) qE8)) rfl rfl) (fun z1=>qAZ) (fun z1=>(qTT qaZ qXK rfl qGC qM3 qGL .nil qbZ (qA0 (pv 0) (qA0 (pv 1) qA3))))) qA3)))))) qAI) (qA4 (qB5 (qBQ (qA7 qAT rfl qAD qAH (qA0 (pv 1) (qA0 (qBN (v:=.ty "str") rfl qST qZ6 rfl) qA3)))) (qA5 (qAE (qI3 (qA7 qAT rfl qAD qAH (qA0 (pv 0) (qA0 (qBN (v:=.ty "str") rfl qST qZ6 rfl) qA3))) (qJC (qCC qGA (pv 0) (pv 1) (qAS _)))))) qAI) (qA5 (qAE (qI3 (qA7 qAT rfl qAD qAH (qA0 (pv 0) (qA0 (qBN (v:=.ty "int") rfl qG8 qK5 rfl) qA3))) (qI3 (qTQ (qA7 qAT rfl qAD qAH (qA0 (pv 0) (qA0 (qBN (v:=.ty "bool") rfl qHY qPM rfl) qA3)))) (qJC (qCC qGA (pv 0) (pv 1) (qAS _)))))))))),?_⟩
 try dsimp only [Cx.nox,Cx.wish,cxOf]
 have leaf:x=y/\Leaf x\/∃ (m:Nat) (b:Bool) (a c:Addr) (xs ys:List V),n=m+1/\x=.ref a/\y=.ref c/\SeR H b a xs/\SeR H b c ys/\xs.length=ys.length/\xs.length<=100000/\∀ (i:Nat) (x' y':V),xs[i]?=some x'->ys[i]?=some y'->AlikeR H m x' y':=by
  cases n with
  | zero=>exact .inl hal
  | succ m=>
   rcases hal with h | ⟨b,a,c,xs,ys,h⟩
   ·exact .inl h
   ·exact .inr ⟨m,b,a,c,xs,ys,rfl,h⟩
 rcases leaf with ⟨rfl,hl⟩ | ⟨m,b,a,c,xs,ys,rfl,rfl,rfl,ha,hc,hlen,hbd,hel⟩
 ·refine ⟨_,rfl,_,rfl,?_⟩;rcases hl with rfl | ⟨i,rfl⟩ | ⟨y,rfl⟩
  ·exact ⟨_,rfl,q H (Same.refl H)⟩
  ·refine ⟨_,rfl,_,"list",_,false,rfl,.inl (TyOf.int i),qcB,_,rfl,?_⟩;refine ⟨_,rfl,_,"tuple",_,false,rfl,.inl (TyOf.int i),qc9,_,rfl,?_⟩;refine ⟨_,rfl,_,"str",_,false,rfl,.inl (TyOf.int i),qcA,_,rfl,?_⟩;refine ⟨_,rfl,_,"int",_,true,rfl,.inl (TyOf.int i),qUD,_,rfl,?_⟩;refine ⟨_,rfl,_,"bool",_,false,rfl,.inl (TyOf.int i),qUE,_,rfl,_,rfl,?_⟩;refine ⟨_,rfl,_,rfl,rfl,?_⟩;have e:decide (V.int i=V.int i)=true:=decide_eq_true rfl;have q':Q (.bl (decide (V.int i=V.int i))) H:=by rw [e];exact q H (Same.refl H)
   exact q'
  ·refine ⟨_,rfl,_,"list",_,false,rfl,.inl (TyOf.str y),qc8,_,rfl,?_⟩;refine ⟨_,rfl,_,"tuple",_,false,rfl,.inl (TyOf.str y),qc7,_,rfl,?_⟩;refine ⟨_,rfl,_,"str",_,true,rfl,.inl (TyOf.str y),qYW,_,rfl,?_⟩;refine ⟨_,rfl,_,"str",_,true,rfl,.inl (TyOf.str y),qYW,_,rfl,?_⟩;refine ⟨_,rfl,_,rfl,rfl,?_⟩;have e:decide (V.str y=V.str y)=true:=decide_eq_true rfl;have q':Q (.bl (decide (V.str y=V.str y))) H:=by rw [e];exact q H (Same.refl H)
   exact q'
 ·have step:∀ (i:Nat) (x' y':V) (Hi:Hp) (Q':VK) (E':XK),Same H Hi->xs[i]?=some x'->ys[i]?=some y'->(∀ H',Same Hi H'->Q' (.bl true) H')->spSR (m+1) [x',y'] Hi Q' E':=fun i x' y' Hi Q' E' s e1 e2 k=>⟨x',y',rfl,(hel i x' y' e1 e2).same s,k⟩;have fin:∀ (H1:Hp),Same H H1->Q (.bl true) H1:=q;have el:(!decide (V.int ((xs.length:Nat):Int)=V.int ((ys.length:Nat):Int)))=false:=by rw [hlen];simp
  cases b
  ·refine ⟨_,rfl,_,rfl,_,rfl,_,"list",_,true,rfl,qEX hc,qL2 false,_,rfl,?_⟩;refine ⟨_,rfl,_,"list",_,true,rfl,qEX ha,qL2 false,_,rfl,_,"list",_,true,rfl,qEX hc,qL2 false,rfl,_,rfl,?_⟩;refine ⟨_,rfl,_,"tuple",_,false,rfl,qEX ha,qH2 false,_,rfl,_,"tuple",_,false,rfl,qEX hc,qH2 false,rfl,_,rfl,?_⟩;refine ⟨_,rfl,a,_,rfl,.inl (Ab2 ha),_,rfl,c,_,rfl,.inl (Ab2 hc),rfl,?_⟩;rw [el];refine ⟨_,rfl,_,rfl,_,rfl,false,a,c,rfl,⟨_,SqB.ofR ha⟩,⟨_,SqB.ofR hc⟩,fun p hp=>?_⟩;refine qYT (b:=false) (p:=p) (xs:=xs) (ys:=ys) hlen (fun i σ Hi=>∃ (v0 v1:Option V),σ=[v0,v1]/\Same H Hi/\Hi p=some (.lst ((D2 i true).map V.bl))) ⟨none,none,rfl,qA2 hp _,qA1⟩ (fun i σ Hi _ ⟨_,_,_,sm,_⟩=>⟨SqB.ofR (SeR.same ha sm),SqB.ofR (SeR.same hc sm)⟩) ?_ ?_
   ·refine fun i x' y' σ Hi T ex ey hI_1 hT=>opq fun G_1 hG_1=>?_;obtain ⟨v0,v1,rfl,sm,hpi⟩:=hI_1;refine hG_1 ?_;have li:i<xs.length:=(A4.mp ex).1;refine ⟨T,_,rfl,Ac0 qA1,rfl,_,_,rfl,_,_,rfl,rfl,?_⟩;have s1:=sm.trans (qA2 hT (.tup [x',y']));refine ⟨_,rfl,_,rfl,?_⟩;dsimp only [tNil,k5,m8];refine step i x' y' _ _ _ s1 ex ey fun H' sm'=>?_;refine ⟨_,(sm' _ _ ((qA2 hT _) _ _ hpi)),?_,_,_,rfl,(fun b u e=>by rw [qA9 (qA6 e hp)];exact (s1.trans sm') b u e),?_⟩
    ·rw [A0,L8,B39];lia
    ·rw [qA1,qVW]
   ·refine fun σ Hi hI_2=>opq fun G_2 hG_2=>?_;obtain ⟨v0,v1,rfl,sm,hpi⟩:=hI_2;refine hG_2 ?_;refine ⟨p,_,rfl,Ab2 hpi,?_⟩;rw [qW4];exact q Hi sm
  ·refine ⟨_,rfl,_,rfl,_,rfl,_,"list",_,false,rfl,qEX hc,qL2 true,_,rfl,?_⟩;refine ⟨_,rfl,_,"tuple",_,true,rfl,qEX hc,qH2 true,_,rfl,?_⟩;refine ⟨_,rfl,_,"list",_,false,rfl,qEX ha,qL2 true,_,rfl,_,"list",_,false,rfl,qEX hc,qL2 true,rfl,_,rfl,?_⟩;refine ⟨_,rfl,_,"tuple",_,true,rfl,qEX ha,qH2 true,_,rfl,_,"tuple",_,true,rfl,qEX hc,qH2 true,rfl,_,rfl,?_⟩;refine ⟨_,rfl,a,_,rfl,.inr (.inl ha),_,rfl,c,_,rfl,.inr (.inl hc),rfl,?_⟩;rw [el];refine ⟨_,rfl,_,rfl,_,rfl,true,a,c,rfl,⟨_,SqB.ofR ha⟩,⟨_,SqB.ofR hc⟩,fun p hp=>?_⟩;refine qYT (b:=true) (p:=p) (xs:=xs) (ys:=ys) hlen (fun i σ Hi=>∃ (v0 v1:Option V),σ=[v0,v1]/\Same H Hi/\Hi p=some (.lst ((D2 i true).map V.bl))) ⟨none,none,rfl,qA2 hp _,qA1⟩ (fun i σ Hi _ ⟨_,_,_,sm,_⟩=>⟨SqB.ofR (SeR.same ha sm),SqB.ofR (SeR.same hc sm)⟩) ?_ ?_
   ·refine fun i x' y' σ Hi T ex ey hI_3 hT=>opq fun G_3 hG_3=>?_;obtain ⟨v0,v1,rfl,sm,hpi⟩:=hI_3;refine hG_3 ?_;have li:i<xs.length:=(A4.mp ex).1;refine ⟨T,_,rfl,Ac0 qA1,rfl,_,_,rfl,_,_,rfl,rfl,?_⟩;have s1:=sm.trans (qA2 hT (.tup [x',y']));refine ⟨_,rfl,_,rfl,?_⟩;dsimp only [tNil,k5,m8];refine step i x' y' _ _ _ s1 ex ey fun H' sm'=>?_;refine ⟨_,(sm' _ _ ((qA2 hT _) _ _ hpi)),?_,_,_,rfl,(fun b u e=>by rw [qA9 (qA6 e hp)];exact (s1.trans sm') b u e),?_⟩
    ·rw [A0,L8,B39];lia
    ·rw [qA1,qVW]
   ·refine fun σ Hi hI_4=>opq fun G_4 hG_4=>?_;obtain ⟨v0,v1,rfl,sm,hpi⟩:=hI_4;refine hG_4 ?_;refine ⟨p,_,rfl,Ab2 hpi,?_⟩;rw [qW4];exact q Hi sm
theorem ok_Lsame (F:Fun K "_law_same" "_law_same" qJ4 f fd) (qGL:Binds K fd ["_law_found","_law_due"] []) (qM3:N9 K (.ref f)=true) (qGC:mg "_law_same" = some (.ref f))
  (qAD:mg "isinstance" = none) (qCW:mg "list" = none) (qAK:mg "tuple" = none) (qST:mg "str" = none) (qG8:mg "int" = none) (qHY:mg "bool" = none) (qB2:mg "len" = none) (qEU:mg "all" = none) (qRG:mg "zip" = none) (n:Nat):FnOk P w K mg base CX0 n f fd ["_law_found","_law_due"] (spSR n):=by
 induction n with
 | zero=>exact ⟨fun _ _ _ _ h=>h.elim,fun _ _ _ _ _ _ _ _ _ _ _ _ _ h=>h.elim⟩
 | succ n ih=>exact ok_Lsame_step F ih qGL qM3 qGC qAD qCW qAK qST qG8 qHY qB2 qEU qRG
theorem qWY {k:Int} (h0:0<=k) (h1:k<4):∃ v,atI [V.int 0,V.int 0,V.int 1,V.int 3] k=some (.int v)/\0<=v/\v<=3:=by
 rcases (by lia:k=0\/k=1\/k=2\/k=3) with rfl | rfl | rfl | rfl
 all_goals exact ⟨_,rfl,by decide,by decide⟩
theorem sc_Lasked:FnScope ["_law_state","_law_net_here","_law_found","_law_turn"] ["_law_state","_law_net_here"] (qAB qIO):=qBL
theorem ok_Lasked (F:Fun K "_law_asked" "_law_asked" qIO f fd)
  (qBI:Clb P w K mg base 1 qFE qFY "_law_take" ["_law_state","_law_many"] qJ0)
  (qB2:mg "len" = none) (qMP:mg "min" = none) (qB3:mg "range" = none) (qSU:mg "set" = none) (qC1:mg "sorted" = none) (qAK:mg "tuple" = none):FnOk P w K mg base CX0 2 f fd ["_law_state","_law_net_here"] qT8:=by
 refine F.okA sc_Lasked fun cdv A outer s H vs Q E hr h=>?_;obtain ⟨d,c,t,ns,a,Ae,rfl,S,ht,hN,wf,n1,n400,q⟩:=h;have ht':t<=1000000000 - 100:=ht;have qQZ:Room 1 _:=hr;refine ⟨_,(qA4 (qAM (i:=2) sc_Lasked.nd rfl (E9 rfl) (qBV (qA0 (qAP qCY (qAP qCY (qA7 qAA rfl qB2 qB4 (qA0 (pv 1) qA3)) qA8) (qAV qBI hr rfl (qA0 (pv 0) (qA0 (qA7 (qK4 rfl) rfl qMP qRB (qA0 (qA7 qAA rfl qB2 qB4 (qA0 (pv 1) qA3)) (qA0 qA8 qA3))) qA3)))) qA3))) (qA4 (qBT D3 rfl (qBC rfl qB3 (qA0 (qBA qCU (qBV (qA0 qA8 (qA0 qA8 (qA0 qA8 (qA0 qA8 qA3))))) (qAV qBI hr rfl (qA0 (pv 0) (qA0 qA8 qA3))) (fun _ _=>rfl)) qA3)) (qAY (i:=3) sc_Lasked.nd rfl (E9 rfl)) (qA5 (qF2 (qRV J1 M7 M8 qD7 (pv 2) (qA0 (qAV qBI hr rfl (qA0 (pv 0) (qA0 (qA7 qAA rfl qB2 qB4 (qA0 (pv 1) qA3)) qA3))) qA3))))) (qA5 (qAE (qAG qAL rfl qAK qAO (qA0 (qA7 (qDC rfl) rfl qC1 qDD (qA0 (qAG (qMK rfl) rfl qSU qVT (qA0 (pv 2) qA3)) qA3)) qA3)))))),?_⟩
 try dsimp only [Cx.nox,Cx.wish,cxOf]
 obtain ⟨rs,hA,NL⟩:=id hN;have lrv:(((rs.map V.ref).length:Nat):Int)=(Ae.length:Int):=by rw [A0,B7 NL]
 refine ⟨_,rfl,a,_,rfl,.inr (Ac0 hA),_,_,rfl,rfl,?_⟩;refine ⟨_,rfl,_,rfl,a,_,rfl,.inr (Ac0 hA),_,_,rfl,?_⟩;refine ⟨d,c,t,ns,_,rfl,S,(by show t<=1000000000;lia),by split <;> lia,by split <;> lia,fun k ns1 H1 k0 k1 S1 K1=>?_⟩
 have kb:0<=(Ae.length:Int) - 1 - k/\(Ae.length:Int) - 1 - k<(Ae.length:Int):=by
  rw [lrv] at k1
  split at k1 <;> lia
 refine ⟨_,_,rfl,rfl,(by show 1<=B28;decide),fun fo hfo=>?_⟩
 dsimp only;rw [lrv];generalize (Ae.length:Int) - 1 - k=x0 at kb;have npd:fo ≠ d:=(qA6 S1.dict hfo).symm;have npc:fo ≠ c:=(qA6 S1.list hfo).symm;have S2:=S1.new hfo (.lst [.int x0]);have k2:=K1.trans (qDL (d:=d) (c:=c) hfo (.lst [.int x0]));have ffo:∀ o,H fo=some o->False:=fun o z=>by
  by_cases e1:fo=d
  ·exact npd e1
  ·by_cases e2:fo=c
   ·exact npc e2
   ·have:=K1 fo o z e1 e2;rw [hfo] at this;cases this
 have gfo:(Ag H1 fo (.lst [.int x0])) fo=some (.lst ([x0].map V.int)):=qA1;generalize Ag H1 fo (.lst [.int x0])=H2 at S2 k2 gfo;refine ⟨(by show 4<=B28;decide),fun p hp=>?_⟩
 have np2d:p ≠ d:=(qA6 S2.dict hp).symm;have np2c:p ≠ c:=(qA6 S2.list hp).symm;have sp:=qA2 hp (.lst [.int 0,.int 0,.int 1,.int 3]);refine ⟨_,rfl,d,c,t+1,ns1,4,rfl,S2.same sp,(by show t+1<=1000000000;lia),by decide,by decide,fun j ns3 H3 j0 j1 S3 K3=>?_⟩
 have gp:=K3 _ _ qA1 np2d np2c;have gfo3:=K3 _ _ (sp _ _ gfo) npd npc;have k3:=(k2.trans (.of_same sp)).trans K3;obtain ⟨m,hm,m0,m3⟩:=qWY j0 j1;refine ⟨p,_,_,_,rfl,rfl,Ab2 gp,hm,m,rfl,by lia,by lia,qF9 (lo:=0) (n:=m.toNat) (fun i σ Hc=>∃ (t':Int) (ms fs:List Int) (v3:Option V),σ=[some (.ref d),some (.ref a),some (.ref fo),v3]/\StAt Hc d c t' ms/\t+2<=t'/\t'<=t+2+i/\Keep d c H Hc/\Hc fo=some (.lst (fs.map V.int))/\fs.length=i+1/\∀ x ∈ fs,0<=x/\x<(Ae.length:Int))
  ⟨t+1+1,ns3,[x0],none,rfl,S3,by lia,by lia,k3,gfo3,rfl,fun x hx=>by rw [A7.mp hx];exact kb⟩ ?_ ?_⟩
 ·refine fun i σ Hc hi hI_1=>opq fun G_1 hG_1=>?_;obtain ⟨t',ms,fs,v3,rfl,S4,b1,b2,k4,gf,lf,fb⟩:=hI_1;refine hG_1 ?_;have hN4:=hN.keep S k4;obtain ⟨rs,hA,NL⟩:=id hN4;have lrv:(((rs.map V.ref).length:Nat):Int)=(Ae.length:Int):=by rw [A0,B7 NL]
  refine ⟨_,rfl,.inl ⟨rfl,_,Ab2 gf⟩,_,rfl,_,rfl,a,_,rfl,.inr (Ac0 hA),d,c,t',ms,_,rfl,S4,(by show t'<=1000000000;lia),by rw [lrv];lia,by rw [lrv];lia,fun x ms5 H5 x0 x1 S5 K5=>?_⟩
  rw [lrv] at x1;have gf5:=K5 _ _ gf npd npc;refine ⟨fo,_,_,rfl,rfl,gf5,qAF (by rw [A0];lia),?_⟩
  refine ⟨t'+1,ms5,fs++[x],_,rfl,⟨by rw [qA9 (F2 npd)];exact S5.dict,by rw [qA9 (F2 npc)];exact S5.list,S5.ne,S5.len,S5.pos⟩,by lia,by lia,fun b u e n1 n2=>?_,by rw [qA1,B1];rfl,by rw [B0,B9,lf],fun y hy=>?_⟩
  ·by_cases e3:b=fo
   ·subst e3;exact (ffo _ e).elim
   ·rw [qA9 e3];exact (k4.trans K5) b u e n1 n2
  ·rcases B3.mp hy with hy | hy
   ·exact fb y hy
   ·rw [A7.mp hy];exact ⟨x0,x1⟩
 ·refine fun σ Hc hI_2=>opq fun G_2 hG_2=>?_;obtain ⟨t',ms,fs,v3,rfl,S4,b1,b2,k4,gf,lf,fb⟩:=hI_2;refine hG_2 ?_;refine ⟨_,rfl,fo,fs,rfl,Ab2 gf,by lia,fun e he=>?_⟩
  have ld:=qMG fs;refine ⟨e,dedI fs,rfl,.inr (.inr qA1),by lia,fun b ys hb hpm hs=>?_⟩
  refine ⟨b,_,rfl,.inl ⟨Ab2 qA1,fun r hr3=>?_⟩⟩;have s1:=((qA2 he (SetO w e (dedI fs))).trans (qA2 hb (.lst (ys.map V.int)))).trans (qA2 hr3 (.tup (ys.map V.int)));have ne:fs ≠ []:=fun z=>by rw [z] at lf;simp at lf
  obtain ⟨y,hy⟩:=List.exists_mem_of_ne_nil fs ne;refine q r ys t' ms _ (S4.same s1) (by lia) (by lia) (k4.trans (.of_same s1)) qA1 (qLV hpm hs fb) (f9 (hpm.mem_iff.mpr (mem_dedI.mpr hy)))
theorem sc_all_needed:FnScope ["net","asked","wanted","work","need"] ["net","asked"] (qAB qDH):=qBL
theorem ok_all_needed (F:Fun K "all_needed" "all_needed" qDH f fd) (qB3:mg "range" = none) (qB2:mg "len" = none) (qC1:mg "sorted" = none):FnOk P w K mg base CX0 1 f fd ["net","asked"] qYH:=by
 refine F.okA sc_all_needed fun cdv A outer s H vs Q E hr h=>?_;obtain ⟨a,t,Ae,Ad,rfl,hN,wf,n1000,hT,inA,q⟩:=h;have hu:=qHO hr;refine ⟨_,(qA4 (qAM (i:=2) sc_all_needed.nd rfl (E9 rfl) qLY) (qA4 (qBT D3 rfl (qCX (pv 1)) (qAY (i:=3) sc_all_needed.nd rfl (E9 rfl)) (qA5 (qE7 hu (pv 2) (pv 3) qC3 rfl))) (qA4 (qBT D3 rfl (qTN rfl qB3 (qA0 (qAP qCY (qA7 qAA rfl qB2 qB4 (qA0 (pv 0) qA3)) qA8) (qA0 (qX1 qPU qA8) (qA0 (qX1 qPU qA8) qA3)))) (qAY (i:=3) sc_all_needed.nd rfl (E9 rfl)) (qA5 (qB5 (qDI (qQK hu (pv 3) (pv 2))) (qA5 (qBT D3 rfl (qCX (qBA qBD (pv 0) (pv 3) (fun _ _=>rfl))) (qAY (i:=4) sc_all_needed.nd rfl (E9 rfl)) (qA5 (qE7 hu (pv 2) (pv 4) qC3 rfl)))) qAI))) (qA5 (qAE (qA7 (qO1 rfl) rfl qC1 qDD (qA0 (pv 2) qA3))))))),?_⟩
 try dsimp only [Cx.nox,Cx.wish,cxOf]
 obtain ⟨rs,hA,NL⟩:=id hN;have lrv:(((rs.map V.ref).length:Nat):Int)=(Ae.length:Int):=by rw [A0,B7 NL]
 refine fun dn hdn=>?_;have sn:=qA2 hdn (.dK []);refine ⟨_,rfl,t,rfl,⟨_,Ac0 (sn _ _ hT)⟩,qGF (a:=t) (xs:=Ad.map V.int) (fun j σ Hf=>∃ (Af:List (Key × V)) (ks:List Int) (v3 v4:Option V),σ=[some (.ref a),some (.ref t),some (.ref dn),v3,v4]/\Same H Hf/\Hf dn=some (.dK Af)/\KeysI Af ks/\∀ x,x ∈ ks ↔ x ∈ Ad.take j)
  ⟨[],[],none,none,rfl,sn,qA1,KeysI.nil,fun x=>by simp⟩ (fun j σ Hf _ hP=>by obtain ⟨_,_,_,_,_,sm,_⟩:=hP;exact Ac0 (sm _ _ hT)) ?_ ?_⟩
 ·refine fun j x σ Hf hx hI_1=>opq fun G_1 hG_1=>?_;obtain ⟨Af,ks,v3,v4,rfl,sm,hd,hk,mk⟩:=hI_1;obtain ⟨y,ey,rfl⟩:=qAX hx;refine hG_1 ?_;have lk:ks.length<=Ae.length:=qU4 hk.nd fun x hx=>inA x (O1 ((mk x).mp hx));refine ⟨_,rfl,_,rfl,dn,_,rfl,DPut.k (k:=E3 y) hd (qBF (by rw [hk.len];lia)),?_⟩
  refine ⟨_,_,_,_,rfl,qAC sm hdn,qA1,hk.put y _,fun x=>?_⟩;rw [mem_addI,mk,C8,ey,C9,B3,A7]
 refine fun σ Hf hI_2=>opq fun G_2 hG_2=>?_;obtain ⟨Af,ks,v3,v4,rfl,sm,hd,hk,mk⟩:=hI_2;refine hG_2 ?_;rw [A0,qB7 rfl] at mk;refine ⟨_,rfl,a,_,rfl,.inr (Ac0 (sm _ _ hA)),_,_,rfl,rfl,_,rfl,_,rfl,_,_,rfl,⟨by rw [lrv];lia,by rw [lrv];lia,by decide,by decide⟩,qR2 (lo:=(((rs.map V.ref).length:Nat):Int) - 1) (n:=((((rs.map V.ref).length:Nat):Int) - 1 - -1).toNat) (fun i σ Hc=>∃ (Af:List (Key × V)) (ks:List Int) (v3 v4:Option V),σ=[some (.ref a),some (.ref t),some (.ref dn),v3,v4]/\Same H Hc/\Hc dn=some (.dK Af)/\KeysI Af ks/\Fnd Ae Ad ks ((Ae.length:Int) - i))
  ⟨Af,ks,v3,v4,rfl,sm,hd,hk,⟨fun x hx=>⟨inA x ((mk x).mp hx),.ask ((mk x).mp hx)⟩,fun x hx=>(mk x).mpr hx,fun w zs h1 h2 h3=>?_⟩⟩ ?_ ?_⟩
 ·have:=(A4.mp h3).1
  lia
 ·refine fun i σ Hc hi hI_3=>opq fun G_3 hG_3=>?_;obtain ⟨Af,ks,v3,v4,rfl,sm,hd,hk,fn⟩:=hI_3;refine hG_3 ?_;rw [lrv] at hi ⊢;have hi':i<Ae.length:=by lia
  obtain ⟨w0,ew⟩:∃ w0:Nat,(Ae.length:Int) - 1 - i=(w0:Int):=⟨Ae.length - 1 - i,by lia⟩
  have hw:w0<Ae.length:=by lia
  rw [ew];obtain ⟨r,h3,h4⟩:=NL.get (A5 hw);have hz:=A5 hw;have rz:=wf w0 _ hz;generalize Ae[w0]=zs at h4 hz rz;refine ⟨_,rfl,_,rfl,dn,_,rfl,DGet.k (k:=E3 (w0:Int)) hd,_,rfl,?_⟩;rw [hk.has];by_cases mw:(w0:Int) ∈ ks
  ·rw [decide_eq_true mw];refine ⟨_,rfl,_,rfl,a,_,_,_,rfl,rfl,Ac0 (sm _ _ hA),qG5 (by lia) (by rw [E1,B6,h3];rfl),r,rfl,⟨_,Ac0 (sm _ _ h4)⟩,qGF (a:=r) (xs:=zs.map V.int) (fun k σ Hd=>∃ (Af:List (Key × V)) (ks:List Int) (v4:Option V),σ=[some (.ref a),some (.ref t),some (.ref dn),some (.int (w0:Int)),v4]/\Same H Hd/\Hd dn=some (.dK Af)/\KeysI Af ks/\Fnd Ae Ad ks ((w0:Int)+1)/\(w0:Int) ∈ ks/\∀ y ∈ zs.take k,y ∈ ks)
    ⟨Af,ks,v4,rfl,sm,hd,hk,by rw [show (w0:Int)+1=(Ae.length:Int) - i by lia];exact fn,mw,fun y hy=>by simp at hy⟩ (fun k σ Hd _ hP=>by obtain ⟨_,_,_,_,sm',_⟩:=hP;exact Ac0 (sm' _ _ h4)) ?_ ?_⟩
   ·refine fun k x σ Hd hx hI_4=>opq fun G_4 hG_4=>?_;obtain ⟨Af,ks,v4,rfl,sm',hd',hk',fn',mw',ty⟩:=hI_4;obtain ⟨y,ey,rfl⟩:=qAX hx;refine hG_4 ?_;have my:=B5 ey;have yb:=rz.in_ y my;have lk:ks.length<=Ae.length:=qU4 hk'.nd fun x hx=>(fn'.in_ x hx).1;refine ⟨_,rfl,_,rfl,dn,_,rfl,DPut.k (k:=E3 y) hd' (qBF (by rw [hk'.len];lia)),?_⟩
    refine ⟨_,_,_,rfl,qAC sm' hdn,qA1,hk'.put y _,⟨fun x hx=>?_,fun x hx=>mem_addI.mpr (.inl (fn'.ask x hx)),fun w1 ys h1 h2 h3 z hz'=>?_⟩,mem_addI.mpr (.inl mw'),fun z hz'=>?_⟩
    ·rcases mem_addI.mp hx with hx | hx
     ·exact fn'.in_ x hx
     ·rw [hx];exact ⟨⟨yb.1,by lia⟩,.need (fn'.in_ _ mw').2 (by rw [E1];exact hz) my⟩
    ·rcases mem_addI.mp h2 with h2 | h2
     ·exact mem_addI.mpr (.inl (fn'.clo w1 ys h1 h2 h3 z hz'))
     ·lia
    ·rw [C8,ey,C9,B3,A7] at hz';rcases hz' with hz' | hz'
     ·exact mem_addI.mpr (.inl (ty z hz'))
     ·exact mem_addI.mpr (.inr hz')
   ·refine fun σ Hd hI_5=>opq fun G_5 hG_5=>?_;obtain ⟨Af,ks,v4,rfl,sm',hd',hk',fn',mw',ty⟩:=hI_5;refine hG_5 ?_;rw [A0,qB7 rfl] at ty;refine ⟨Af,ks,_,_,rfl,sm',hd',hk',fn'.in_,fn'.ask,fun w1 ys h1 h2 h9=>?_⟩;by_cases e:w1=w0
    ·subst e;rw [hz] at h9;cases h9;exact ty
    ·exact fn'.clo w1 ys (by lia) h2 h9
  ·rw [decide_eq_false mw];refine ⟨Af,ks,_,_,rfl,sm,hd,hk,fn.in_,fn.ask,fun w1 ys h1 h2 h3=>?_⟩;by_cases e:w1=w0
   ·subst e;exact absurd h2 mw
   ·exact fn.clo w1 ys (by lia) h2 h3
 ·refine fun σ Hc hI_6=>opq fun G_6 hG_6=>?_;obtain ⟨Af,ks,v3,v4,rfl,sm,hd,hk,fn⟩:=hI_6;refine hG_6 ?_;rw [lrv,show ((Ae.length:Int) - (((Ae.length:Int) - 1 - -1).toNat:Nat))=0 by lia] at fn
  have lks:ks.length<=Ae.length:=qU4 hk.nd fun x hx=>(fn.in_ x hx).1;refine ⟨_,rfl,dn,ks,Af,rfl,hd,hk.keys,by lia,fun l zs hl hp hs=>?_⟩
  have s1:=qA2 hl (.lst (zs.map V.int));refine q l zs _ (sm.trans s1) (sm.free hl) qA1 ⟨⟨qF6 hs (hp.nodup_iff.mpr hk.nd),fun x hx=>(fn.in_ x (hp.mem_iff.mp hx)).1⟩,fun x=>?_⟩;rw [hp.mem_iff];exact fn.all wf x
theorem qLP:FnScope ["needs","numbers"] ["needs","numbers"] (qAB qDF):=qBL
theorem ok_renumbered (F:Fun K "renumbered" "renumbered" qDF f fd) (qAK:mg "tuple" = none):FnOk P w K mg base CX0 1 f fd ["needs","numbers"] qbG:=by
 refine F.okA qLP fun cdv A outer s H vs Q E hr h=>?_;obtain ⟨r,d,zs,Af,num,rfl,hR,l1000,hd,hv,q⟩:=h;have hu:=qHO hr;refine ⟨_,(qA5 (qAE (qAG qAL rfl qAK qAO (qA0 (qCB rfl (lcs (own:=["need"]) (fv:=[1]) (by kernel_rfl)) (qCX (pv 0)) (fun z1=>qBG 0) (fun z1=>(qD5 (qDI (qQK hu (pv 0) (pv 1))))) (fun z1=>(qF4 hu (pv 1) (pv 0) (fun _ _=>rfl)))) qA3)))),?_⟩
 try dsimp only [Cx.nox,Cx.wish,cxOf]
 refine ⟨_,rfl,r,rfl,⟨_,Ac0 hR⟩,fun p hp=>?_⟩;refine qER (p:=p) (a:=r) (xs:=zs.map V.int) (fun i σ Hc=>∃ (v0:Option V),σ=[v0,some (.ref d)]/\Same H Hc/\Hc p=some (.lst (((zs.take i).filterMap num).map V.int))) ?_ ?_ ?_ ?_
 ·exact ⟨none,rfl,qA2 hp _,qA1⟩
 ·rintro i σ Hc hi ⟨v0,rfl,sm,_⟩;exact Ac0 (sm _ _ hR)
 ·refine fun i x σ Hc hx hI_2=>opq fun G_2 hG_2=>?_;obtain ⟨v0,rfl,sm,hpc⟩:=hI_2;obtain ⟨y,ey,rfl⟩:=qAX hx;refine hG_2 ?_;have lt:=(A4.mp ey).1;have hg:=DGet.k (k:=E3 y) (sm _ _ hd);have lk:((zs.take i).filterMap num).length<=i:=F6 (P0 _ _) (by rw [C5];lia)
  refine ⟨_,rfl,_,rfl,d,_,rfl,hg,_,rfl,?_⟩;rw [C8,ey,C9,X5,Q7,List.filterMap_nil];rw [hv] at hg ⊢;cases e:num y with
  | none=>
   rw [e] at hg;refine ⟨_,rfl,sm,?_⟩;simpa using hpc
  | some n=>
   rw [e] at hg;refine ⟨_,rfl,_,rfl,d,_,rfl,hg,_,hpc,qAF (by rw [A0];lia),_,rfl,qAC sm hp,?_⟩
   rw [qA1,B1]
   rfl
 ·refine fun σ Hc hI_3=>opq fun G_3 hG_3=>?_;obtain ⟨v0,rfl,sm,hpc⟩:=hI_3;refine hG_3 ?_;rw [A0,qB7 rfl] at hpc;refine ⟨p,_,rfl,.inl ⟨Ab2 hpc,fun r' hr'=>?_⟩⟩;exact q r' _ (sm.trans (qA2 hr' _)) qA1
theorem sc_part_net:FnScope ["net","works","numbers","number","work"] ["net","works"] (qAB qFL):=qBL
theorem ok_part_net (F:Fun K "part_net" "part_net" qFL f fd) (qI7:Clb P w K mg base 1 qFB qM5 "renumbered" ["needs","numbers"] qbG)
  (qBO:mg "enumerate" = none) (qAK:mg "tuple" = none):FnOk P w K mg base CX0 2 f fd ["net","works"] qOF:=by
 refine F.okA sc_part_net fun cdv A outer s H vs Q E hr h=>?_;obtain ⟨a,t,Ae,ws,rfl,hN,wf,n1000,hT,rw',q⟩:=h;have hu:=qHO hr;have qXJ:Room 1 _:=hr;have lw:=rw'.len;refine ⟨_,(qA4 (qAM (i:=2) sc_part_net.nd rfl (l7 rfl) qLY) (qA4 (qBT D3 rfl (qQI rfl qBO qCT (qA0 (pv 1) qA3)) (qQJ rfl (qB8 (qAY (i:=3) sc_part_net.nd rfl (E9 rfl)) (qB8 (qAY (i:=4) sc_part_net.nd rfl (E9 rfl)) qE8))) (qA5 (qE7 hu (pv 2) (pv 4) (pv 3) rfl))) (qA5 (qAE (qAG qAL rfl qAK qAO (qA0 (qCB rfl (lcs (own:=["work"]) (fv:=[0,2]) (by kernel_rfl)) (qCX (pv 1)) (fun z2=>qBG 0) (fun z2=>qAZ) (fun z2=>(qAV qI7 hr rfl (qA0 (qBA (qJN (K:=K) rfl) (pv 1) (pv 0) (fun _ _=>rfl)) (qA0 (pv 2) qA3))))) qA3)))))),?_⟩
 try dsimp only [Cx.nox,Cx.wish,cxOf]
 obtain ⟨rs,hA,NL⟩:=id hN;refine fun dn hdn=>?_;have sn:=qA2 hdn (.dK []);refine ⟨_,rfl,t,rfl,⟨_,.inl (Rd.same hT sn)⟩,qUZ (a:=t) (xs:=ws.map V.int) (fun i σ Hf=>∃ (Af:List (Key × V)) (v3 v4:Option V),σ=[some (.ref a),some (.ref t),some (.ref dn),v3,v4]/\Same H Hf/\Hf dn=some (.dK Af)/\Af.length<=i/\∀ x,valV Af (E3 x)=(qC7 (ws.take i) x).map V.int)
  ⟨[],none,none,rfl,sn,qA1,A6 _,fun x=>by simp [qC7,valV]⟩ (fun i σ Hf _ ⟨_,_,_,_,sm,_⟩=>.inl (Rd.same hT sm)) ?_ ?_⟩
 ·refine fun i x σ Hf T hx hI_4 hT2=>opq fun G_4 hG_4=>?_;obtain ⟨Af,v3,v4,rfl,sm,hd,lk,hv⟩:=hI_4;obtain ⟨y,ey,rfl⟩:=qAX hx;refine hG_4 ?_;have lt:=(A4.mp ey).1;have sT:=qA2 hT2 (.tup [.int (i:Int),.int y]);refine ⟨T,_,rfl,Ac0 qA1,rfl,_,_,rfl,_,_,rfl,rfl,?_⟩;refine ⟨_,rfl,_,rfl,_,rfl,dn,_,rfl,DPut.k (k:=E3 y) (sT _ _ hd) (qBF (by lia)),?_⟩
  refine ⟨_,_,_,rfl,qAC (sm.trans sT) hdn,qA1,F6 (qC5 _ _ _) (by lia),fun x=>?_⟩
  rw [qGO,qKT rw'.nodup ey x];by_cases e:x=y
  ·rw [e,if_pos rfl,if_pos rfl]
   rfl
  ·rw [if_neg e,if_neg fun z=>e (i0 z)];exact hv x
 refine fun σ Hf hI_5=>opq fun G_5 hG_5=>?_;obtain ⟨Af,v3,v4,rfl,sm,hd,lk,hv⟩:=hI_5;refine hG_5 ?_;rw [A0,qB7 rfl] at hv;refine ⟨_,rfl,t,rfl,⟨_,.inl (Rd.same hT sm)⟩,fun p hp=>?_⟩;refine qER (p:=p) (a:=t) (xs:=ws.map V.int) (fun i σ Hc=>∃ (v0:Option V) (ss:List Addr),σ=[v0,some (.ref a),some (.ref dn)]/\Same Hf Hc/\Hc p=some (.lst (ss.map V.ref))/\NetL Hc ss ((qCJ Ae ws).take i)) ?_ ?_ ?_ ?_
 ·exact ⟨none,[],rfl,qA2 hp _,qA1,by rw [List.take_zero];exact .nil⟩
 ·refine fun i σ Hc hi hI_6=>opq fun G_6 hG_6=>?_;obtain ⟨v0,ss,rfl,sm2,_⟩:=hI_6;refine hG_6 ?_;exact .inl (Rd.same (Rd.same hT sm) sm2)
 ·refine fun i x σ Hc hx hI_7=>opq fun G_7 hG_7=>?_;obtain ⟨v0,ss,rfl,sm2,hpc,N2⟩:=hI_7;obtain ⟨y,ey,rfl⟩:=qAX hx;refine hG_7 ?_;have lt:=(A4.mp ey).1;have yb:=rw'.in_ y (B5 ey);have s3:=sm.trans sm2;have hy:y.toNat<Ae.length:=by lia
  obtain ⟨r,h3,h4⟩:=NL.get (A5 hy);have lz:=(wf y.toNat _ (A5 hy)).len;refine ⟨_,rfl,_,rfl,a,_,_,_,rfl,rfl,Ac0 (s3 _ _ hA),qG5 yb.1 (by rw [B6,h3];rfl),_,rfl,r,dn,_,Af,qC7 ws,rfl,s3 _ _ h4,by lia,sm2 _ _ hd,hv,fun r' H' sm4 hr'=>?_⟩
  have g1:=sm4 _ _ hpc;have lss:ss.length=((qCJ Ae ws).take i).length:=B7 N2;refine ⟨_,g1,qAF (by rw [A0,lss,C5,qBX];lia),?_⟩
  rw [qBJ];refine ⟨_,ss++[r'],rfl,qAC (sm2.trans sm4) hp,qA1,?_⟩;rw [C8,qNA ey,A5 hy];exact qDJ (qCO (N2.same fun r' ys e=>sm4 _ _ e) hr') g1
 ·refine fun σ Hc hI_8=>opq fun G_8 hG_8=>?_;obtain ⟨v0,ss,rfl,sm2,hpc,N2⟩:=hI_8;refine hG_8 ?_;rw [A0,qB7 (qBX Ae ws)] at N2;refine ⟨p,_,rfl,.inl ⟨Ab2 hpc,fun b hb=>?_⟩⟩;have s1:=qA2 hb (.tup (ss.map V.ref));exact q b _ ((sm.trans sm2).trans s1) ⟨ss,qA1,N2.same fun r ys e=>s1 _ _ e⟩
theorem sc_fault_of_do:FnScope ["net","rooms","stand","work","there","result","need"] ["net","rooms","stand","work"] (qAB qD1):=qBL
theorem ok_fault_of_do (F:Fun K "fault_of_do" "fault_of_do" qD1 f fd) (qB2:mg "len" = none):FnOk P w K mg base CX0 1 f fd ["net","rooms","stand","work"] qN0:=by
 refine F.okA sc_fault_of_do fun cdv A outer s H vs Q E hr h=>?_;obtain ⟨a,so,Ae,st,ns,Aa,wk,rfl,hN,hst,lst,wk0,hns,q⟩:=h;have hu:=qHO hr;refine ⟨_,(qA4 (qAM (i:=4) sc_fault_of_do.nd rfl (E9 rfl) qLY) (qA4 (qBT D3 rfl (qCX (pv 2)) (qAY (i:=5) sc_fault_of_do.nd rfl (E9 rfl)) (qA5 (qE7 hu (pv 4) (pv 5) qC3 rfl))) (qA4 (qB5 (qDI (qQK hu (pv 3) (pv 4))) (qA5 (qAE qBU)) qAI) (qA4 (qBT D3 rfl (qCX (qBA qBD (pv 0) (pv 3) (fun _ _=>rfl))) (qAY (i:=6) sc_fault_of_do.nd rfl (E9 rfl)) (qA5 (qB5 (qDI (qDU hu (pv 6) (pv 4))) (qA5 (qAE qBU)) qAI))) (qA4 (qB5 (qAN qTY (qA7 qAA rfl qB2 qB4 (qA0 (pv 2) qA3)) (pv 1) (qAS _)) (qA5 (qAE qBU)) qAI) (qA5 (qAE qI2))))))),?_⟩
 try dsimp only [Cx.nox,Cx.wish,cxOf]
 refine fun p hp=>?_;have s0:=qA2 hp (.dK []);refine ⟨_,rfl,so,rfl,⟨_,Ac0 (s0 _ _ hst)⟩,qGF (a:=so) (xs:=st.map V.int) (fun i σ Hc=>∃ (Af:List (Key × V)) (v:Option V),σ=[some (.ref a),some (.int Aa),some (.ref so),some (.int wk),some (.ref p),v,none]/\Same H Hc/\Hc p=some (.dK Af)/\Af.length<=i/\∀ x:Int,(valV Af (E3 x)).isSome=true ↔ x ∈ st.take i)
  ⟨[],none,rfl,s0,qA1,A6 _,fun x=>by simp [valV]⟩ (fun i σ Hc _ hP=>by obtain ⟨_,_,_,sm,_⟩:=hP;exact Ac0 (sm _ _ hst)) ?_ ?_⟩
 ·refine fun i x σ Hc hx hI_1=>opq fun G_1 hG_1=>?_;obtain ⟨Af,v,rfl,sm,hd,lk,mk⟩:=hI_1;refine hG_1 ?_;rw [B6] at hx;cases ez:st[i]? with
  | none=>rw [ez] at hx;cases hx
  | some z=>
   rw [ez] at hx;cases hx;have hil:i<st.length:=(A4.mp ez).1;refine ⟨_,rfl,_,rfl,p,_,rfl,DPut.k (k:=E3 z) hd (qAF (by lia)),?_⟩
   refine ⟨putK Af (E3 z) (.bl true),_,rfl,fun b o e=>?_,qA1,F6 (qC5 _ _ _) (by lia),fun y=>?_⟩
   ·rw [qA9 (qA6 e hp)];exact sm b o e
   ·rw [qGO,C8,ez,C9,B3,A7];by_cases hyz:y=z
    ·subst hyz;simp
    ·have:¬ (E3 y:Key)=E3 z:=fun q=>hyz (i0 q);rw [if_neg this,mk y];simp [hyz]
 ·refine fun σ Hc hI_2=>opq fun G_2 hG_2=>?_;obtain ⟨Af,v,rfl,sm,hd,lk,mk⟩:=hI_2;refine hG_2 ?_;rw [A0,C4 (A6 _)] at mk;obtain ⟨rs,r,h1,l1,h2,h3⟩:=hN.get hns;refine ⟨_,rfl,_,rfl,p,_,rfl,DGet.k (k:=E3 wk) hd,_,rfl,?_⟩;refine ite2 (fun ck=>?_) (fun ck=>?_)
  ·have hw:=(mk wk).mp ck;have e:qDE ns st Aa wk=.str "there":=by unfold qDE;rw [if_pos hw]
   have:=q Hc sm;rw [e] at this;exact this
  ·have hw:¬ wk ∈ st:=fun z=>ck ((mk wk).mpr z);refine ⟨_,rfl,_,rfl,a,_,_,_,rfl,rfl,Ac0 (sm _ _ h1),qG5 wk0 h2,r,rfl,⟨_,Ac0 (sm _ _ h3)⟩,qGF (a:=r) (xs:=ns.map V.int) (fun i σ Hd=>∃ (v6:Option V),σ=[some (.ref a),some (.int Aa),some (.ref so),some (.int wk),some (.ref p),v,v6]/\Hd=Hc/\∀ x ∈ ns.take i,x ∈ st)
    ⟨none,rfl,rfl,fun x hx=>by simp at hx⟩ (fun i σ Hd _ ⟨_,_,e,_⟩=>by rw [e];exact Ac0 (sm _ _ h3)) ?_ ?_⟩
   ·refine fun i x σ Hd hx hI_3=>opq fun G_3 hG_3=>?_;obtain ⟨v6,rfl,rfl,mm⟩:=hI_3;obtain ⟨z,ez,rfl⟩:=qAX hx;refine hG_3 ?_;refine ⟨_,rfl,_,rfl,p,_,rfl,DGet.k (k:=E3 z) hd,_,rfl,?_⟩;refine ite2 (fun cz=>?_) (fun cz=>?_)
    ·have hz:¬ z ∈ st:=fun zz=>by rw [(mk z).mpr zz] at cz;cases cz
     have e:qDE ns st Aa wk=.str "needs":=by
      unfold qDE;rw [if_neg hw,if_neg fun all=>hz (all z (B5 ez))]
     have:=q Hd sm;rw [e] at this;exact this
    ·have hz:z ∈ st:=by
      apply (mk z).mp;cases hv:(valV Af (E3 z:Key)).isSome with
      | true=>rfl
      | false=>rw [hv] at cz;exact absurd rfl cz
     refine ⟨_,rfl,rfl,fun y hy=>?_⟩;rw [C8,ez,C9,B3,A7] at hy;rcases hy with hy | rfl
     ·exact mm y hy
     ·exact hz
   ·refine fun σ Hd hI_4=>opq fun G_4 hG_4=>?_;obtain ⟨v6,rfl,rfl,mm⟩:=hI_4;refine hG_4 ?_;rw [A0,C4 (A6 _)] at mm;refine ⟨_,rfl,so,_,rfl,.inr (Ac0 (sm _ _ hst)),_,rfl,_,_,rfl,rfl,_,rfl,?_⟩;have q':=q Hd sm;have e0:qDE ns st Aa wk=if Aa<=(st.length:Int) then .str "full" else .non:=by
     unfold qDE;rw [if_neg hw,if_pos mm]
    rw [e0] at q';refine ite2 (fun cf=>?_) (fun cf=>?_)
    ·have cf':Aa<=(((st.map V.int).length:Nat):Int):=of_decide_eq_true cf;rw [A0] at cf';rw [if_pos cf'] at q';exact q'
    ·have cf':¬ Aa<=(((st.map V.int).length:Nat):Int):=of_decide_eq_false (E8.mpr cf);rw [A0] at cf';rw [if_neg cf'] at q';exact q'
theorem qOM:FnScope ["net","rooms","stand","move"] ["net","rooms","stand","move"] (qAB qFP):=qBL
theorem ok_fault_of (F:Fun K "fault_of" "fault_of" qFP f fd) (qHH:Clb P w K mg base 1 qEF qKK "fault_of_do" ["net","rooms","stand","work"] qN0) :
  FnOk P w K mg base CX0 2 f fd ["net","rooms","stand","move"] qLL:=by
 refine F.okA qOM fun cdv A outer s H vs Q E hr h=>?_;obtain ⟨a,so,mv,Ae,st,ns,Aa,wk,Ac,rfl,hN,hst,lst,hmv,hword,wk0,hns,lns,q⟩:=h;have qWB:Room 1 _:=hr;refine ⟨_,(qA4 (qB5 (qAN qGA (qBA qBD (pv 3) qA8 (fun _ _=>rfl)) qBU (qAS _)) (qA5 (qAE (qAV qHH hr rfl (qA0 (pv 0) (qA0 (pv 1) (qA0 (pv 2) (qA0 (qBA qBD (pv 3) qA8 (fun _ _=>rfl)) qA3))))))) qAI) (qA4 (qB5 (qAN qDW (qBA qBD (pv 3) qA8 (fun _ _=>rfl)) (pv 2) (by with_unfolding_all rfl)) (qA5 (qAE qI2)) qAI) (qA5 (qAE qBU)))),?_⟩
 try dsimp only [Cx.nox,Cx.wish,cxOf]
 refine ⟨_,rfl,mv,_,_,_,rfl,rfl,Ac0 hmv,rfl,rfl,_,rfl,?_⟩;refine ite2 (fun ck=>?_) (fun ck=>?_)
 ·have hd:Ac = "do":=V.str.inj (of_decide_eq_true ck)
  refine ⟨_,rfl,_,rfl,_,rfl,_,rfl,mv,_,_,_,rfl,rfl,Ac0 hmv,rfl,a,so,Ae,st,ns,Aa,wk,rfl,hN,hst,lst,wk0,hns,fun H' sm=>?_⟩;have q':=q H' sm;unfold qDQ at q';rw [if_pos hd] at q';exact q'
 ·have hd:¬ Ac = "do":=fun e=>(of_decide_eq_false (E8.mpr ck)) (congrArg V.str e)
  have q':=q H (Same.refl H);unfold qDQ qDR at q';rw [if_neg hd] at q';refine ⟨_,rfl,mv,_,_,_,rfl,rfl,Ac0 hmv,rfl,_,rfl,so,_,rfl,.inr (Ac0 hst),rfl,qBY st,_,rfl,?_⟩;rw [qDN];refine ite2 (fun cw=>?_) (fun cw=>?_)
  ·rw [if_pos (of_decide_eq_true cw)] at q';exact q'
  ·rw [if_neg (of_decide_eq_false (E8.mpr cw))] at q';exact q'
theorem qRP:FnScope ["_law_stand","_law_move"] ["_law_stand","_law_move"] (qAB qGT):=qBL
theorem ok_Lbehind (F:Fun K "_law_behind" "_law_behind" qGT f fd) (qC1:mg "sorted" = none) (qAK:mg "tuple" = none):FnOk P w K mg base CX0 1 f fd ["_law_stand","_law_move"] qEZ:=by
 refine F.okA qRP fun cdv A outer s H vs Q E hr h=>?_;obtain ⟨so,mv,st,Ac,wk,rfl,hst,lst,hmv,hword,q⟩:=h;refine ⟨_,(qA4 (qB5 (qAN qGA (qBA qBD (pv 1) qA8 (fun _ _=>rfl)) qBU (qAS _)) (qA5 (qAE (qAG qAL rfl qAK qAO (qA0 (qA7 (qDC rfl) rfl qC1 qDD (qA0 (qAP qTZ (pv 0) (qCH (qA0 (qBA qBD (pv 1) qA8 (fun _ _=>rfl)) qA3))) qA3)) qA3)))) qAI) (qA5 (qAE (qAG qAL rfl qAK qAO (qA0 (qCB rfl (lcs (own:=["_law_work"]) (fv:=[1]) (by kernel_rfl)) (qCX (pv 0)) (fun z1=>qBG 0) (fun z1=>(qD5 (qAN qRX (pv 0) (qBA (qJN (K:=K) rfl) (pv 1) qA8 (fun _ _=>rfl)) (qAS _)))) (fun z1=>(pv 0))) qA3))))),?_⟩
 try dsimp only [Cx.nox,Cx.wish,cxOf]
 refine ⟨_,rfl,mv,_,_,_,rfl,rfl,Ac0 hmv,rfl,rfl,_,rfl,?_⟩;refine ite2 (fun ck=>?_) (fun ck=>?_)
 ·have hd:Ac = "do":=V.str.inj (of_decide_eq_true ck)
  refine ⟨_,rfl,_,rfl,mv,_,_,_,rfl,rfl,Ac0 hmv,rfl,(by show 1<=B28;decide),fun T hT=>?_⟩
  have sT:=qA2 hT (.tup [.int wk]);have fin:∀ (p:Addr) (H1:Hp),Same H H1->H1 p=some (.tup ((st++[wk]).map V.int))->∀ (b:Addr) (zs:List Int),H1 b=none->zs.Perm (st++[wk])->zs.Pairwise (·<=·)->∀ r,(Ag H1 b (.lst (zs.map V.int))) r=none->Q (.ref r) (Ag (Ag H1 b (.lst (zs.map V.int))) r (.tup (zs.map V.int))):=by
   intro p H1 s1 hp b zs hb hpm hs r hr;refine q r zs _ (s1.trans ((qA2 hb _).trans (qA2 hr _))) qA1 ⟨fun _=>⟨hpm,hs⟩,fun z=>?_⟩;rw [hd] at z;exact absurd z.symm qAR
  refine ⟨so,T,st.map V.int,[.int wk],rfl,rfl,Ac0 (sT _ _ hst),Ac0 qA1,by simp,R8 (qBF (by rw [A0,B9];lia)),fun z=>?_,fun z p hp=>?_⟩
  ·have e:st=[]:=A44.mp z;have g:(Ag H T (.tup [.int wk])) T=some (.tup ((st++[wk]).map V.int)):=by rw [qA1,e];rfl
   exact ⟨T,st++[wk],rfl,.inr (.inl (Ac0 g)),(by rw [B0,B9];lia),fun b zs hb hpm hs=>⟨b,_,rfl,.inl ⟨Ab2 qA1,fun r hr=>fin T _ sT g b zs hb hpm hs r hr⟩⟩⟩
  ·have g:(Ag (Ag H T (.tup [.int wk])) p (.tup (st.map V.int++[.int wk]))) p=some (.tup ((st++[wk]).map V.int)):=by rw [qA1,B1];rfl
   exact ⟨p,st++[wk],rfl,.inr (.inl (Ac0 g)),(by rw [B0,B9];lia),fun b zs hb hpm hs=>⟨b,_,rfl,.inl ⟨Ab2 qA1,fun r hr=>fin p _ (sT.trans (qA2 hp _)) g b zs hb hpm hs r hr⟩⟩⟩
 ·have hd:Ac = "clear":=hword.resolve_left fun e=>(of_decide_eq_false (E8.mpr ck)) (congrArg V.str e);refine ⟨_,rfl,so,rfl,⟨_,Ac0 hst⟩,fun p hp=>?_⟩;refine qER (p:=p) (a:=so) (xs:=st.map V.int) (fun i σ Hc=>∃ (v:Option V),σ=[v,some (.ref mv)]/\Same H Hc/\Hc p=some (.lst (((st.take i).filter fun x=>decide (x ≠ wk)).map V.int))) ?_ ?_ ?_ ?_
  ·exact ⟨none,rfl,qA2 hp _,qA1⟩
  ·rintro i σ Hc hi ⟨v,rfl,sm,_⟩;exact Ac0 (sm _ _ hst)
  ·refine fun i x σ Hc hx hI_2=>opq fun G_2 hG_2=>?_;obtain ⟨v,rfl,sm,hpc⟩:=hI_2;obtain ⟨y,ey,rfl⟩:=qAX hx;refine hG_2 ?_;have hi:=(A4.mp ey).1;have lk:=qBZ (p:=fun x=>decide (x ≠ wk)) (l:=st) (i:=i);refine ⟨_,rfl,_,rfl,mv,_,_,_,rfl,rfl,Ac0 (sm _ _ hmv),rfl,rfl,_,rfl,?_⟩;rw [qCK ey];by_cases e:y=wk
   ·rw [decide_eq_true (show V.int y=V.int wk by rw [e]),decide_eq_false (show ¬ y ≠ wk from fun z=>z e)]
    refine ⟨_,rfl,sm,?_⟩;simpa using hpc
   ·rw [decide_eq_false (show ¬ V.int y=V.int wk from fun z=>e (V.int.inj z)),decide_eq_true (show y ≠ wk from e)];refine ⟨_,rfl,_,hpc,qAF (by rw [A0];lia),_,rfl,qAC sm hp,?_⟩
    rw [qA1,if_pos rfl,B1]
    rfl
  ·refine fun σ Hc hI_3=>opq fun G_3 hG_3=>?_;obtain ⟨v,rfl,sm,hpc⟩:=hI_3;refine hG_3 ?_;rw [A0,qB7 rfl] at hpc;refine ⟨p,_,rfl,.inl ⟨Ab2 hpc,fun r hr=>?_⟩⟩;refine q r _ _ (sm.trans (qA2 hr _)) qA1 ⟨fun z=>?_,fun _=>rfl⟩;rw [hd] at z;exact absurd z qAR
theorem qJ2:FnScope ["stand","move"] ["stand","move"] (qAB qCM):=qBL
theorem ok_stand_behind (F:Fun K "stand_behind" "stand_behind" qCM f fd) (qC1:mg "sorted" = none) (qAK:mg "tuple" = none):FnOk P w K mg base CX0 1 f fd ["stand","move"] qEZ:=by
 refine F.okA qJ2 fun cdv A outer s H vs Q E hr h=>?_;obtain ⟨so,mv,st,Ac,wk,rfl,hst,lst,hmv,hword,q⟩:=h;refine ⟨_,(qA4 (qB5 (qAN qGA (qBA qBD (pv 1) qA8 (fun _ _=>rfl)) qBU (qAS _)) (qA5 (qAE (qAG qAL rfl qAK qAO (qA0 (qA7 (qDC rfl) rfl qC1 qDD (qA0 (qAP qTZ (pv 0) (qCH (qA0 (qBA qBD (pv 1) qA8 (fun _ _=>rfl)) qA3))) qA3)) qA3)))) qAI) (qA5 (qAE (qAG qAL rfl qAK qAO (qA0 (qCB rfl (lcs (own:=["result"]) (fv:=[1]) (by kernel_rfl)) (qCX (pv 0)) (fun z2=>qBG 0) (fun z2=>(qD5 (qAN qRX (pv 0) (qBA (qJN (K:=K) rfl) (pv 1) qA8 (fun _ _=>rfl)) (qAS _)))) (fun z2=>(pv 0))) qA3))))),?_⟩
 try dsimp only [Cx.nox,Cx.wish,cxOf]
 refine ⟨_,rfl,mv,_,_,_,rfl,rfl,Ac0 hmv,rfl,rfl,_,rfl,?_⟩;refine ite2 (fun ck=>?_) (fun ck=>?_)
 ·have hd:Ac = "do":=V.str.inj (of_decide_eq_true ck)
  refine ⟨_,rfl,_,rfl,mv,_,_,_,rfl,rfl,Ac0 hmv,rfl,(by show 1<=B28;decide),fun T hT=>?_⟩
  have sT:=qA2 hT (.tup [.int wk]);have fin:∀ (p:Addr) (H1:Hp),Same H H1->H1 p=some (.tup ((st++[wk]).map V.int))->∀ (b:Addr) (zs:List Int),H1 b=none->zs.Perm (st++[wk])->zs.Pairwise (·<=·)->∀ r,(Ag H1 b (.lst (zs.map V.int))) r=none->Q (.ref r) (Ag (Ag H1 b (.lst (zs.map V.int))) r (.tup (zs.map V.int))):=by
   intro p H1 s1 hp b zs hb hpm hs r hr;refine q r zs _ (s1.trans ((qA2 hb _).trans (qA2 hr _))) qA1 ⟨fun _=>⟨hpm,hs⟩,fun z=>?_⟩;rw [hd] at z;exact absurd z.symm qAR
  refine ⟨so,T,st.map V.int,[.int wk],rfl,rfl,Ac0 (sT _ _ hst),Ac0 qA1,by simp,R8 (qBF (by rw [A0,B9];lia)),fun z=>?_,fun z p hp=>?_⟩
  ·have e:st=[]:=A44.mp z;have g:(Ag H T (.tup [.int wk])) T=some (.tup ((st++[wk]).map V.int)):=by rw [qA1,e];rfl
   exact ⟨T,st++[wk],rfl,.inr (.inl (Ac0 g)),(by rw [B0,B9];lia),fun b zs hb hpm hs=>⟨b,_,rfl,.inl ⟨Ab2 qA1,fun r hr=>fin T _ sT g b zs hb hpm hs r hr⟩⟩⟩
  ·have g:(Ag (Ag H T (.tup [.int wk])) p (.tup (st.map V.int++[.int wk]))) p=some (.tup ((st++[wk]).map V.int)):=by rw [qA1,B1];rfl
   exact ⟨p,st++[wk],rfl,.inr (.inl (Ac0 g)),(by rw [B0,B9];lia),fun b zs hb hpm hs=>⟨b,_,rfl,.inl ⟨Ab2 qA1,fun r hr=>fin p _ (sT.trans (qA2 hp _)) g b zs hb hpm hs r hr⟩⟩⟩
 ·have hd:Ac = "clear":=hword.resolve_left fun e=>(of_decide_eq_false (E8.mpr ck)) (congrArg V.str e);refine ⟨_,rfl,so,rfl,⟨_,Ac0 hst⟩,fun p hp=>?_⟩;refine qER (p:=p) (a:=so) (xs:=st.map V.int) (fun i σ Hc=>∃ (v:Option V),σ=[v,some (.ref mv)]/\Same H Hc/\Hc p=some (.lst (((st.take i).filter fun x=>decide (x ≠ wk)).map V.int))) ?_ ?_ ?_ ?_
  ·exact ⟨none,rfl,qA2 hp _,qA1⟩
  ·rintro i σ Hc hi ⟨v,rfl,sm,_⟩;exact Ac0 (sm _ _ hst)
  ·refine fun i x σ Hc hx hI_5=>opq fun G_5 hG_5=>?_;obtain ⟨v,rfl,sm,hpc⟩:=hI_5;obtain ⟨y,ey,rfl⟩:=qAX hx;refine hG_5 ?_;have hi:=(A4.mp ey).1;have lk:=qBZ (p:=fun x=>decide (x ≠ wk)) (l:=st) (i:=i);refine ⟨_,rfl,_,rfl,mv,_,_,_,rfl,rfl,Ac0 (sm _ _ hmv),rfl,rfl,_,rfl,?_⟩;rw [qCK ey];by_cases e:y=wk
   ·rw [decide_eq_true (show V.int y=V.int wk by rw [e]),decide_eq_false (show ¬ y ≠ wk from fun z=>z e)]
    refine ⟨_,rfl,sm,?_⟩;simpa using hpc
   ·rw [decide_eq_false (show ¬ V.int y=V.int wk from fun z=>e (V.int.inj z)),decide_eq_true (show y ≠ wk from e)];refine ⟨_,rfl,_,hpc,qAF (by rw [A0];lia),_,rfl,qAC sm hp,?_⟩
    rw [qA1,if_pos rfl,B1]
    rfl
  ·refine fun σ Hc hI_6=>opq fun G_6 hG_6=>?_;obtain ⟨v,rfl,sm,hpc⟩:=hI_6;refine hG_6 ?_;rw [A0,qB7 rfl] at hpc;refine ⟨p,_,rfl,.inl ⟨Ab2 hpc,fun r hr=>?_⟩⟩;refine q r _ _ (sm.trans (qA2 hr _)) qA1 ⟨fun z=>?_,fun _=>rfl⟩;rw [hd] at z;exact absurd z qAR
theorem sc_moves_of:FnScope ["net","rooms","stand","dos","clears"] ["net","rooms","stand"] (qAB qFM):=qBL
theorem ok_moves_of (F:Fun K "moves_of" "moves_of" qFM f fd) (qLF:Clb P w K mg base 2 qHT qPA "fault_of" ["net","rooms","stand","move"] qLL)
  (qB3:mg "range" = none) (qB2:mg "len" = none):FnOk P w K mg base CX0 3 f fd ["net","rooms","stand"] qJ1:=by
 refine F.okA sc_moves_of fun cdv A outer s H vs Q E hr h=>?_;obtain ⟨a,so,Ae,st,Aa,rfl,hN,wf,n1000,hst,lst,q⟩:=h;have qaH:Room 2 _:=hr;refine ⟨_,(qA4 (qN7 (i:=3) sc_moves_of.nd rfl rfl rfl (lcs (own:=["work"]) (fv:=[]) (by kernel_rfl)) (qBC rfl qB3 (qA0 (qA7 qAA rfl qB2 qB4 (qA0 (pv 0) qA3)) qA3)) (fun z1=>qBG 0) (fun z1=>qAZ) (fun z1=>(qCH (qA0 qBU (qA0 (pv 0) qA3)))) (by kernel_rfl)) (qA4 (qN7 (i:=4) sc_moves_of.nd rfl rfl rfl (lcs (own:=["work"]) (fv:=[]) (by kernel_rfl)) (qBC rfl qB3 (qA0 (qA7 qAA rfl qB2 qB4 (qA0 (pv 0) qA3)) qA3)) (fun z2=>qBG 0) (fun z2=>qAZ) (fun z2=>(qCH (qA0 qBU (qA0 (pv 0) qA3)))) (by kernel_rfl)) (qA5 (qAE (qCB rfl (lcs (own:=["move"]) (fv:=[0,1,2]) (by kernel_rfl)) (qCA (qAP qKW (pv 3) (pv 4))) (fun z3=>qBG 0) (fun z3=>(qD5 (qDI (qN9 (qAV qLF hr rfl (qA0 (pv 1) (qA0 (pv 2) (qA0 (pv 3) (qA0 (pv 0) qA3))))))))) (fun z3=>(pv 0))))))),?_⟩
 try dsimp only [Cx.nox,Cx.wish,cxOf]
 obtain ⟨rs,hA,NL⟩:=id hN;have lrv:(((rs.map V.ref).length:Nat):Int)=(Ae.length:Int):=by rw [A0,B7 NL]
 refine ⟨_,rfl,a,_,rfl,.inr (Ac0 hA),_,rfl,by rw [lrv];lia,by rw [lrv];lia,fun p hp=>?_⟩
 refine qDK (p:=p) (lo:=0) (n:=((((rs.map V.ref).length:Nat):Int)).toNat) (fun i σ Hc=>∃ (v:Option V) (rd:List Addr),σ=[v]/\Same H Hc/\Hc p=some (.lst (rd.map V.ref))/\MovL Hc rd (qIG "do" i)) ?_ ?_ ?_
 ·exact ⟨none,[],rfl,qA2 hp _,qA1,.nil⟩
 ·refine fun i σ Hc hi hI_1=>opq fun G_1 hG_1=>?_;obtain ⟨v,rd,rfl,sm,hpc,ML⟩:=hI_1;refine hG_1 ?_;rw [lrv] at hi;refine ⟨_,rfl,(by show 2<=B28;decide),fun mv hmv=>?_⟩
  have s1:=qA2 hmv (.tup [.str "do",.int (0+(i:Int))])
  have ll:=B7 ML;rw [qF5] at ll;refine ⟨_,s1 _ _ hpc,qAF (by rw [A0];lia),_,rd++[mv],rfl,qAC (sm.trans s1) hp,?_,?_⟩
  ·rw [qA1,qBJ]
  ·rw [qL0];exact ((ML.same s1).snoc qA1).put (s1 _ _ hpc)
 ·refine fun σ Hc hI_2=>opq fun G_2 hG_2=>?_;obtain ⟨v,rd,rfl,sm,hpc,ML⟩:=hI_2;refine hG_2 ?_;rw [show ((((rs.map V.ref).length:Nat):Int)).toNat=Ae.length by rw [lrv];lia] at ML
  refine ⟨_,rfl,a,_,rfl,.inr (Ac0 (sm _ _ hA)),_,rfl,by rw [lrv];lia,by rw [lrv];lia,fun p2 hp2=>?_⟩
  refine qDK (p:=p2) (lo:=0) (n:=((((rs.map V.ref).length:Nat):Int)).toNat) (fun i σ Hd=>∃ (v:Option V) (re:List Addr),σ=[v]/\Same Hc Hd/\Hd p2=some (.lst (re.map V.ref))/\MovL Hd re (qIG "clear" i)) ?_ ?_ ?_
  ·exact ⟨none,[],rfl,qA2 hp2 _,qA1,.nil⟩
  ·refine fun i σ Hd hi hI_3=>opq fun G_3 hG_3=>?_;obtain ⟨v,re,rfl,sm2,hpd,ME⟩:=hI_3;refine hG_3 ?_;rw [lrv] at hi;refine ⟨_,rfl,(by show 2<=B28;decide),fun mv hmv=>?_⟩
   have s1:=qA2 hmv (.tup [.str "clear",.int (0+(i:Int))]);have ll:=B7 ME;rw [qF5] at ll;refine ⟨_,s1 _ _ hpd,qAF (by rw [A0];lia),_,re++[mv],rfl,qAC (sm2.trans s1) hp2,?_,?_⟩
   ·rw [qA1,qBJ]
   ·rw [qL0];exact ((ME.same s1).snoc qA1).put (s1 _ _ hpd)
  ·refine fun σ Hd hI_4=>opq fun G_4 hG_4=>?_;obtain ⟨v,re,rfl,sm2,hpd,ME⟩:=hI_4;refine hG_4 ?_;rw [show ((((rs.map V.ref).length:Nat):Int)).toNat=Ae.length by rw [lrv];lia] at ME
   have l1:=B7 ML;have l2:=B7 ME;rw [qF5] at l1 l2;refine ⟨_,rfl,_,rfl,p,p2,_,_,rfl,rfl,sm2 _ _ hpc,hpd,?_,fun l hl=>?_⟩
   ·rw [A0,A0,B39];lia
   have sl:=qA2 hl (.lst (rd.map V.ref++re.map V.ref));have MA:MovL (Ag Hd l (.lst (rd.map V.ref++re.map V.ref))) (rd++re) (qKM Ae.length):=((ML.same sm2).app ME).same sl;have gl:(Ag Hd l (.lst (rd.map V.ref++re.map V.ref))) l=some (.lst ((rd++re).map V.ref)):=by rw [qA1,B1]
   have smA:=(sm.trans sm2).trans sl;generalize Ag Hd l (.lst (rd.map V.ref++re.map V.ref))=He at MA gl smA ⊢;have lE:(rd++re).length=Ae.length+Ae.length:=by rw [B0,l1,l2]
   refine ⟨l,rfl,⟨_,Ab2 gl⟩,fun p3 hp3=>?_⟩;refine qE9 (p:=p3) (a:=l) (xs:=(rd++re).map V.ref) (fun i σ Hf=>∃ (v:Option V) (rk:List Addr),σ=[v,some (.ref a),some (.int Aa),some (.ref so)]/\Same He Hf/\Hf p3=some (.lst (rk.map V.ref))/\MovL Hf rk (((qKM Ae.length).take i).filter fun m=>decide (wd Ae st Aa m=.non))) ?_ ?_ ?_ ?_
   ·exact ⟨none,[],rfl,qA2 hp3 _,qA1,.nil⟩
   ·rintro i σ Hf hi ⟨v,rk,rfl,sm3,_⟩;exact Ab2 (sm3 _ _ gl)
   ·refine fun i x σ Hf hx hI_6=>opq fun G_6 hG_6=>?_;obtain ⟨v,rk,rfl,sm3,hpf,MK⟩:=hI_6;obtain ⟨mv,hmv,rfl⟩:=qC6 hx;refine hG_6 ?_;have hi:i<Ae.length+Ae.length:=by rw [<- lE];exact (A4.mp hmv).1
    obtain ⟨m,hm,em⟩:=qAU MA hmv;obtain ⟨hw,m0,m1⟩:=qR4 (B5 hm);have hi':m.2.toNat<Ae.length:=by lia
    have hns:=A5 hi';have rz:=wf _ _ hns;have lk:=B7 MK;have lk2:=T8 (fun m=>decide (wd Ae st Aa m=.non)) ((qKM Ae.length).take i);rw [C5,qNU] at lk2;have wde:wd Ae st Aa m=qDQ Ae[m.2.toNat] st Aa m.1 m.2:=by unfold wd;rw [hns];rfl
    refine ⟨_,rfl,_,rfl,_,rfl,_,rfl,a,so,mv,Ae,st,Ae[m.2.toNat],Aa,m.2,m.1,rfl,hN.same (smA.trans sm3),(smA.trans sm3) _ _ hst,lst,sm3 _ _ em,hw,m0,hns,?_,fun Hg sm4=>⟨_,rfl,?_⟩⟩
    ·have:=rz.len;lia
    rw [<- wde,qCK hm];by_cases hd:wd Ae st Aa m=.non
    ·rw [hd];refine ⟨_,rfl,_,sm4 _ _ hpf,(by rw [A0,B39];lia),_,rk++[mv],rfl,qAC (sm3.trans sm4) hp3,?_,?_⟩
     ·rw [qA1,qBJ]
     ·exact ((MK.same sm4).snoc (sm4 _ _ (sm3 _ _ em))).put (sm4 _ _ hpf)
    ·rw [decide_eq_false hd];refine ⟨_,rk,rfl,sm3.trans sm4,sm4 _ _ hpf,?_⟩;simpa using MK.same sm4
   ·refine fun σ Hf hI_7=>opq fun G_7 hG_7=>?_;obtain ⟨v,rk,rfl,sm3,hpf,MK⟩:=hI_7;refine hG_7 ?_;rw [C4 (by rw [A0,lE,qNU];exact A6 _)] at MK
    exact q p3 rk Hf (smA.trans sm3) (smA.free hp3) hpf MK
theorem qRO:FnScope ["results","works"] ["results","works"] (qAB qGQ):=qBL
theorem ok_has_all (F:Fun K "has_all" "has_all" qGQ f fd) (qEU:mg "all" = none):FnOk P w K mg base CX0 1 f fd ["results","works"] qT5:=by
 refine F.okA qRO fun cdv A outer s H vs Q E hr h=>?_;obtain ⟨b,a,t,st,Ad,rfl,hst,hT,l1,q⟩:=h;refine ⟨_,(qA5 (qAE (qA7 (qEJ rfl) rfl qEU qK6 (qA0 (qCB rfl (lcs (own:=["work"]) (fv:=[0]) (by kernel_rfl)) (qYM (pv 1)) (fun z1=>qBG 0) (fun z1=>qAZ) (fun z1=>(qCC (qKV (K:=K) rfl) (pv 0) (pv 1) (by with_unfolding_all rfl)))) qA3)))),?_⟩
 try dsimp only [Cx.nox,Cx.wish,cxOf]
 refine ⟨_,rfl,b,t,rfl,⟨_,sqo hT⟩,fun p hp=>?_⟩;refine qYU (b:=b) (p:=p) (a:=t) (xs:=Ad.map V.int) (fun i σ Hc=>∃ (v:Option V),σ=[v,some (.ref a)]/\Same H Hc/\Hc p=some (.lst (((Ad.take i).map fun x=>decide (x ∈ st)).map V.bl))) ?_ ?_ ?_ ?_
 ·exact ⟨none,rfl,qA2 hp _,qA1⟩
 ·refine fun i σ Hc hi hI_1=>opq fun G_1 hG_1=>?_;obtain ⟨v,rfl,sm,_⟩:=hI_1;refine hG_1 ?_;exact sqo (hT.same sm)
 ·refine fun i x σ Hc hx hI_2=>opq fun G_2 hG_2=>?_;obtain ⟨v,rfl,sm,hpc⟩:=hI_2;obtain ⟨z,ez,rfl⟩:=qAX hx;refine hG_2 ?_;have hi:=(A4.mp ez).1;refine ⟨_,rfl,_,rfl,a,_,rfl,.inr (Ac0 (sm _ _ hst)),rfl,qBY st,_,hpc,qAF (by rw [A0,A0,C5];lia),_,rfl,qAC sm hp,?_⟩
  rw [qA1];refine congrArg (fun l=>some (HO.lst l)) ?_;rw [C8,ez,C9,B1,B1];show _++[V.bl (inV (.int z) (st.map V.int))]=_;rw [qDN]
  rfl
 ·refine fun σ Hc hI_3=>opq fun G_3 hG_3=>?_;obtain ⟨v,rfl,sm,hpc⟩:=hI_3;refine hG_3 ?_;rw [A0,C4 (A6 _)] at hpc;refine ⟨p,_,rfl,Ab2 hpc,?_⟩;have e:((Ad.map fun x=>decide (x ∈ st)).all id)=decide (∀ x ∈ Ad,x ∈ st):=by
   rw [J4,decide_eq_true_eq];exact all_in
  rw [e];exact q Hc sm
structure Fnd2 (Ae:Aa0) (Ad ks:List Int) (j:Int):Prop where
 in_:∀ x ∈ ks,(0<=x/\x<(Ae.length:Int))/\Nd Ae Ad x
 ask:∀ x ∈ Ad,j<=x->x ∈ ks
 clo:∀ (w:Nat) zs,j<=(w:Int)->(w:Int) ∈ ks->Ae[w]?=some zs->∀ y ∈ zs,y ∈ ks
theorem repF:∀ n:Nat,(D2 n [V.bl false]).flatten=(D2 n false).map V.bl
 | 0=>rfl
 | n+1=>by rw [O3,O3,X7,repF n];rfl
structure Bls (n:Nat) (ks:List Int) (bs:List Bool):Prop where
 len:bs.length=n
 at_:∀ x:Nat,x<n->bs[x]?=some (decide ((x:Int) ∈ ks))
theorem Bls.set {n:Nat} {ks:List Int} {bs:List Bool} (h:Bls n ks bs) {x:Int} (h0:0<=x) (h1:x<n):Bls n (addI ks x) (bs.set x.toNat true):=by
 refine ⟨by rw [A14];exact h.len,fun y hy=>?_⟩
 by_cases e:(y:Int)=x
 ·have e2:x.toNat=y:=by lia
  rw [e2,W3 (by rw [h.len];exact hy),decide_eq_true (mem_addI.mpr (.inr e))]
 ·rw [l6 (by lia),h.at_ y hy]
  congr 1;exact decide_eq_decide.mpr ⟨fun z=>mem_addI.mpr (.inl z),fun z=>(mem_addI.mp z).resolve_right e⟩
theorem qYZ {bs:List Bool} {i:Nat} {b:Bool} (h:bs[i]?=some b):(bs.map V.bl)[i]?=some (.bl b):=by rw [B6,h];rfl
theorem sc_Lneeded:FnScope ["_law_net_here","_law_asked_here","_law_found","_law_work","_law_need"] ["_law_net_here","_law_asked_here"] (qAB qGS):=qBL
theorem ok_Lneeded (F:Fun K "_law_needed" "_law_needed" qGS f fd) (qB2:mg "len" = none) (qB3:mg "range" = none):FnOk P w K mg base CX0 1 f fd ["_law_net_here","_law_asked_here"] qQ2:=by
 refine F.okA sc_Lneeded fun cdv A outer s H vs Q E hr h=>?_;obtain ⟨a,t,Ae,Ad,rfl,hN,wf,n1000,⟨hT,rA⟩,q⟩:=h;refine ⟨_,(qA4 (qAM (i:=2) sc_Lneeded.nd rfl (l7 rfl) (qAP qTV (qBV (qA0 qC3 qA3)) (qA7 qAA rfl qB2 qB4 (qA0 (pv 0) qA3)))) (qA4 (qBT D3 rfl (qTN rfl qB3 (qA0 (qAP qCY (qA7 qAA rfl qB2 qB4 (qA0 (pv 0) qA3)) qA8) (qA0 (qX1 qPU qA8) (qA0 (qX1 qPU qA8) qA3)))) (qAY (i:=3) sc_Lneeded.nd rfl (E9 rfl)) (qA4 (qZX (qB5 (qAN qDW (pv 3) (pv 1) (by with_unfolding_all rfl)) (qA5 (qQG qC3 (qTO (pv 2) (pv 3) qLO))) qAI)) (qA5 (qB5 (qBQ (qBA qCU (pv 2) (pv 3) (fun _ _=>rfl))) (qA5 (qBT D3 rfl (qCX (qBA qBD (pv 0) (pv 3) (fun _ _=>rfl))) (qAY (i:=4) sc_Lneeded.nd rfl (E9 rfl)) (qA5 (qQG qC3 (qTO (pv 2) (pv 4) qLO))))) qAI)))) (qA5 (qAE (qCB rfl (lcs (own:=["_law_work"]) (fv:=[2]) (by kernel_rfl)) (qBC rfl qB3 (qA0 (qA7 qAA rfl qB2 qB4 (qA0 (pv 0) qA3)) qA3)) (fun z1=>qBG 0) (fun z1=>(qD5 (qBQ (qBA (qXG (K:=K) rfl) (pv 1) (pv 0) (fun _ _=>rfl))))) (fun z1=>(pv 0))))))),?_⟩
 try dsimp only [Cx.nox,Cx.wish,cxOf]
 obtain ⟨rs,hA,NL⟩:=id hN;have lrv:(((rs.map V.ref).length:Nat):Int)=(Ae.length:Int):=by rw [A0,B7 NL]
 refine ⟨(by show 1<=B28;decide),fun p0 hp0=>?_⟩
 have s0:=qA2 hp0 (.lst [.bl false]);refine ⟨_,rfl,a,_,rfl,.inr (Ac0 (s0 _ _ hA)),p0,_,_,rfl,rfl,qA1,by rw [lrv];lia,by rw [lrv];lia,?_,fun fo hfo=>?_⟩
 ·rw [lrv,B39];simp;lia
 have ffo:H fo=none:=s0.free hfo;have s1:=s0.trans (qA2 hfo (.lst (D2 ((((rs.map V.ref).length:Nat):Int)).toNat [V.bl false]).flatten));have gfo:(Ag (Ag H p0 (.lst [.bl false])) fo (.lst (D2 ((((rs.map V.ref).length:Nat):Int)).toNat [V.bl false]).flatten)) fo=some (.lst ((D2 Ae.length false).map V.bl)):=by
  rw [qA1,repF,lrv,E1]
 generalize Ag (Ag H p0 (.lst [.bl false])) fo (.lst (D2 ((((rs.map V.ref).length:Nat):Int)).toNat [V.bl false]).flatten)=H1 at s1 gfo;refine ⟨_,rfl,a,_,rfl,.inr (Ac0 (s1 _ _ hA)),_,_,rfl,rfl,_,rfl,_,rfl,_,_,rfl,⟨by rw [lrv];lia,by rw [lrv];lia,by decide,by decide⟩,qR2 (lo:=(((rs.map V.ref).length:Nat):Int) - 1) (n:=((((rs.map V.ref).length:Nat):Int) - 1 - -1).toNat) (fun i σ Hc=>∃ (bs:List Bool) (ks:List Int) (v3 v4:Option V),σ=[some (.ref a),some (.ref t),some (.ref fo),v3,v4]/\Same H Hc/\Hc fo=some (.lst (bs.map V.bl))/\Bls Ae.length ks bs/\Fnd2 Ae Ad ks ((Ae.length:Int) - i))
  ⟨_,[],none,none,rfl,s1,gfo,⟨by simp,fun x hx=>by simp [hx]⟩,⟨fun x hx=>(nomatch hx),fun x hx hl=>?_,fun w zs h1 h2=>(nomatch h2)⟩⟩ ?_ ?_⟩
 ·have:=(rA.in_ x hx).2
  lia
 ·refine fun i σ Hc hi hI_1=>opq fun G_1 hG_1=>?_;obtain ⟨bs,ks,v3,v4,rfl,sm,hf,B,fn⟩:=hI_1;refine hG_1 ?_;rw [lrv] at hi ⊢;obtain ⟨w0,ew⟩:∃ w0:Nat,(Ae.length:Int) - 1 - i=(w0:Int):=⟨Ae.length - 1 - i,by lia⟩
  have hw:w0<Ae.length:=by lia
  rw [ew];obtain ⟨r,h3,h4⟩:=NL.get (A5 hw);have hz:=A5 hw;have rz:=wf w0 _ hz;generalize Ae[w0]=zs at h4 hz rz;have ix:∀ {bs:List Bool} {ks:List Int} {x:Int},Bls Ae.length ks bs->0<=x->x<(Ae.length:Int)->ixN (bs.map V.bl).length x=some x.toNat:=fun {bs ks x} B h0 h1=>by
   have:=qUJ (xs:=bs.map V.bl) (j:=x.toNat) (by rw [A0,B.len];lia)
   rw [show ((x.toNat:Nat):Int)=x by lia] at this
   exact this
  -- Ad
  refine ⟨fun σ Hc=>∃ (bs:List Bool) (ks:List Int),σ=[some (.ref a),some (.ref t),some (.ref fo),some (.int (w0:Int)),v4]/\Same H Hc/\Hc fo=some (.lst (bs.map V.bl))/\Bls Ae.length ks bs/\(∀ x ∈ ks,(0<=x/\x<(Ae.length:Int))/\Nd Ae Ad x)/\(∀ x ∈ Ad,(w0:Int)<=x->x ∈ ks)/\(∀ (w:Nat) zs,(w0:Int)+1<=(w:Int)->(w:Int) ∈ ks->Ae[w]?=some zs->∀ y ∈ zs,y ∈ ks),?_,?_⟩
  ·refine ⟨_,rfl,_,rfl,t,_,rfl,.inr (Ac0 (sm _ _ hT)),rfl,qBY Ad,_,rfl,?_⟩;rw [qDN];by_cases c:(w0:Int) ∈ Ad
   ·rw [decide_eq_true c];refine ⟨_,rfl,_,rfl,fo,_,_,w0,rfl,rfl,hf,?_,?_⟩
    ·have:=ix B (x:=(w0:Int)) (by lia) (by lia)
     rw [E1] at this;exact this
    ·have st:=B.set (x:=(w0:Int)) (by lia) (by lia)
     rw [E1] at st;refine ⟨_,addI ks (w0:Int),rfl,qAC sm ffo,by rw [qA1,A76],st,fun x hx=>?_,fun x hx hl=>?_,fun w1 ys h1 h2 h9 y hy=>?_⟩
     ·rcases mem_addI.mp hx with hx | hx
      ·exact fn.in_ x hx
      ·rw [hx];exact ⟨⟨by lia,by lia⟩,.ask c⟩
     ·by_cases e:x=(w0:Int)
      ·exact mem_addI.mpr (.inr e)
      ·exact mem_addI.mpr (.inl (fn.ask x hx (by lia)))
     ·rcases mem_addI.mp h2 with h2 | h2
      ·exact mem_addI.mpr (.inl (fn.clo w1 ys (by lia) h2 h9 y hy))
      ·lia
   ·rw [decide_eq_false c];refine ⟨bs,ks,rfl,sm,hf,B,fn.in_,fun x hx hl=>?_,fun w1 ys h1 h2 h9=>fn.clo w1 ys (by lia) h2 h9⟩
    by_cases e:x=(w0:Int)
    ·rw [e] at hx;exact absurd hx c
    ·exact fn.ask x hx (by lia)
  refine fun σ Hc hI_2=>opq fun G_2 hG_2=>?_;obtain ⟨bs,ks,rfl,sm,hf,B,f1,f2,f3⟩:=hI_2;refine hG_2 ?_;refine ⟨_,rfl,_,rfl,fo,_,_,_,rfl,rfl,Ab2 hf,qG5 (by lia) (by rw [E1];exact qYZ (B.at_ w0 hw)),_,rfl,?_⟩
  by_cases c:(w0:Int) ∈ ks
  ·rw [decide_eq_true c];refine ⟨_,rfl,_,rfl,a,_,_,_,rfl,rfl,Ac0 (sm _ _ hA),qG5 (by lia) (by rw [E1,B6,h3];rfl),r,rfl,⟨_,Ac0 (sm _ _ h4)⟩,qGF (a:=r) (xs:=zs.map V.int) (fun k σ Hd=>∃ (bs:List Bool) (ks:List Int) (v4:Option V),σ=[some (.ref a),some (.ref t),some (.ref fo),some (.int (w0:Int)),v4]/\Same H Hd/\Hd fo=some (.lst (bs.map V.bl))/\Bls Ae.length ks bs/\(∀ x ∈ ks,(0<=x/\x<(Ae.length:Int))/\Nd Ae Ad x)/\(∀ x ∈ Ad,(w0:Int)<=x->x ∈ ks)/\(∀ (w:Nat) zs,(w0:Int)+1<=(w:Int)->(w:Int) ∈ ks->Ae[w]?=some zs->∀ y ∈ zs,y ∈ ks)/\(w0:Int) ∈ ks/\∀ y ∈ zs.take k,y ∈ ks)
    ⟨bs,ks,v4,rfl,sm,hf,B,f1,f2,f3,c,fun y hy=>by simp at hy⟩ (fun k σ Hd _ hP=>by obtain ⟨_,_,_,_,sd,_⟩:=hP;exact Ac0 (sd _ _ h4)) ?_ ?_⟩
   ·refine fun k x σ Hd hx hI_3=>opq fun G_3 hG_3=>?_;obtain ⟨bs,ks,v4,rfl,sd,hfd,B,f1,f2,f3,c,ty⟩:=hI_3;obtain ⟨y,ey,rfl⟩:=qAX hx;refine hG_3 ?_;have my:=B5 ey;have yb:=rz.in_ y my;refine ⟨_,rfl,_,rfl,fo,_,_,y.toNat,rfl,rfl,hfd,ix B yb.1 (by lia),?_⟩
    refine ⟨_,addI ks y,_,rfl,qAC sd ffo,by rw [qA1,A76],B.set yb.1 (by lia),fun x hx=>?_,fun x hx hl=>mem_addI.mpr (.inl (f2 x hx hl)),fun w1 ys h1 h2 h9 z hz'=>?_,mem_addI.mpr (.inl c),fun z hz'=>?_⟩
    ·rcases mem_addI.mp hx with hx | hx
     ·exact f1 x hx
     ·rw [hx];exact ⟨⟨yb.1,by lia⟩,.need (f1 _ c).2 (by rw [E1];exact hz) my⟩
    ·rcases mem_addI.mp h2 with h2 | h2
     ·exact mem_addI.mpr (.inl (f3 w1 ys h1 h2 h9 z hz'))
     ·lia
    ·rw [C8,ey,C9,B3,A7] at hz';rcases hz' with hz' | hz'
     ·exact mem_addI.mpr (.inl (ty z hz'))
     ·exact mem_addI.mpr (.inr hz')
   ·refine fun σ Hd hI_4=>opq fun G_4 hG_4=>?_;obtain ⟨bs,ks,v4,rfl,sd,hfd,B,f1,f2,f3,c,ty⟩:=hI_4;refine hG_4 ?_;rw [A0,qB7 rfl] at ty;refine ⟨bs,ks,_,_,rfl,sd,hfd,B,f1,fun x hx hl=>f2 x hx (by lia),fun w1 ys h1 h2 h9=>?_⟩
    by_cases e:w1=w0
    ·subst e;rw [hz] at h9;cases h9;exact ty
    ·exact f3 w1 ys (by lia) h2 h9
  ·rw [decide_eq_false c];refine ⟨bs,ks,_,_,rfl,sm,hf,B,f1,fun x hx hl=>f2 x hx (by lia),fun w1 ys h1 h2 h9=>?_⟩
   by_cases e:w1=w0
   ·subst e;exact absurd h2 c
   ·exact f3 w1 ys (by lia) h2 h9
 ·refine fun σ Hc hI_5=>opq fun G_5 hG_5=>?_;obtain ⟨bs,ks,v3,v4,rfl,sm,hf,B,fn⟩:=hI_5;refine hG_5 ?_;rw [lrv,show ((Ae.length:Int) - (((Ae.length:Int) - 1 - -1).toNat:Nat))=0 by lia] at fn
  have all:=Fnd.all wf (⟨fn.in_,fun x hx=>fn.ask x hx (rA.in_ x hx).1,fn.clo⟩:Fnd Ae Ad ks 0);have lrn:((((rs.map V.ref).length:Nat):Int)).toNat=Ae.length:=by rw [lrv];lia
  refine ⟨_,rfl,a,_,rfl,.inr (Ac0 (sm _ _ hA)),_,rfl,by rw [lrv];lia,by rw [lrv];lia,fun p hp=>?_⟩
  refine qDK (p:=p) (lo:=0) (n:=((((rs.map V.ref).length:Nat):Int)).toNat) (fun i σ Hd=>∃ (v:Option V),σ=[v,some (.ref fo)]/\Same Hc Hd/\Hd p=some (.lst ((((qBM 0 Ae.length).take i).filter fun x=>decide (x ∈ ks)).map V.int))) ?_ ?_ ?_
  ·exact ⟨none,rfl,qA2 hp _,qA1⟩
  ·refine fun i σ Hd hi hI_6=>opq fun G_6 hG_6=>?_;obtain ⟨v,rfl,sd,hpd⟩:=hI_6;refine hG_6 ?_;rw [lrn] at hi;have lk:=qBZ (p:=fun x=>decide (x ∈ ks)) (l:=qBM 0 Ae.length) (i:=i);refine ⟨_,rfl,_,rfl,fo,_,_,_,rfl,rfl,Ab2 (sd _ _ hf),qG5 (by lia) (by rw [show (0+(i:Int)).toNat=i by lia];exact qYZ (B.at_ i hi)),_,rfl,?_⟩
   rw [qCK (qG9 (by lia)),A75]
   by_cases c:(i:Int) ∈ ks
   ·rw [decide_eq_true c];refine ⟨_,rfl,_,hpd,qAF (by rw [A0];lia),_,rfl,qAC sd hp,?_⟩
    rw [qA1,if_pos rfl,B1]
    rfl
   ·rw [decide_eq_false c];refine ⟨_,rfl,sd,?_⟩;simpa using hpd
  ·refine fun σ Hd hI_7=>opq fun G_7 hG_7=>?_;obtain ⟨v,rfl,sd,hpd⟩:=hI_7;refine hG_7 ?_;rw [qB7 (by rw [qDT,lrn];lia)] at hpd
   refine q p _ Hd (sm.trans sd) (sm.free hp) hpd ⟨⟨(qF1 _ _).filter _,fun x hx=>mem_rangeI.mp (E6.mp hx).1⟩,fun x=>?_⟩;rw [E6,mem_rangeI,decide_eq_true_eq,<- all x];exact ⟨fun z=>z.2,fun z=>⟨(fn.in_ x z).1,z⟩⟩
theorem qWM:FnScope ["_law_net_here","_law_rooms","_law_stand","_law_move"] ["_law_net_here","_law_rooms","_law_stand","_law_move"] (qAB qLQ):=qBL
theorem ok_Lword (F:Fun K "_law_word" "_law_word" qLQ f fd) (qB2:mg "len" = none) (qEU:mg "all" = none):FnOk P w K mg base CX0 1 f fd ["_law_net_here","_law_rooms","_law_stand","_law_move"] qLL:=by
 refine F.okA qWM fun cdv A outer s H vs Q E hr h=>?_;obtain ⟨a,so,mv,Ae,st,ns,Aa,wk,Ac,rfl,hN,hst,lst,hmv,hword,wk0,hns,lns,q⟩:=h;refine ⟨_,(qA4 (qB5 (qAN qGA (qBA qBD (pv 3) qA8 (fun _ _=>rfl)) qBU (qAS _)) (qA5 (qAE (qGW (qAN qDW (qBA qBD (pv 3) qA8 (fun _ _=>rfl)) (pv 2) (by with_unfolding_all rfl)) qI2 qBU))) qAI) (qA4 (qB5 (qAN qDW (qBA qBD (pv 3) qA8 (fun _ _=>rfl)) (pv 2) (by with_unfolding_all rfl)) (qA5 (qAE qBU)) qAI) (qA4 (qB5 (qCG (qBQ (qA7 (qEJ rfl) rfl qEU qK6 (qA0 (qCB rfl (lcs (own:=["_law_need"]) (fv:=[2]) (by kernel_rfl)) (qCX (qBA qBD (pv 0) (qBA qBD (pv 3) qA8 (fun _ _=>rfl)) (fun _ _=>rfl))) (fun z1=>qBG 0) (fun z1=>qAZ) (fun z1=>(qCC (qKV (K:=K) rfl) (pv 0) (pv 1) (by with_unfolding_all rfl)))) qA3)))) (qA5 (qAE qBU)) qAI) (qA5 (qAE (qGW (qAN qTY (qA7 qAA rfl qB2 qB4 (qA0 (pv 2) qA3)) (pv 1) (qAS _)) qBU qI2)))))),?_⟩
 try dsimp only [Cx.nox,Cx.wish,cxOf]
 refine ⟨_,rfl,mv,_,_,_,rfl,rfl,Ac0 hmv,rfl,rfl,_,rfl,?_⟩;refine ite2 (fun ck=>?_) (fun ck=>?_)
 ·have hd:Ac = "clear":=V.str.inj (of_decide_eq_true ck);have q':=q H (Same.refl H);unfold qDQ qDR at q';rw [if_neg (by rw [hd];exact qAR)] at q'
  refine ⟨_,rfl,mv,_,_,_,rfl,rfl,Ac0 hmv,rfl,_,rfl,so,_,rfl,.inr (Ac0 hst),rfl,qBY st,_,rfl,?_⟩;rw [qDN];refine ite2 (fun cw=>?_) (fun cw=>?_)
  ·rw [if_pos (of_decide_eq_true cw)] at q';exact q'
  ·rw [if_neg (of_decide_eq_false (E8.mpr cw))] at q';exact q'
 ·have hd:Ac = "do":=hword.resolve_right fun e=>(of_decide_eq_false (E8.mpr ck)) (congrArg V.str e)
  have q1:∀ H',Same H H'->Q (qDE ns st Aa wk) H':=fun H' sm=>by
   have q':=q H' sm;unfold qDQ at q';rw [if_pos hd] at q';exact q'
  refine ⟨_,rfl,mv,_,_,_,rfl,rfl,Ac0 hmv,rfl,_,rfl,so,_,rfl,.inr (Ac0 hst),rfl,qBY st,_,rfl,?_⟩;rw [qDN];refine ite2 (fun cw=>?_) (fun cw=>?_)
  ·have q':=q1 H (Same.refl H);unfold qDE at q';rw [if_pos (of_decide_eq_true cw)] at q';exact q'
  ·have hw:¬ wk ∈ st:=of_decide_eq_false (E8.mpr cw);obtain ⟨rs,r,h1,l1,h2,h3⟩:=hN.get hns;refine ⟨_,rfl,_,rfl,mv,_,_,_,rfl,rfl,Ac0 hmv,rfl,a,_,_,_,rfl,rfl,Ac0 h1,qG5 wk0 h2,r,rfl,⟨_,Ac0 h3⟩,fun p hp=>?_⟩;refine qER (p:=p) (a:=r) (xs:=ns.map V.int) (fun i σ Hc=>∃ (v:Option V),σ=[v,some (.ref so)]/\Same H Hc/\Hc p=some (.lst (((ns.take i).map fun x=>decide (x ∈ st)).map V.bl))) ?_ ?_ ?_ ?_
   ·exact ⟨none,rfl,qA2 hp _,qA1⟩
   ·rintro i σ Hc hi ⟨v,rfl,sm,_⟩;exact Ac0 (sm _ _ h3)
   ·refine fun i x σ Hc hx hI_2=>opq fun G_2 hG_2=>?_;obtain ⟨v,rfl,sm,hpc⟩:=hI_2;obtain ⟨z,ez,rfl⟩:=qAX hx;refine hG_2 ?_;have hi:i<ns.length:=(A4.mp ez).1;refine ⟨_,rfl,_,rfl,so,_,rfl,.inr (Ac0 (sm _ _ hst)),rfl,qBY st,_,hpc,qAF (by rw [A0,A0,C5];lia),_,rfl,qAC sm hp,?_⟩
    rw [qA1];refine congrArg (fun l=>some (HO.lst l)) ?_;rw [<- qLK ez];show _++[V.bl (inV (.int z) (st.map V.int))]=_;rw [qDN]
   ·refine fun σ Hc hI_3=>opq fun G_3 hG_3=>?_;obtain ⟨v,rfl,sm,hpc⟩:=hI_3;refine hG_3 ?_;rw [A0,C4 (A6 _)] at hpc;refine ⟨p,_,rfl,Ab2 hpc,_,rfl,?_⟩;have q':=q1 Hc sm;unfold qDE at q';rw [if_neg hw] at q';cases hall:(ns.map fun x=>decide (x ∈ st)).all id with
    | false=>
     have na:¬ ∀ x ∈ ns,x ∈ st:=fun z=>by rw [all_in.mpr z] at hall;cases hall
     rw [if_neg na] at q';exact q'
    | true=>
     rw [if_pos (all_in.mp hall)] at q';refine ⟨_,rfl,so,_,rfl,.inr (Ac0 (sm _ _ hst)),_,rfl,_,_,rfl,rfl,_,rfl,?_⟩;refine ite2 (fun cf=>?_) (fun cf=>?_)
     ·have cf':Aa<=(((st.map V.int).length:Nat):Int):=of_decide_eq_true cf;rw [A0] at cf';rw [if_pos cf'] at q';exact q'
     ·have cf':¬ Aa<=(((st.map V.int).length:Nat):Int):=of_decide_eq_false (E8.mpr cf);rw [A0] at cf';rw [if_neg cf'] at q';exact q'
theorem qZY {j:Int} (h0:0<=j) (h1:j<=1000):CPow 1 j:=⟨h0,by lia,by decide⟩
theorem qTA {n:Nat} (h:n<=12):2 ^ n<=4096:=by
 have:=Y2 (show 0<2 by decide) h
 simpa using this
theorem sc_Lcome:FnScope ["_law_net_here","_law_rooms","_law_needs","_law_found","_law_layer","_law_many","_law_cleared","_law_at","_law_work","_law_less","_law_bits_here","_law_more"] ["_law_net_here","_law_rooms"] (qAB qLT):=qBL
theorem ok_Lcome (F:Fun K "_law_come" "_law_come" qLT f fd) (qWG:mg "sum" = none) (qCW:mg "list" = none) (qB2:mg "len" = none) (qB3:mg "range" = none):FnOk P w K mg base CX0 1 f fd ["_law_net_here","_law_rooms"] qYE:=by
 refine F.okA sc_Lcome fun cdv A outer s H vs Q E hr h=>?_;obtain ⟨a,Ae,Aa,rfl,hN,wf,n12,q⟩:=h;have hu:=qHO hr;have hu0:=hr.units0;refine ⟨_,(qA4 (qN7 (i:=2) sc_Lcome.nd rfl rfl rfl (lcs (own:=["_law_one"]) (fv:=[]) (by kernel_rfl)) (qCX (pv 0)) (fun z1=>qBG 0) (fun z1=>qAZ) (fun z1=>(qA7 (qVO (K:=K) rfl rfl) rfl qWG qVS (qA0 (qCB (X:=lcCx _ _ _ _ z1) rfl (lcs (own:=["_law_need"]) (fv:=[]) (by kernel_rfl)) (qOR (K:=K) rfl (pv 0)) (fun z2=>qBG 0) (fun z2=>qAZ) (fun z2=>(qAP qQO qA8 (pv 0)))) qA3))) (by kernel_rfl)) (qA4 (qAM (i:=3) sc_Lcome.nd rfl (E9 rfl) (qTS (qLW qA8 qA8 qTH) rfl rfl (by simp) (by decide))) (qA4 (qAM (i:=4) sc_Lcome.nd rfl (E9 rfl) (qBV (qA0 qA8 qA3))) (qA4 (qAM (i:=5) sc_Lcome.nd rfl (E9 rfl) qA8) (qA4 (qIP D3 (qAN (qTW hu0) (pv 4) (qBV qA3) (qAS _)) (qA4 (qAM (i:=6) sc_Lcome.nd rfl (E9 rfl) (qAG qFH rfl qCW qFI (qA0 (pv 4) qA3))) (qA4 (qAM (i:=7) sc_Lcome.nd rfl (E9 rfl) qA8) (qA4 (qIP D3 (qAN qLZ (pv 7) (qA7 qAA rfl qB2 qB4 (qA0 (pv 6) qA3)) (qAS _)) (qA4 (qBT D3 rfl (qBC rfl qB3 (qA0 (qA7 qAA rfl qB2 qB4 (qA0 (pv 0) qA3)) qA3)) (qAY (i:=8) sc_Lcome.nd rfl (E9 rfl)) (qA4 (qAM (i:=9) sc_Lcome.nd rfl (E9 rfl) (qAP qCY (qBA qCU (pv 6) (pv 7) (fun _ _=>rfl)) (qAP qJD (qAP qQO qA8 (pv 8)) (qAP qQP (qAP qYR (qBA qCU (pv 6) (pv 7) (fun _ _=>rfl)) (pv 8)) qA8)))) (qA5 (qB5 (qDI (qDU hu (pv 9) (pv 3))) (qA4 (qE7 hu (pv 3) (pv 9) (pv 5) rfl) (qA5 (qF2 (qRV J1 M7 M8 qD7 (pv 6) (qA0 (pv 9) qA3))))) qAI)))) (qA5 (qAM (i:=7) sc_Lcome.nd rfl (E9 rfl) (qAP qD6 (pv 7) qA8))))) (qA4 (qAM (i:=5) sc_Lcome.nd rfl (E9 rfl) (qAP qD6 (pv 5) qA8)) (qA4 (qAM (i:=4) sc_Lcome.nd rfl (E9 rfl) (qBV qA3)) (qA5 (qBT D3 rfl (qCA (pv 6)) (qAY (i:=10) sc_Lcome.nd rfl (l7 rfl)) (qA5 (qB5 (qAN qLZ (qA7 (qMJ rfl) rfl qWG qVS (qA0 (qCB rfl (lcs (own:=["_law_work"]) (fv:=[10]) (by kernel_rfl)) (qBC rfl qB3 (qA0 (qA7 qAA rfl qB2 qB4 (qA0 (pv 0) qA3)) qA3)) (fun z3=>qBG 0) (fun z3=>qAZ) (fun z3=>(qAP qQP (qAP qYR (pv 1) (pv 0)) qA8))) qA3)) (pv 1) (qAS _)) (qA5 (qBT D3 rfl (qBC rfl qB3 (qA0 (qA7 qAA rfl qB2 qB4 (qA0 (pv 0) qA3)) qA3)) (qAY (i:=8) sc_Lcome.nd rfl (E9 rfl)) (qA4 (qAM (i:=11) sc_Lcome.nd rfl (E9 rfl) (qAP qdL (pv 10) (qAP qQO qA8 (pv 8)))) (qA5 (qB5 (PW.pt (qYI (qAN qGA (qAP qQP (pv 10) (qBA qCU (pv 2) (pv 8) (fun _ _=>rfl))) (qBA qCU (pv 2) (pv 8) (fun _ _=>rfl)) (qAS _)) (qTF (qDI (qDU hu (pv 11) (pv 3)))))) (qA4 (qE7 hu (pv 3) (pv 11) (pv 5) rfl) (qA5 (qF2 (qRV J1 M7 M8 qD7 (pv 4) (qA0 (pv 11) qA3))))) qAI))))) qAI)))))))))) (qA5 (qAE (qbY (pv 3))))))))),?_⟩
 try dsimp only [Cx.nox,Cx.wish,cxOf]
 obtain ⟨rs,hA,NL⟩:=id hN;have l2:=qTA n12;have lrs:rs.length=Ae.length:=B7 NL;have lrv:(((rs.map V.ref).length:Nat):Int)=(Ae.length:Int):=by rw [A0,lrs]
 have lrn:((((rs.map V.ref).length:Nat):Int)).toNat=Ae.length:=by rw [lrv];lia
 refine cut fun N1 hN1=>?_;refine ⟨_,rfl,a,rfl,⟨_,Ac0 hA⟩,fun p hp=>?_⟩;refine qER (p:=p) (a:=a) (xs:=rs.map V.ref) (fun j σ Hd=>∃ (v:Option V),σ=[v]/\Same H Hd/\Hd p=some (.lst ((natI ((Ae.take j).map mskN)).map V.int))) ?_ ?_ ?_ ?_
 ·exact ⟨none,rfl,qA2 hp _,qA1⟩
 ·rintro j σ Hd hj ⟨v,rfl,sm,_⟩;exact Ac0 (sm _ _ hA)
 ·refine fun j x σ Hd hx hI_2=>opq fun G_2 hG_2=>?_;obtain ⟨v,rfl,sm,hpd⟩:=hI_2;obtain ⟨r,er,rfl⟩:=qC6 hx;refine hG_2 ?_;have hj:j<Ae.length:=by have:=(A4.mp er).1;lia
  have hz:=A5 hj;obtain ⟨r',h3,h4⟩:=NL.get hz;rw [er] at h3;cases h3;have rz:=wf j _ hz;generalize Ae[j]=zs at h4 hz rz;have lz:=rz.len;refine ⟨_,rfl,r,rfl,⟨_,Ac0 (sm _ _ h4)⟩,fun p2 hp2=>?_⟩;refine qER (p:=p2) (a:=r) (xs:=zs.map V.int) (fun i σ He=>∃ (v:Option V),σ=[v]/\Same Hd He/\He p2=some (.lst (((zs.take i).map fun z=>(1:Int) * 2 ^ z.toNat).map V.int))) ?_ ?_ ?_ ?_
  ·exact ⟨none,rfl,qA2 hp2 _,qA1⟩
  ·rintro i σ He hi ⟨v,rfl,se,_⟩;exact Ac0 (se _ _ (sm _ _ h4))
  ·refine fun i x σ He hx hI_4=>opq fun G_4 hG_4=>?_;obtain ⟨v,rfl,se,hpe⟩:=hI_4;obtain ⟨z,ez,rfl⟩:=qAX hx;refine hG_4 ?_;have hi:=(A4.mp ez).1;have zb:=rz.in_ z (B5 ez);refine ⟨_,rfl,_,_,rfl,rfl,qZY zb.1 (by lia),_,hpe,qAF (by rw [A0,A0,C5];lia),_,rfl,qAC se hp2,?_⟩
   rw [qA1,C8,ez,C9,B1,B1]
   rfl
  ·refine fun σ He hI_5=>opq fun G_5 hG_5=>?_;obtain ⟨v,rfl,se,hpe⟩:=hI_5;refine hG_5 ?_;rw [A0,qB7 rfl] at hpe;refine ⟨p2,_,rfl,Ab2 hpe,_,se _ _ hpd,qAF (by rw [A0,qGZ,A0,C5];lia),_,rfl,qAC (sm.trans se) hp,?_⟩
   rw [qA1,C8,hz,C9,B1,t6,qJH,B1,qOW]
   rfl
 refine fun σ Hd hI_6=>opq fun G_6 hG_6=>?_;obtain ⟨v,rfl,sm0,gp⟩:=hI_6;refine hG_6 ?_;rw [A0,lrs,qB7 rfl] at gp;have fp:H p=none:=hp;clear hp v;refine hN1 _ _ (cut fun N2 hN2=>?_);intro d hd;refine ⟨qA1,[(E3 0,.int 0)],rfl,(by show 1<=15;decide),?_⟩
 rw [qIY];have fdn:H d=none:=sm0.free hd;have sd:=qA2 hd (.dK (qG3 [] [((E3 0:Key),V.int 0)]));have gd:(Ag Hd d (.dK (qG3 [] [((E3 0:Key),V.int 0)]))) d=some (.dK (kvN [0] fun _=>0)):=qA1;have npd:p ≠ d:=qA6 gp hd;have gp1:=sd _ _ gp;have sm1:=sm0.trans sd;generalize Ag Hd d (.dK (qG3 [] [((E3 0:Key),V.int 0)]))=H1 at sd gd gp1 sm1 ⊢;refine hN2 _ _ (cut fun N3 hN3=>?_);refine ⟨(by show 1<=B28;decide),fun l0 hl0=>?_⟩
 have sl:=qA2 hl0 (.lst [.int 0]);have gl0:(Ag H1 l0 (.lst [.int 0])) l0=some (.lst ((natI [0]).map V.int)):=qA1;have gd1:=sl _ _ gd;have gp2:=sl _ _ gp1;have sm2:=sm1.trans sl;generalize Ag H1 l0 (.lst [.int 0])=H2 at sl gl0 gd1 gp2 sm2 ⊢;refine hN3 _ _ (cut fun N4 hN4=>?_);refine hN4 _ _ (cut fun N5 hN5=>?_);clear hN1 hN2 hN3 hN4 gd gp gp1 sd sl sm0 sm1 hl0 hd;refine ⟨fun m σ Hc=>∃ (ks ly:List Nat) (f:Nat->Nat) (many:Nat) (ll:Addr) (v6 v7 v8 v9 v10 v11:Option V),σ=[some (.ref a),some (.int Aa),some (.ref p),some (.ref d),some (.ref ll),some (.int (many:Int)),v6,v7,v8,v9,v10,v11]/\m=2 ^ Ae.length+1 - many/\Same H Hc/\Hc p=some (.lst ((natI (Ae.map mskN)).map V.int))/\Hc d=some (.dK (kvN ks f))/\Hc ll=some (.lst ((natI ly).map V.int))/\A1 Ae Aa many ks f ly 0 0/\(ly ≠ []->many<ks.length),
  ⟨_,[0],[0],fun _=>0,0,l0,none,none,none,none,none,none,rfl,rfl,sm2,gp2,gd1,gl0,A1.start,fun _=>by decide⟩,?_⟩
 refine fun m σ Hc hI_7=>opq fun G_7 hG_7=>?_;obtain ⟨ks,ly,f,many,ll,v6,v7,v8,v9,v10,v11,rfl,rfl,sm,gp,gd,gl,I1,lm⟩:=hI_7;refine hG_7 ?_;refine ⟨_,rfl,(by show 0<=B28;decide),fun e he=>?_⟩
 have se:=qA2 he (.lst []);refine ⟨ll,e,_,rfl,rfl,Ab2 (se _ _ gl),Ab2 qA1,_,rfl,?_⟩;have gp1:=se _ _ gp;have gd1:=se _ _ gd;have gl1:=se _ _ gl;have sm1:=sm.trans se;generalize Ag Hc e (.lst [])=H3 at gp1 gd1 gl1 sm1 ⊢;clear se he gp gd gl sm;refine ite2 (fun cn=>?_) (fun cn=>?_)
 ·have lne:ly ≠ []:=fun z=>by rw [z] at cn;cases cn
  have lk:=lm lne;have kl:=I1.fd.len;refine qc3 fun W0 hW0=>?_;refine cut fun M1 hM1=>?_;refine ⟨_,rfl,ll,_,rfl,.inl (Ab2 gl1),fun c hc=>?_⟩;have fc:H c=none:=sm1.free hc;have sc:=qA2 hc (.lst ((natI ly).map V.int));have npc:p ≠ c:=qA6 gp1 hc;have ndc:d ≠ c:=qA6 gd1 hc;have gc:(Ag H3 c (.lst ((natI ly).map V.int))) c=some (.lst ((natI ly).map V.int)):=qA1;have gp2:=sc _ _ gp1;have gd2:=sc _ _ gd1;have sm2:=sm1.trans sc;generalize Ag H3 c (.lst ((natI ly).map V.int))=H4 at gc gp2 gd2 sm2 ⊢;clear sc hc gp1 gd1 gl1 sm1;refine hM1 _ _ (cut fun M2 hM2=>?_);refine hM2 _ _ (cut fun M3 hM3=>?_);clear hM1 hM2;refine ⟨fun m σ Hc=>∃ (ks cl:List Nat) (f:Nat->Nat) (at_:Nat) (v8 v9:Option V),σ=[some (.ref a),some (.int Aa),some (.ref p),some (.ref d),some (.ref ll),some (.int (many:Int)),some (.ref c),some (.int (at_:Int)),v8,v9,v10,v11]/\m=2 ^ Ae.length - at_/\Same H Hc/\Hc p=some (.lst ((natI (Ae.map mskN)).map V.int))/\Hc d=some (.dK (kvN ks f))/\Hc c=some (.lst ((natI cl).map V.int))/\A1 Ae Aa many ks f cl at_ 0/\many<ks.length,
   ⟨_,ks,ly,f,0,v8,v9,rfl,rfl,sm2,gp2,gd2,gc,I1,lk⟩,?_⟩
  clear gp2 gd2 gc sm2 I1 lk kl lm;refine fun m σ Hc hI_8=>opq fun G_8 hG_8=>?_;obtain ⟨ks,cl,f,at_,v8,v9,rfl,rfl,sm,gp,gd,gc,I1,lk⟩:=hI_8;refine hG_8 ?_;have lcl:=I1.len;have kl:=I1.fd.len;refine ⟨_,rfl,_,rfl,c,_,rfl,.inl (Ab2 gc),_,_,rfl,rfl,_,rfl,?_⟩;have ecl:(((((natI cl).map V.int).length:Nat):Int))=(cl.length:Int):=by rw [A0,qGZ]
  dsimp only;rw [ecl];refine ite2 (fun ca=>?_) (fun ca=>?_)
  ·have ca':(at_:Int)<(cl.length:Int):=of_decide_eq_true ca;refine qc3 fun W1 hW1=>?_;refine cut fun L1 hL1=>?_;refine ⟨_,rfl,a,_,rfl,.inr (Ac0 (sm _ _ hA)),_,rfl,by rw [lrv];lia,by rw [lrv];lia,qL6 (lo:=0) (n:=((((rs.map V.ref).length:Nat):Int)).toNat) (fun k σ Hc=>∃ (ks cl:List Nat) (f:Nat->Nat) (v8 v9:Option V),σ=[some (.ref a),some (.int Aa),some (.ref p),some (.ref d),some (.ref ll),some (.int (many:Int)),some (.ref c),some (.int (at_:Int)),v8,v9,v10,v11]/\Same H Hc/\Hc p=some (.lst ((natI (Ae.map mskN)).map V.int))/\Hc d=some (.dK (kvN ks f))/\Hc c=some (.lst ((natI cl).map V.int))/\A1 Ae Aa many ks f cl at_ k/\many<ks.length/\at_<cl.length)
    ⟨ks,cl,f,v8,v9,rfl,sm,gp,gd,gc,I1,lk,by lia⟩ ?_ ?_⟩
   ·clear sm gp gd gc I1 lk lcl kl ca ca' ecl;refine fun k σ Hc hk hI_9 Na hNa=>opq fun G_9 hG_9=>?_;obtain ⟨ks,cl,f,v8,v9,rfl,sm,gp,gd,gc,I1,lk,la⟩:=hI_9;refine hG_9 ?_;rw [lrn] at hk;have lcl:=I1.len;have kl:=I1.fd.len;have ec:cl[at_]?=some cl[at_]:=A5 la;generalize cl[at_]=x at ec;have ga:atI ((natI cl).map V.int) (at_:Int)=some (.int (x:Int)):=qG5 (by lia) (by rw [E1,B6,qQS ec];rfl)
    have e0:(0+(k:Int)).toNat=k:=by lia
    refine cut fun L2 hL2=>?_;refine ⟨_,rfl,_,rfl,c,_,_,_,rfl,rfl,Ab2 gc,ga,_,rfl,_,_,rfl,rfl,qZY (by lia) (by lia),_,rfl,_,rfl,c,_,_,_,rfl,rfl,Ab2 gc,ga,_,rfl,_,_,rfl,rfl,(by show (0:Int)<=0+(k:Int);lia),_,_,rfl,rfl,_,_,rfl,rfl,?_,_,_,rfl,rfl,?_⟩
    ·rw [e0,qPN];refine .inr ⟨by lia,?_⟩
     have:=A22 (x / 2 ^ k) (show 0<2 by decide)
     lia
    dsimp only;rw [e0,qaW];refine hL2 _ _ ?_;refine ⟨_,rfl,_,rfl,d,_,rfl,DGet.k (k:=E3 ((clrb x k:Nat):Int)) gd,_,rfl,?_⟩;rw [qP4];by_cases ck:clrb x k ∈ ks
    ·rw [if_pos ck];exact hNa _ _ ⟨ks,cl,f,_,_,rfl,sm,gp,gd,gc,I1.hit ec ck,lk,la⟩
    ·rw [if_neg ck];refine iteT (cut fun L3 hL3=>?_);refine ⟨_,rfl,_,rfl,_,rfl,d,_,rfl,DPut.k (k:=E3 ((clrb x k:Nat):Int)) gd (qBF (by rw [qP5];lia)),?_⟩
     rw [qUC ck];refine hL3 _ _ ?_;have gc1:(Ag Hc d (.dK (kvN (ks++[clrb x k]) (fset f (clrb x k) many)))) c=some (.lst ((natI cl).map V.int)):=by rw [qA9 ndc.symm];exact gc
     refine ⟨_,rfl,.inl ⟨rfl,_,Ab2 gc1⟩,_,rfl,c,_,_,rfl,rfl,gc1,qBF (by rw [A0,qGZ];lia),?_⟩
     refine hNa _ _ ⟨ks++[clrb x k],cl++[clrb x k],fset f (clrb x k) many,_,_,rfl,qAC (qAC sm fdn) fc,by rw [qA9 npc,qA9 npd];exact gp,by rw [qA9 ndc,qA1],?_,I1.add ec hk ck,by rw [B0];lia,by rw [B0];lia⟩
     rw [qA1,qJH,B1]
     rfl
   ·refine fun σ Hc hI_10=>opq fun G_10 hG_10=>?_;obtain ⟨ks,cl,f,v8,v9,rfl,sm,gp,gd,gc,I1,lk,la⟩:=hI_10;refine hG_10 ?_;rw [lrn] at I1;have lcl:=I1.len;refine hL1 _ _ ?_;refine ⟨_,rfl,_,_,rfl,rfl,?_⟩;exact hW1 _ _ ⟨2 ^ Ae.length - (at_+1),by lia,ks,cl,f,at_+1,_,_,rfl,rfl,sm,gp,gd,gc,I1.next,lk⟩
  ·have ca':¬ (at_:Int)<(cl.length:Int):=of_decide_eq_false (E8.mpr ca);refine hM3 _ _ (cut fun M4 hM4=>?_);refine ⟨_,rfl,_,_,rfl,rfl,?_⟩;refine hM4 _ _ (cut fun M5 hM5=>?_);refine ⟨(by show 0<=B28;decide),fun lz hlz=>?_⟩
   have flz:H lz=none:=sm.free hlz;have sz:=qA2 hlz (.lst []);have npz:p ≠ lz:=qA6 gp hlz;have ndz:d ≠ lz:=qA6 gd hlz;have ncz:c ≠ lz:=qA6 gc hlz;have gz:(Ag Hc lz (.lst [])) lz=some (.lst ((natI []).map V.int)):=qA1;have gp1:=sz _ _ gp;have gd1:=sz _ _ gd;have gc1:=sz _ _ gc;have sm1:=sm.trans sz;generalize Ag Hc lz (.lst [])=H5 at gz gp1 gd1 gc1 sm1 ⊢;clear sz hlz gp gd gc sm;refine hM5 _ _ ?_;have J0:=I1.two (by lia)
   refine ⟨_,rfl,c,rfl,⟨_,Ab2 gc1⟩,qUY (a:=c) (xs:=(natI cl).map V.int) (fun i σ Hc=>∃ (ks ly:List Nat) (f:Nat->Nat) (v8 v10 v11:Option V),σ=[some (.ref a),some (.int Aa),some (.ref p),some (.ref d),some (.ref lz),some (.int ((many+1:Nat):Int)),some (.ref c),some (.int (at_:Int)),v8,v9,v10,v11]/\Same H Hc/\Hc p=some (.lst ((natI (Ae.map mskN)).map V.int))/\Hc d=some (.dK (kvN ks f))/\Hc lz=some (.lst ((natI ly).map V.int))/\Hc c=some (.lst ((natI cl).map V.int))/\A2 Ae Aa many ks f cl ly i 0/\many+1+ly.length<=ks.length)
    ⟨ks,[],f,v8,v10,v11,rfl,sm1,gp1,gd1,gz,gc1,J0,by simp;lia⟩ (fun i σ Hc _ hP=>by obtain ⟨_,_,_,_,_,_,_,_,_,_,_,g,_⟩:=hP;exact Ab2 g) ?_ ?_⟩
   ·clear gp1 gd1 gc1 gz sm1 J0 I1 lk kl;refine fun i x0 σ Hc hx hI_11 Nb hNb=>opq fun G_11 hG_11=>?_;obtain ⟨ks,ly,f,v8,v10,v11,rfl,sm,gp,gd,gz,gc,J,lk⟩:=hI_11;obtain ⟨z,ez,rfl⟩:=qAX hx;obtain ⟨x,ec,rfl⟩:=qa6 ez;refine hG_11 ?_;refine ⟨_,rfl,a,_,rfl,.inr (Ac0 (sm _ _ hA)),_,rfl,by rw [lrv];lia,by rw [lrv];lia,fun p2 hp2=>?_⟩
    refine qDK (p:=p2) (lo:=0) (n:=((((rs.map V.ref).length:Nat):Int)).toNat) (fun k σ Hd=>∃ (v:Option V),σ=[v,some (.int (x:Int))]/\Same Hc Hd/\Hd p2=some (.lst ((((G2 k).map fun k=>((x / 2 ^ k % 2:Nat):Int))).map V.int))) ?_ ?_ ?_
    ·exact ⟨none,rfl,qA2 hp2 _,qA1⟩
    ·refine fun k σ Hd hk hI_12=>opq fun G_12 hG_12=>?_;obtain ⟨v,rfl,sd,hpd⟩:=hI_12;refine hG_12 ?_;rw [lrn] at hk;have e0:(0+(k:Int)).toNat=k:=by lia
     refine ⟨_,rfl,_,rfl,_,_,rfl,rfl,(by show (0:Int)<=0+(k:Int);lia),_,_,rfl,rfl,_,hpd,qAF (by rw [A0,A0,A71];lia),_,rfl,qAC sd hp2,?_⟩
     dsimp only;rw [qA1,e0,qPN,A21,B1,B1]
     rfl
    ·refine fun σ Hd hI_13=>opq fun G_13 hG_13=>?_;obtain ⟨v,rfl,sd,hpd⟩:=hI_13;refine hG_13 ?_;rw [lrn] at hpd;refine ⟨p2,_,rfl,Ab2 hpd,_,rfl,_,_,rfl,rfl,_,rfl,?_⟩;dsimp only;rw [qR9];have gp1:=sd _ _ gp;have gd1:=sd _ _ gd;have gz1:=sd _ _ gz;have gc1:=sd _ _ gc;have sm1:=sm.trans sd;clear gp gd gz gc sm hpd sd hp2;refine ite2 (fun cr=>?_) (fun cr=>?_)
     ·have cr':(cntN Ae.length x:Int)<Aa:=of_decide_eq_true cr;refine ⟨_,rfl,a,_,rfl,.inr (Ac0 (sm1 _ _ hA)),_,rfl,by rw [lrv];lia,by rw [lrv];lia,qL6 (lo:=0) (n:=((((rs.map V.ref).length:Nat):Int)).toNat) (fun k σ Hc=>∃ (ks ly:List Nat) (f:Nat->Nat) (v8 v11:Option V),σ=[some (.ref a),some (.int Aa),some (.ref p),some (.ref d),some (.ref lz),some (.int ((many+1:Nat):Int)),some (.ref c),some (.int (at_:Int)),v8,v9,some (.int (x:Int)),v11]/\Same H Hc/\Hc p=some (.lst ((natI (Ae.map mskN)).map V.int))/\Hc d=some (.dK (kvN ks f))/\Hc lz=some (.lst ((natI ly).map V.int))/\Hc c=some (.lst ((natI cl).map V.int))/\A2 Ae Aa many ks f cl ly i k/\many+1+ly.length<=ks.length)
       ⟨ks,ly,f,v8,v11,rfl,sm1,gp1,gd1,gz1,gc1,J,lk⟩ ?_ ?_⟩
      ·clear gp1 gd1 gz1 gc1 sm1 J lk;refine fun k σ Hc hk hI_14 Nc hNc=>opq fun G_14 hG_14=>?_;obtain ⟨ks,ly,f,v8,v11,rfl,sm,gp,gd,gz,gc,J,lk⟩:=hI_14;refine hG_14 ?_;rw [lrn] at hk;have kl:=J.fd.len;have e0:(0+(k:Int)).toNat=k:=by lia
       have hzn:=A5 hk;have gm:atI ((natI (Ae.map mskN)).map V.int) (0+(k:Int))=some (.int ((nxt Ae k:Nat):Int)):=qG5 (by lia) (by
        rw [e0,B6,qQS (b:=nxt Ae k) (by rw [B6,hzn];unfold nxt;rw [hzn];rfl)]
        rfl)
       refine cut fun L1 hL1=>?_;refine ⟨_,rfl,_,rfl,_,_,rfl,rfl,qZY (by lia) (by lia),_,_,rfl,rfl,?_⟩
       dsimp only;rw [e0,qOP,qVX];refine hL1 _ _ ?_;refine ⟨_,rfl,_,rfl,_,rfl,p,_,_,_,rfl,rfl,Ab2 gp,gm,_,_,rfl,rfl,_,rfl,_,rfl,p,_,_,_,rfl,rfl,Ab2 gp,gm,rfl,_,rfl,?_⟩;dsimp only;have dec:decide (V.int (T9 (x:Int) ((nxt Ae k:Nat):Int))=V.int ((nxt Ae k:Nat):Int))=decide (x &&& nxt Ae k=nxt Ae k):=decide_eq_decide.mpr ⟨fun z=>by have:=V.int.inj z;rw [qE0] at this;lia,fun z=>by rw [qE0,z]⟩
       rw [dec];by_cases cm:x &&& nxt Ae k=nxt Ae k
       ·rw [decide_eq_true cm];have cn:can Ae Aa x k:=⟨cr',hk,cm⟩;refine ⟨_,rfl,_,rfl,d,_,rfl,DGet.k (k:=E3 ((x ||| 2 ^ k:Nat):Int)) gd,_,rfl,?_⟩;rw [qP4];by_cases ck:x ||| 2 ^ k ∈ ks
        ·rw [if_pos ck];exact hNc _ _ ⟨ks,ly,f,_,_,rfl,sm,gp,gd,gz,gc,J.hit ec fun _=>ck,lk⟩
        ·rw [if_neg ck];refine iteT (cut fun L3 hL3=>?_);refine ⟨_,rfl,_,rfl,_,rfl,d,_,rfl,DPut.k (k:=E3 ((x ||| 2 ^ k:Nat):Int)) gd (qBF (by rw [qP5];lia)),?_⟩
         rw [qUC ck];refine hL3 _ _ ?_;have gz1:(Ag Hc d (.dK (kvN (ks++[x ||| 2 ^ k]) (fset f (x ||| 2 ^ k) (many+1))))) lz=some (.lst ((natI ly).map V.int)):=by rw [qA9 ndz.symm];exact gz
         refine ⟨_,rfl,.inl ⟨rfl,_,Ab2 gz1⟩,_,rfl,lz,_,_,rfl,rfl,gz1,qBF (by rw [A0,qGZ];lia),?_⟩
         refine hNc _ _ ⟨ks++[x ||| 2 ^ k],ly++[x ||| 2 ^ k],fset f (x ||| 2 ^ k) (many+1),_,_,rfl,qAC (qAC sm fdn) flz,by rw [qA9 npz,qA9 npd];exact gp,by rw [qA9 ndz,qA1],?_,by rw [qA9 ncz,qA9 ndc.symm];exact gc,J.add ec cn ck,by rw [B0,B0,B9];lia⟩
         rw [qA1,qJH,B1]
         rfl
       ·rw [decide_eq_false cm];exact hNc _ _ ⟨ks,ly,f,_,_,rfl,sm,gp,gd,gz,gc,J.hit ec fun c=>absurd c.2.2 cm,lk⟩
      ·refine fun σ Hc hI_15=>opq fun G_15 hG_15=>?_;obtain ⟨ks,ly,f,v8,v11,rfl,sm,gp,gd,gz,gc,J,lk⟩:=hI_15;refine hG_15 ?_;rw [lrn] at J;exact hNb _ _ ⟨ks,ly,f,_,_,_,rfl,sm,gp,gd,gz,gc,J.next,lk⟩
     ·have cr':¬ (cntN Ae.length x:Int)<Aa:=of_decide_eq_false (E8.mpr cr);exact hNb _ _ ⟨ks,ly,f,_,_,_,rfl,sm1,gp1,gd1,gz1,gc1,J.skip ec cr',lk⟩
   ·refine fun σ Hc hI_16=>opq fun G_16 hG_16=>?_;obtain ⟨ks,ly,f,v8,v10,v11,rfl,sm,gp,gd,gz,gc,J,lk⟩:=hI_16;refine hG_16 ?_;have kl:=J.fd.len;rw [A0,qGZ] at J;refine hW0 _ _ ⟨2 ^ Ae.length+1 - (many+1),by lia,ks,ly,f,many+1,lz,_,_,_,_,_,_,rfl,rfl,sm,gp,gd,gz,J.one (A6 _),fun hne=>?_⟩
    have:=o5.mpr hne
    lia
 ·have le:ly=[]:=by
   cases ly with
   | nil=>rfl
   | cons x xs=>exact absurd rfl cn
  subst le;refine hN5 _ _ ?_;refine ⟨_,rfl,d,_,rfl,gd1,fun o=>?_⟩;exact q d o ks f _ (qAC sm1 fdn) fdn qA1 I1.come
def prs (ws:List Int) (i:Nat):List (Int × V):=(G2 i).map fun (j:Nat)=>((ws[j]?).getD 0,V.int (j:Int))
theorem qQH {ws:List Int} {i:Nat} {y:Int} (h:ws[i]?=some y):prs ws (i+1)=prs ws i++[(y,V.int (i:Int))]:=by
 unfold prs;rw [A21,B1,t6,h]
 rfl
theorem qTG {ws:List Int} (nd:ws.Nodup) (x:Int):∀ i,i<=ws.length->valV (qCR [] (prs ws i)) (E3 x)=(qC7 (ws.take i) x).map V.int
 | 0,_=>by simp [prs,qCR,valV,qC7]
 | i+1,h=>by
  have e:=A5 (show i<ws.length by lia)
  generalize ws[i]=y at e;rw [qQH e,qKT nd e x];unfold qCR;rw [A65];show valV (putK (qCR [] (prs ws i)) (E3 y) (V.int (i:Int))) (E3 x)=_;rw [qGO,qTG nd x i (by lia)]
  by_cases c:x=y
  ·rw [c,if_pos rfl,if_pos rfl];rfl
  ·rw [if_neg fun z=>c (i0 z),if_neg c]
theorem qaK {zs:List Int} {g:Int->Option Int} {j:Nat} {z:Int} (h:zs[j]?=some z):(zs.take (j+1)).filterMap g=(zs.take j).filterMap g++(g z).toList:=by
 rw [C8,h,C9,X5];cases e:g z <;> simp [e]
theorem sc_Lpart:FnScope ["_law_net_here","_law_works","_law_number"] ["_law_net_here","_law_works"] (qAB qLS):=qBL
theorem ok_Lpart (F:Fun K "_law_part" "_law_part" qLS f fd) (qSV:mg "dict" = none) (qBO:mg "enumerate" = none) (qAK:mg "tuple" = none):FnOk P w K mg base CX0 1 f fd ["_law_net_here","_law_works"] qOE:=by
 refine F.okA sc_Lpart fun cdv A outer s H vs Q E hr h=>?_;obtain ⟨o,a,l,Ae,ws,rfl,hN,wf,n60,hL,rW,q⟩:=h;have hu:=qHO hr;refine ⟨_,(qA4 (qAM (i:=2) sc_Lpart.nd rfl (l7 rfl) (qAG (qSL rfl) rfl qSV qVV (qA0 (qCB rfl (lcs (own:=["_law_place","_law_work"]) (fv:=[]) (by kernel_rfl)) (qWZ rfl qBO qCT (qA0 (pv 1) qA3)) (fun z1=>qHK (K:=K) (n:=2) rfl rfl (qB8 (qBG 0) (qB8 (qBG 1) qE8)) rfl rfl) (fun z1=>qAZ) (fun z1=>(qCH (qA0 (pv 1) (qA0 (pv 0) qA3))))) qA3))) (qA5 (qAE (qAG qAL rfl qAK qAO (qA0 (qCB rfl (lcs (own:=["_law_work"]) (fv:=[0,2]) (by kernel_rfl)) (qYM (pv 1)) (fun z2=>qBG 0) (fun z2=>qAZ) (fun z2=>(qAG (qGK (K:=K) rfl) rfl qAK qAO (qA0 (qCB (X:=lcCx _ _ _ _ z2) rfl (lcs (own:=["_law_need"]) (fv:=[2]) (by kernel_rfl)) (qOR (K:=K) rfl (qBA (qJN (K:=K) rfl) (pv 1) (pv 0) (fun _ _=>rfl))) (fun z3=>qBG 0) (fun z3=>(qD5 (qDI (qQK hu (pv 0) (pv 1))))) (fun z3=>(qF4 hu (pv 1) (pv 0) (fun _ _=>rfl)))) qA3)))) qA3))))),?_⟩
 try dsimp only [Cx.nox,Cx.wish,cxOf]
 obtain ⟨rs,hA,NL⟩:=id hN;have lw:=rW.len;refine cut fun N1 hN1=>?_;refine ⟨_,rfl,o,l,rfl,⟨_,sqo hL⟩,fun p hp=>?_⟩;refine qXC (b:=o) (p:=p) (a:=l) (xs:=ws.map V.int) (fun i σ Hc=>∃ (v0 v1:Option V) (qs:List Addr),σ=[v0,v1]/\Same H Hc/\Hc p=some (.lst (qs.map V.ref))/\Paired (fun r (z:Int × V)=>Hc r=some (.tup [.int z.1,z.2])) qs (prs ws i)) ?_ ?_ ?_ ?_
 ·exact ⟨none,none,[],rfl,qA2 hp _,qA1,.nil⟩
 ·refine fun i σ Hc hi hI_1=>opq fun G_1 hG_1=>?_;obtain ⟨v0,v1,qs,rfl,sm,_⟩:=hI_1;refine hG_1 ?_;exact sqo (hL.same sm)
 ·refine fun i x σ Hc T hx hI_2 hT=>opq fun G_2 hG_2=>?_;obtain ⟨v0,v1,qs,rfl,sm,hpc,PQ⟩:=hI_2;obtain ⟨y,ey,rfl⟩:=qAX hx;refine hG_2 ?_;have hi:=(A4.mp ey).1;have lQ:qs.length=i:=by have:=B7 PQ;rw [this];simp [prs]
  have sT:=qA2 hT (.tup [.int (i:Int),.int y]);refine ⟨T,_,rfl,Ac0 qA1,rfl,_,_,rfl,_,_,rfl,rfl,?_⟩;refine ⟨_,rfl,_,rfl,(by show 2<=B28;decide),fun r hr1=>?_⟩
  have s2:=sT.trans (qA2 hr1 (.tup [.int y,.int (i:Int)]));have g2:=s2 _ _ hpc;refine ⟨_,g2,qAF (by rw [A0];lia),?_⟩
  rw [qBJ];refine ⟨_,_,qs++[r],rfl,qAC (sm.trans s2) hp,qA1,?_⟩;rw [qQH ey];refine Z2 (qKU PQ fun r' z' e=>?_) ?_
  ·have e2:=s2 _ _ e;rw [qA9 (qCF e2 g2 (fun z=>nomatch z))];exact e2
  ·rw [qA9 (qA6 (sT _ _ hpc) hr1).symm];exact qA1
 refine fun σ Hc hI_3=>opq fun G_3 hG_3=>?_;obtain ⟨v0,v1,qs,rfl,sm,hpc,PQ⟩:=hI_3;refine hG_3 ?_;rw [A0] at PQ;have pp:∀ {qs:List Addr} {zs:List (Int × V)},Paired (fun r (z:Int × V)=>Hc r=some (.tup [.int z.1,z.2])) qs zs->qQM Hc K qs zs:=by
  intro qs zs h
  induction h with
  | nil=>exact .nil
  | cons h t ih=>exact .cons (Ac0 h) ih
 refine ⟨p,qs,prs ws ws.length,rfl,Ab2 hpc,pp PQ,fun d hd=>?_⟩;have sd:=sm.trans (qA2 hd (.dK (qCR [] (prs ws ws.length))));have gd:(Ag Hc d (.dK (qCR [] (prs ws ws.length)))) d=some (.dK (qCR [] (prs ws ws.length))):=qA1;have vd:∀ x,valV (qCR [] (prs ws ws.length)) (E3 x)=(qC7 ws x).map V.int:=fun x=>by rw [qTG rW.nodup x _ (A6 _),qB7 rfl]
 generalize Ag Hc d (.dK (qCR [] (prs ws ws.length)))=H1 at sd gd ⊢;generalize qCR [] (prs ws ws.length)=Af at gd vd;refine hN1 _ _ ?_;refine ⟨_,rfl,o,l,rfl,⟨_,sqo (hL.same sd)⟩,fun p1 hp1=>?_⟩;refine qYU (b:=o) (p:=p1) (a:=l) (xs:=ws.map V.int) (fun i σ Hc=>∃ (v0:Option V) (qs:List Addr),σ=[v0,some (.ref a),some (.ref d)]/\Same H1 Hc/\Hc p1=some (.lst (qs.map V.ref))/\NetL Hc qs ((ws.take i).map fun w=>((Ae[w.toNat]?).getD []).filterMap (qC7 ws))) ?_ ?_ ?_ ?_
 ·exact ⟨none,[],rfl,qA2 hp1 _,qA1,.nil⟩
 ·refine fun i σ Hc hi hI_4=>opq fun G_4 hG_4=>?_;obtain ⟨v0,qs,rfl,sm,_⟩:=hI_4;refine hG_4 ?_;exact sqo ((hL.same sd).same sm)
 ·refine fun i x σ Hc hx hI_5=>opq fun G_5 hG_5=>?_;obtain ⟨v0,qs,rfl,sm,hpc,NQ⟩:=hI_5;obtain ⟨y,ey,rfl⟩:=qAX hx;refine hG_5 ?_;have hi:=(A4.mp ey).1;have lQ:qs.length<=i:=by have:=B7 NQ;rw [this,A0,C5];lia
  have yb:=rW.in_ y (B5 ey);have hy:y.toNat<Ae.length:=by lia
  have hz:=A5 hy;obtain ⟨r,h3,h4⟩:=NL.get hz;have rz:=wf y.toNat _ hz;generalize Ae[y.toNat]=zs at h4 hz rz;have lz:=rz.len;have hA1:=sm _ _ (sd _ _ hA);have h41:=sm _ _ (sd _ _ h4);refine ⟨_,rfl,_,rfl,a,_,_,_,rfl,rfl,Ac0 hA1,qG5 yb.1 (by rw [B6,h3];rfl),r,rfl,⟨_,Ac0 h41⟩,fun p2 hp2=>?_⟩
  refine qER (p:=p2) (a:=r) (xs:=zs.map V.int) (fun j σ Hd=>∃ (v:Option V),σ=[v,some (.ref d)]/\Same Hc Hd/\Hd p2=some (.lst (((zs.take j).filterMap (qC7 ws)).map V.int))) ?_ ?_ ?_ ?_
  ·exact ⟨none,rfl,qA2 hp2 _,qA1⟩
  ·rintro j σ Hd hj ⟨v,rfl,se,_⟩;exact Ac0 (se _ _ h41)
  ·refine fun j x σ Hd hx hI_7=>opq fun G_7 hG_7=>?_;obtain ⟨v,rfl,se,hpe⟩:=hI_7;obtain ⟨z,ez,rfl⟩:=qAX hx;refine hG_7 ?_;have hj:=(A4.mp ez).1;have gdd:=se _ _ (sm _ _ gd);have lf:((zs.take j).filterMap (qC7 ws)).length<=j:=F6 (P0 _ _) (by rw [C5];lia)
   refine ⟨_,rfl,_,rfl,d,_,rfl,DGet.k (k:=E3 z) gdd,_,rfl,?_⟩;rw [vd z,qaK ez];cases e:qC7 ws z with
   | none=>
    refine ⟨_,rfl,se,?_⟩;simpa using hpe
   | some v=>
    have hg:=DGet.k (k:=E3 z) gdd;rw [vd z,e] at hg;refine ⟨_,rfl,_,rfl,d,_,rfl,hg,_,hpe,qAF (by rw [A0];lia),_,rfl,qAC se hp2,?_⟩
    rw [qA1,B1]
    rfl
  ·refine fun σ Hd hI_8=>opq fun G_8 hG_8=>?_;obtain ⟨v,rfl,se,hpe⟩:=hI_8;refine hG_8 ?_;rw [A0,qB7 rfl] at hpe;refine ⟨p2,_,rfl,.inl ⟨Ab2 hpe,fun tq htq=>?_⟩⟩;have sq:=se.trans (qA2 htq (.tup ((zs.filterMap (qC7 ws)).map V.int)));have g1:=sq _ _ hpc;refine ⟨_,g1,qAF (by rw [A0];lia),?_⟩
   rw [qBJ];refine ⟨_,qs++[tq],rfl,qAC (sm.trans sq) hp1,qA1,?_⟩;have e7:((ws.take (i+1)).map fun w=>((Ae[w.toNat]?).getD []).filterMap (qC7 ws))=((ws.take i).map fun w=>((Ae[w.toNat]?).getD []).filterMap (qC7 ws))++[zs.filterMap (qC7 ws)]:=by
    rw [C8,ey,C9,B1,t6,hz,Z0]
   rw [e7];exact qDJ (qCO (NQ.same fun r' ys e=>sq _ _ e) qA1) g1
 ·refine fun σ Hc hI_9=>opq fun G_9 hG_9=>?_;obtain ⟨v0,qs,rfl,sm,hpc,NQ⟩:=hI_9;refine hG_9 ?_;rw [A0,qB7 rfl] at NQ;refine ⟨p1,_,rfl,.inl ⟨Ab2 hpc,fun b hb=>?_⟩⟩;have sb:=qA2 hb (.tup (qs.map V.ref));exact q b _ (sd.trans (sm.trans sb)) ⟨qs,qA1,NQ.same fun r ys e=>sb _ _ e⟩
theorem qWO:FnScope ["_law_works"] ["_law_works"] (qAB qLU):=qBL
theorem ok_Lbits (F:Fun K "_law_bits" "_law_bits" qLU f fd) (qWG:mg "sum" = none):FnOk P w K mg base CX0 1 f fd ["_law_works"] qYF:=by
 refine F.okA qWO fun cdv A outer s H vs Q E hr h=>?_;obtain ⟨l,ws,rfl,hL,inw,lw,q⟩:=h;refine ⟨_,(qA5 (qAE (qA7 (qMJ rfl) rfl qWG qVS (qA0 (qCB rfl (lcs (own:=["_law_work"]) (fv:=[]) (by kernel_rfl)) (qCA (pv 0)) (fun z4=>qBG 0) (fun z4=>qAZ) (fun z4=>(qAP qQO qA8 (pv 0)))) qA3)))),?_⟩
 try dsimp only [Cx.nox,Cx.wish,cxOf]
 refine ⟨_,rfl,l,rfl,⟨_,Ab2 hL⟩,fun p hp=>?_⟩;refine qE9 (p:=p) (a:=l) (xs:=ws.map V.int) (fun i σ He=>∃ (v:Option V),σ=[v]/\Same H He/\He p=some (.lst (((ws.take i).map fun z=>(1:Int) * 2 ^ z.toNat).map V.int))) ?_ ?_ ?_ ?_
 ·exact ⟨none,rfl,qA2 hp _,qA1⟩
 ·rintro i σ He hi ⟨v,rfl,se,_⟩;exact Ab2 (se _ _ hL)
 ·refine fun i x σ He hx hI_11=>opq fun G_11 hG_11=>?_;obtain ⟨v,rfl,se,hpe⟩:=hI_11;obtain ⟨z,ez,rfl⟩:=qAX hx;refine hG_11 ?_;have hi:=(A4.mp ez).1;have zb:=inw z (B5 ez);refine ⟨_,rfl,_,_,rfl,rfl,⟨zb.1,by lia,by decide⟩,_,hpe,qAF (by rw [A0,A0,C5];lia),_,rfl,qAC se hp,?_⟩
  rw [qA1,C8,ez,C9,B1,B1]
  rfl
 ·refine fun σ He hI_12=>opq fun G_12 hG_12=>?_;obtain ⟨v,rfl,se,hpe⟩:=hI_12;refine hG_12 ?_;rw [A0,qB7 rfl] at hpe;refine ⟨p,_,rfl,Ab2 hpe,?_⟩;rw [qOW];exact q He se
theorem sc_Ldone_in:FnScope ["_law_net_here","_law_asked_here","_law_rooms","_law_works","_law_want"] ["_law_net_here","_law_asked_here","_law_rooms"] (qAB qFQ):=qBL
theorem ok_Ldone_in (F:Fun K "_law_done_in" "_law_done_in" qFQ f fd) (qO9:Clb P w K mg base 1 qK0 qSF "_law_needed" ["_law_net_here","_law_asked_here"] qQ2) (qWA:Clb P w K mg base 1 qPF qXX "_law_bits" ["_law_works"] qYF) (qMO:Clb P w K mg base 1 qMA qR3 "_law_part" ["_law_net_here","_law_works"] qOE) (qW9:Clb P w K mg base 1 qPE qXW "_law_come" ["_law_net_here","_law_rooms"] qYE) (qBO:mg "enumerate" = none) (qZE:mg "any" = none):FnOk P w K mg base CX0 2 f fd ["_law_net_here","_law_asked_here","_law_rooms"] qQ5:=by
 refine F.okA sc_Ldone_in fun cdv A outer s H vs Q E hr h=>?_;obtain ⟨a,t,Ae,Ad,ws,Aa,rfl,hN,wf,n12,⟨hT,rA⟩,ND,q⟩:=h;refine ⟨_,(qA4 (qAM (i:=3) sc_Ldone_in.nd rfl (E9 rfl) (qAV qO9 hr rfl (qA0 (pv 0) (qA0 (pv 1) qA3)))) (qA4 (qAM (i:=4) sc_Ldone_in.nd rfl (l7 rfl) (qAV qWA hr rfl (qA0 (qCB rfl (lcs (own:=["_law_place","_law_work"]) (fv:=[1]) (by kernel_rfl)) (qTM rfl qBO qCT (qA0 (pv 3) qA3)) (fun z5=>qHK (K:=K) (n:=2) rfl rfl (qB8 (qBG 0) (qB8 (qBG 1) qE8)) rfl rfl) (fun z5=>(qD5 (qAN (qKV (K:=K) rfl) (pv 1) (pv 2) (by with_unfolding_all rfl)))) (fun z5=>(pv 0))) qA3))) (qA5 (qAE (qA7 (qRA rfl) rfl qZE qZ7 (qA0 (qCB rfl (lcs (own:=["_law_bits_here"]) (fv:=[4]) (by kernel_rfl)) (qX0 (qAV qW9 hr rfl (qA0 (qAV qMO hr rfl (qA0 (pv 0) (qA0 (pv 3) qA3))) (qA0 (pv 2) qA3)))) (fun z6=>qBG 0) (fun z6=>qAZ) (fun z6=>(qCC qGA (qAP qQP (pv 0) (pv 1)) (pv 1) (qAS _)))) qA3)))))),?_⟩
 try dsimp only [Cx.nox,Cx.wish,cxOf]
 have rW:=ND.1;have lw:=rW.len;refine cut fun N1 hN1=>?_;refine ⟨_,rfl,_,rfl,a,t,Ae,Ad,rfl,hN,wf,by lia,⟨hT,rA⟩,fun l zs H1 sm1 fl gl nd=>?_⟩
 have ezw:zs=ws:=qKZ nd ND;subst ezw;refine hN1 _ _ (cut fun N2 hN2=>?_);refine ⟨_,rfl,l,rfl,⟨_,Ab2 gl⟩,fun p hp=>?_⟩;refine qP3 (p:=p) (a:=l) (xs:=zs.map V.int) (fun i σ Hc=>∃ (v0 v1:Option V),σ=[v0,v1,some (.ref t)]/\Same H1 Hc/\Hc p=some (.lst ((((qBM 0 zs.length).take i).filter fun p=>decide ((zs[p.toNat]?).getD 0 ∈ Ad)).map V.int))) ?_ ?_ ?_ ?_
 ·exact ⟨none,none,rfl,qA2 hp _,qA1⟩
 ·rintro i σ Hc hi ⟨v0,v1,rfl,sm,_⟩;exact Ab2 (sm _ _ gl)
 ·refine fun i x σ Hc T hx hI_14 hT2=>opq fun G_14 hG_14=>?_;obtain ⟨v0,v1,rfl,sm,hpc⟩:=hI_14;obtain ⟨y,ey,rfl⟩:=qAX hx;refine hG_14 ?_;have hi:=(A4.mp ey).1;have sT:=qA2 hT2 (.tup [.int (i:Int),.int y]);have smT:=sm.trans sT;have hpT:=sT _ _ hpc;have lk:=qBZ (p:=fun p=>decide ((zs[p.toNat]?).getD 0 ∈ Ad)) (l:=qBM 0 zs.length) (i:=i);refine ⟨T,_,rfl,Ac0 qA1,rfl,_,_,rfl,_,_,rfl,rfl,?_⟩;refine ⟨_,rfl,_,rfl,t,_,rfl,.inr (Ac0 (smT _ _ (sm1 _ _ hT))),rfl,qBY Ad,_,rfl,?_⟩;rw [qDN,qCK (qG9 (by lia))]
  have ez:(zs[((i:Int)).toNat]?).getD 0=y:=by rw [E1,ey];rfl
  rw [ez];by_cases hw:y ∈ Ad
  ·rw [decide_eq_true hw];refine ⟨_,rfl,_,hpT,qAF (by rw [A0];lia),_,_,rfl,qAC smT hp,?_⟩
   rw [qA1,if_pos rfl,B1]
   rfl
  ·rw [decide_eq_false hw];refine ⟨_,_,rfl,smT,?_⟩;simpa using hpT
 ·refine fun σ Hc hI_15=>opq fun G_15 hG_15=>?_;obtain ⟨v0,v1,rfl,sm,hpc⟩:=hI_15;refine hG_15 ?_;rw [A0,qB7 (by rw [qDT];lia)] at hpc
  have lf:((qBM 0 zs.length).filter fun p=>decide ((zs[p.toNat]?).getD 0 ∈ Ad)).length<=zs.length:=qSC;refine ⟨p,_,rfl,hpc,fun x hx=>?_,by lia,fun H2 sm2=>?_⟩
  ·have:=mem_rangeI.mp (E6.mp hx).1
   lia
  show N2 [some (.ref a),some (.ref t),some (.int Aa),some (.ref l),some (.int ((qOB zs Ad:Nat):Int))] H2;have s2:=sm.trans sm2;generalize hwn:qOB zs Ad=want;refine hN2 _ _ ?_;refine ⟨_,rfl,_,rfl,false,a,l,Ae,zs,rfl,hN.same (sm1.trans s2),wf,by lia,.inl (s2 _ _ gl),rW,fun b H3 sm3 hP=>?_⟩
  have lp:(qCJ Ae zs).length<=12:=by rw [qBX];lia
  refine ⟨_,rfl,b,qCJ Ae zs,Aa,rfl,hP,qDV wf rW,lp,fun d o ks g H4 sm4 fd4 gd C=>?_⟩;refine ⟨d,o,kvN ks g,rfl,gd,fun p1 hp1=>?_⟩;refine qXE (p:=p1) (a:=d) (o:=o) (Af:=kvN ks g) (fun i σ Hc=>∃ (v:Option V),σ=[v,some (.int (want:Int))]/\Same H4 Hc/\Hc p1=some (.lst (((ks.take i).map fun b=>decide (b &&& want=want)).map V.bl))) ?_ ?_ ?_ ?_
  ·exact ⟨none,rfl,qA2 hp1 _,qA1⟩
  ·refine fun i σ Hd hi hI_16=>opq fun G_16 hG_16=>?_;obtain ⟨v,rfl,sd,_⟩:=hI_16;refine hG_16 ?_;exact sd _ _ gd
  ·refine fun i k v1 σ Hd hk hI_17=>opq fun G_17 hG_17=>?_;obtain ⟨v,rfl,sd,hpd⟩:=hI_17;refine hG_17 ?_;unfold kvN at hk;rw [B6] at hk;cases e:ks[i]? with
   | none=>rw [e] at hk;cases hk
   | some x=>
    rw [e] at hk;cases hk;have kl:ks.length<=2 ^ (qCJ Ae zs).length:=qE1 C.nd fun b hb=>(C.snd b hb).1.lt;have k2:2 ^ (qCJ Ae zs).length<=2 ^ 12:=Y2 (by decide) lp
    have hi:=(A4.mp e).1;refine ⟨_,rfl,_,rfl,_,_,rfl,rfl,_,rfl,rfl,_,hpd,qBF (by rw [A0,A0,C5];lia),_,rfl,qAC sd hp1,?_⟩
    dsimp only;have dec:decide (V.int (T9 (x:Int) (want:Int))=V.int (want:Int))=decide (x &&& want=want):=decide_eq_decide.mpr ⟨fun z=>by have:=V.int.inj z;rw [qE0] at this;lia,fun z=>by rw [qE0,z]⟩
    rw [dec,qA1,C8,e,C9,B1,B1]
    rfl
  ·refine fun σ Hd hI_18=>opq fun G_18 hG_18=>?_;obtain ⟨v,rfl,sd,hpd⟩:=hI_18;refine hG_18 ?_;rw [qP5,qB7 rfl] at hpd;refine ⟨p1,_,rfl,Ab2 hpd,?_⟩;refine q _ Hd (sm1.trans (s2.trans (sm3.trans (sm4.trans sd)))) ?_;rw [k7];unfold DoneIn;rw [hwn]
   constructor
   ·refine fun hI_19=>opq fun G_19 hG_19=>?_;obtain ⟨b,hb,eb⟩:=hI_19;obtain ⟨x,hx,rfl⟩:=D5.mp hb;refine hG_19 ?_;exact ⟨g x,x,(C.snd x hx).1,of_decide_eq_true eb⟩
   ·refine fun hI_20=>opq fun G_20 hG_20=>?_;obtain ⟨m,x,r,hx⟩:=hI_20;refine hG_20 ?_;exact ⟨_,D5.mpr ⟨x,C.all m x r,rfl⟩,decide_eq_true hx⟩
theorem sc_Lleast:FnScope ["_law_net_here","_law_asked_here","_law_rooms"] ["_law_net_here","_law_asked_here"] (qAB qIM):=qBL
theorem ok_Lleast (F:Fun K "_law_least" "_law_least" qIM f fd) (qLH:Clb P w K mg base 2 qHU qPC "_law_done_in" ["_law_net_here","_law_asked_here","_law_rooms"] qQ5):FnOk P w K mg base CX0 3 f fd ["_law_net_here","_law_asked_here"] qQ3:=by
 refine F.okA sc_Lleast fun cdv A outer s H vs Q E hr h=>?_;obtain ⟨a,t,Ae,Ad,ws,r,rfl,hN,wf,n12,AT,ND,LR,q⟩:=h;refine ⟨_,(qA4 (qAM (i:=2) sc_Lleast.nd rfl (E9 rfl) qA8) (qA4 (qIP D3 (qCG (qBQ (qAV qLH hr rfl (qA0 (pv 0) (qA0 (pv 1) (qA0 (pv 2) qA3)))))) (qA5 (qAM (i:=2) sc_Lleast.nd rfl (E9 rfl) (qAP qD6 (pv 2) qA8)))) (qA5 (qAE (pv 2))))),?_⟩
 try dsimp only [Cx.nox,Cx.wish,cxOf]
 refine cut fun N1 hN1=>hN1 _ _ (cut fun N2 hN2=>?_);refine ⟨fun m σ Hc=>∃ (k:Int),σ=[some (.ref a),some (.ref t),some (.int k)]/\m=(r - k).toNat/\Same H Hc/\1<=k/\k<=r,⟨_,1,rfl,rfl,Same.refl H,by lia,LR.1⟩,?_⟩
 refine fun m σ Hc hI_21=>opq fun G_21 hG_21=>?_;obtain ⟨k,rfl,rfl,sm,k1,k2⟩:=hI_21;refine hG_21 ?_;refine ⟨_,rfl,_,rfl,_,rfl,a,t,Ae,Ad,ws,k,rfl,hN.same sm,wf,n12,⟨sm _ _ AT.1,AT.2⟩,ND,fun b H1 sm1 hb=>?_⟩;refine ⟨b,rfl,?_⟩;cases b with
 | true=>
  have e:k=r:=by
   have h1:=hb.mp rfl;apply O7;intro z;exact LR.2.2 k k1 (by lia) h1
  subst e;exact hN2 _ _ ⟨_,rfl,q H1 (sm.trans sm1)⟩
 | false=>
  have e:k<r:=by
   apply O7;intro z;have:k=r:=by lia
   subst this;cases hb.mpr LR.2.1
  refine ⟨fun σ' H'=>∃ m',m'<(r - k).toNat/\_,fun σ' H' z=>z,?_⟩;refine ⟨_,rfl,_,_,rfl,rfl,?_⟩;exact ⟨(r - (k+1)).toNat,by lia,k+1,rfl,rfl,sm.trans sm1,by lia,by lia⟩
theorem sc_stands_reached:FnScope ["net","rooms","reached","due","later","stand","move","further","steps"] ["net","rooms"] (qAB qAJ):=qBL
theorem ok_stands_reached (F:Fun K "stands_reached" "stands_reached" qAJ f fd) (qG2:Clb P w K mg base 3 qG0 qJX "moves_of" ["net","rooms","stand"] qJ1) (qCQ:Clb P w K mg base 1 qCP qFA "stand_behind" ["stand","move"] qEZ):FnOk P w K mg base CX0 4 f fd ["net","rooms"] qPY:=by
 refine F.okA sc_stands_reached fun cdv A outer s H vs Q E hr h=>?_;obtain ⟨a,Ae,Aa,rfl,hN,wf,n12,q⟩:=h;have hu:=qHO hr;have qaG:Room 3 _:=hr;have key:qBB qAJ=[.Assign [.Name "reached" ⟨67,4,67,11⟩] (.Dict [some (kOf ((qBB qAJ).getD 0 (.Pass ⟨0,0,0,0⟩)))] [vOf ((qBB qAJ).getD 0 (.Pass ⟨0,0,0,0⟩))] ⟨67,14,67,35⟩) ⟨67,4,67,35⟩,(qBB qAJ).getD 1 (.Pass ⟨0,0,0,0⟩),(qBB qAJ).getD 2 (.Pass ⟨0,0,0,0⟩),(qBB qAJ).getD 3 (.Pass ⟨0,0,0,0⟩)]:=by kernel_rfl
 have hk:∀ X:Cx,PE X (kOf ((qBB qAJ).getD 0 (.Pass ⟨0,0,0,0⟩))) (tTup tNil):=fun X=>qZZ ⟨_,_,rfl⟩;have hv:∀ X:Cx,PE X (vOf ((qBB qAJ).getD 0 (.Pass ⟨0,0,0,0⟩))) (tTup (qMU (tC (.int 0)) (qMU (tC .non) (qMU (tC .non) tNil)))):=fun X=>qTP ⟨_,_,_,_,_,_,_,_,rfl⟩;rw [key];generalize kOf ((qBB qAJ).getD 0 (.Pass ⟨0,0,0,0⟩))=k0 at hk ⊢;generalize vOf ((qBB qAJ).getD 0 (.Pass ⟨0,0,0,0⟩))=v9 at hv ⊢;refine ⟨_,(qA4 (qAM (i:=2) sc_stands_reached.nd rfl (E9 rfl) (qTR hu (hk _) (hv _))) (qA4 (qAM (i:=3) sc_stands_reached.nd rfl (E9 rfl) (qBV (qA0 (qCH qA3) qA3))) (qA4 (qIP D3 (qWU (pv 3) (fun _=>rfl)) (qA4 (qAM (i:=4) sc_stands_reached.nd rfl (E9 rfl) (qBV qA3)) (qA4 (qBT D3 rfl (qCA (pv 3)) (qAY (i:=5) sc_stands_reached.nd rfl (E9 rfl)) (qA5 (qBT D3 rfl (qCA (qAV qG2 hr rfl (qA0 (pv 0) (qA0 (pv 1) (qA0 (pv 5) qA3))))) (qAY (i:=6) sc_stands_reached.nd rfl (E9 rfl)) (qA4 (qAM (i:=7) sc_stands_reached.nd rfl (E9 rfl) (qAV qCQ hr rfl (qA0 (pv 5) (qA0 (pv 6) qA3)))) (qA5 (qB5 (qDI (qDU hu (pv 7) (pv 2))) (qA4 (qAM (i:=8) sc_stands_reached.nd rfl (E9 rfl) (qAP qD6 (qBA qBD (qF4 hu (pv 2) (pv 5) (fun _ _=>rfl)) qA8 (fun _ _=>rfl)) (qGW (qAN qGA (qBA qBD (pv 6) qA8 (fun _ _=>rfl)) qBU (qAS _)) qA8 qA8))) (qA4 (qE7 hu (pv 2) (pv 7) (qCH (qA0 (pv 8) (qA0 (pv 5) (qA0 (pv 6) qA3)))) rfl) (qA5 (qF2 (qRV J1 M7 M8 qD7 (pv 4) (qA0 (pv 7) qA3)))))) qAI)))))) (qA5 (qAM (i:=3) sc_stands_reached.nd rfl (E9 rfl) (pv 4)))))) (qA5 (qAE (qOS (pv 2))))))),?_⟩
 try dsimp only [Cx.nox,Cx.wish,cxOf]
 have pw:2 ^ Ae.length<=2 ^ 12:=Y2 (by decide) n12
 intro rd hrd;refine ⟨(by show 0<=B28;decide),fun e0 he0=>?_⟩
 refine ⟨(by show 3<=B28;decide),fun v0 hv0=>?_⟩
 have s1:=qA2 hrd (.dT []);have s2:=qA2 he0 (.tup []);have s3:=qA2 hv0 (.tup [.int 0,.non,.non]);have g1:(Ag (Ag (Ag H rd (.dT [])) e0 (.tup [])) v0 (.tup [.int 0,.non,.non])) rd=some (.dT []):=s3 _ _ (s2 _ _ qA1);have g2:(Ag (Ag (Ag H rd (.dT [])) e0 (.tup [])) v0 (.tup [.int 0,.non,.non])) e0=some (.tup (([]:List Key).map kV)):=s3 _ _ qA1;have g3:(Ag (Ag (Ag H rd (.dT [])) e0 (.tup [])) v0 (.tup [.int 0,.non,.non])) v0=some (.tup [.int ((0:Nat):Int),.non,.non]):=qA1;have sA:=s1.trans (s2.trans s3);generalize Ag (Ag (Ag H rd (.dT [])) e0 (.tup [])) v0 (.tup [.int 0,.non,.non])=H1 at g1 g2 g3 sA;refine ⟨g1,e0,[],rfl,g2,?_⟩;have ent:Ent H1 [([],.ref v0)] [[]] (fun _=>0):=.cons ⟨rfl,v0,_,_,rfl,g3⟩ .nil;have ent:=ent.put (u:=.dT [([],.ref v0)]) g1 (fun xs z=>by cases z)
 have sB:Same H (Ag H1 rd (.dT [([],.ref v0)])):=qAC sA hrd;have g4:(Ag H1 rd (.dT [([],.ref v0)])) rd=some (.dT [([],.ref v0)]):=qA1;have hrd0:H rd=none:=hrd;refine ⟨(by show 0<=B28;decide),fun e1 he1=>⟨(by show 1<=B28;decide),fun du hdu=>?_⟩⟩
 have s5:=qA2 he1 (.tup []);have s6:=qA2 hdu (.lst [.ref e1]);have sC:=sB.trans (s5.trans s6);have entC:=(ent.same s5).same s6;have g5:=s6 _ _ (s5 _ _ g4);have g6:(Ag (Ag (Ag H1 rd (.dT [([],.ref v0)])) e1 (.tup [])) du (.lst [.ref e1])) du=some (.lst ([e1].map V.ref)):=qA1;have g7:StL (Ag (Ag (Ag H1 rd (.dT [([],.ref v0)])) e1 (.tup [])) du (.lst [.ref e1])) [e1] [[]]:=.cons (s6 _ _ qA1) .nil;generalize Ag (Ag (Ag H1 rd (.dT [([],.ref v0)])) e1 (.tup [])) du (.lst [.ref e1])=H2 at sC entC g5 g6 g7;clear s1 s2 s3 g1 g2 g3 sA ent sB g4 s5 s6 he0 hv0 hrd;refine ⟨fun m σ Hc=>∃ (du:Addr) (dr:List Addr) (due ks:Aa0) (f:List Int->Nat) (Af:List (List Key × V)) (t:Nat) (v4 v5 v6 v7 v8:Option V),σ=[some (.ref a),some (.int Aa),some (.ref rd),some (.ref du),v4,v5,v6,v7,v8]/\m=(2 ^ Ae.length - ks.length) * 2+(if due=[] then 0 else 1)/\Same H Hc/\Hc rd=some (.dT Af)/\Ent Hc Af ks f/\Hc du=some (.lst (dr.map V.ref))/\StL Hc dr due/\BF Ae Aa t ks due [] f 0 0/\ks.head?=some [],
  ⟨_,du,[e1],[[]],[[]],fun _=>0,_,0,none,none,none,none,none,rfl,rfl,sC,g5,entC,g6,g7,BF.start,rfl⟩,?_⟩
 clear sC g5 entC g6 g7;refine fun m σ Hc hI_1=>opq fun G_1 hG_1=>?_;obtain ⟨du,dr,due,ks,f,Af,t,v4,v5,v6,v7,v8,rfl,rfl,sm,grd,ent,gdu,SD,B,hh⟩:=hI_1;refine hG_1 ?_;refine ⟨_,rfl,_,.inl ⟨_,Ab2 gdu,rfl⟩,?_⟩;have ldr:dr.length=due.length:=B7 SD;by_cases hz:due=[]
 ·subst hz;have:dr=[]:=K9.mp ldr;subst this;refine iteF ?_;exact ⟨_,rfl,rd,Af,rfl,grd,fun o=>q rd o Af ks f _ (qAC sm hrd0) hrd0 qA1 (ent.put grd fun xs z=>by cases z) B.rch hh⟩
 ·have ne:(!(dr.map V.ref).isEmpty)=true:=by
   cases dr with
   | nil=>exact absurd (K9.mp ldr.symm) hz
   | cons _ _=>rfl
  dsimp only;rw [if_pos ne];have lk0:=B.len;have ln:=ent.len;refine ⟨fun σ' H'=>∃ m',m'<(2 ^ Ae.length - ks.length) * 2+(if due=[] then 0 else 1)/\∃ (du:Addr) (dr:List Addr) (due ks:Aa0) (f:List Int->Nat) (Af:List (List Key × V)) (t:Nat) (v4 v5 v6 v7 v8:Option V),σ'=[some (.ref a),some (.int Aa),some (.ref rd),some (.ref du),v4,v5,v6,v7,v8]/\m'=(2 ^ Ae.length - ks.length) * 2+(if due=[] then 0 else 1)/\Same H H'/\H' rd=some (.dT Af)/\Ent H' Af ks f/\H' du=some (.lst (dr.map V.ref))/\StL H' dr due/\BF Ae Aa t ks due [] f 0 0/\ks.head?=some [],fun _ _ z=>z,?_⟩
  refine ⟨(by show 0<=B28;decide),fun ll hll=>?_⟩
  have s7:=qA2 hll (.lst []);have fll:H ll=none:=sm.free hll;have nll:ll ≠ rd/\ll ≠ du:=⟨(qA6 grd hll).symm,(qA6 gdu hll).symm⟩;have nrdu:rd ≠ du:=qCF grd gdu (by intro z;cases z)
  obtain ⟨k0,hk0⟩:∃ k0,k0=ks.length:=⟨_,rfl⟩;rw [<- hk0];refine ⟨_,rfl,du,rfl,⟨_,Ab2 (s7 _ _ gdu)⟩,qFX (a:=du) (xs:=dr.map V.ref) (fun i σ Hd=>∃ (lr:List Addr) (ly ks:Aa0) (f:List Int->Nat) (Af:List (List Key × V)) (v5 v6 v7 v8:Option V),σ=[some (.ref a),some (.int Aa),some (.ref rd),some (.ref du),some (.ref ll),v5,v6,v7,v8]/\Same H Hd/\Hd rd=some (.dT Af)/\Ent Hd Af ks f/\Hd du=some (.lst (dr.map V.ref))/\StL Hd dr due/\Hd ll=some (.lst (lr.map V.ref))/\StL Hd lr ly/\BF Ae Aa t ks due ly f i 0/\ks.length=k0+ly.length/\ks.head?=some [])
   ⟨[],[],ks,f,Af,v5,v6,v7,v8,rfl,sm.trans s7,s7 _ _ grd,ent.same s7,s7 _ _ gdu,SD.same s7,qA1,.nil,B,hk0.symm,hh⟩ (fun i σ Hd _ hP=>by obtain ⟨_,_,_,_,_,_,_,_,_,_,_,_,_,z,_⟩:=hP;exact Ab2 z) ?_ ?_⟩
  ·clear s7 grd ent gdu SD B sm ln lk0 hk0;refine fun i x σ Hd hx hI_2=>opq fun G_2 hG_2=>?_;obtain ⟨lr,ly,ks,f,Af,v5,v6,v7,v8,rfl,sm,grd,ent,gdu,SD,gll,SL,B,lks,hh⟩:=hI_2;obtain ⟨sr,hsr,rfl⟩:=qC6 hx;obtain ⟨st,hst,gst⟩:=qAU SD hsr;refine hG_2 ?_;have ri:Rise (Ae.length:Int) st:=((B.duem st).mp (B5 hst)).1.rise;have l12:st.length<=12:=by have:=ri.len;lia
   have hsk:st ∈ ks:=B.full t st (A6 _) ((B.duem st).mp (B5 hst)).1;refine ⟨_,rfl,_,rfl,_,rfl,a,sr,Ae,st,Aa,rfl,hN.same sm,wf,by lia,gst,by lia,fun l rs H3 s3 fl gl ML=>?_⟩
   have lrs:rs.length=(qDZ Ae st Aa).length:=B7 ML;refine ⟨l,rfl,⟨_,Ab2 gl⟩,qFX (a:=l) (xs:=rs.map V.ref) (fun k σ Hd=>∃ (lr:List Addr) (ly ks:Aa0) (f:List Int->Nat) (Af:List (List Key × V)) (v6 v7 v8:Option V),σ=[some (.ref a),some (.int Aa),some (.ref rd),some (.ref du),some (.ref ll),some (.ref sr),v6,v7,v8]/\Same H Hd/\Hd rd=some (.dT Af)/\Ent Hd Af ks f/\Hd du=some (.lst (dr.map V.ref))/\StL Hd dr due/\Hd ll=some (.lst (lr.map V.ref))/\StL Hd lr ly/\BF Ae Aa t ks due ly f i k/\ks.length=k0+ly.length/\Hd l=some (.lst (rs.map V.ref))/\MovL Hd rs (qDZ Ae st Aa)/\st ∈ ks/\ks.head?=some [])
    ⟨lr,ly,ks,f,Af,v6,v7,v8,rfl,sm.trans s3,s3 _ _ grd,ent.same s3,s3 _ _ gdu,SD.same s3,s3 _ _ gll,SL.same s3,B,lks,gl,ML,hsk,hh⟩ (fun k σ Hd _ hP=>by obtain ⟨_,_,_,_,_,_,_,_,_,_,_,_,_,_,_,_,_,_,z,_⟩:=hP;exact Ab2 z) ?_ ?_⟩
   ·have nl:rd ≠ l/\ll ≠ l:=⟨qA6 grd fl,qA6 gll fl⟩;clear grd ent gdu SD gll SL B lks sm gl ML s3 hsk gst;refine fun k x σ Hd hx hI_3=>opq fun G_3 hG_3=>?_;obtain ⟨lr,ly,ks,f,Af,v6,v7,v8,rfl,sm,grd,ent,gdu,SD,gll,SL,B,lks,gl,ML,hsk,hh⟩:=hI_3;obtain ⟨mv,hmv,rfl⟩:=qC6 hx;obtain ⟨⟨Ac,wk⟩,hm2,gmv⟩:=qAU ML hmv;refine hG_3 ?_;dsimp only at gmv;obtain ⟨st',hst',gst⟩:=qAU SD hsr;rw [hst] at hst';cases hst';have hw:=(due_iff.mp (B5 hm2)).1.1;refine ⟨_,rfl,_,rfl,sr,mv,st,Ac,wk,rfl,gst,by lia,gmv,hw,fun r st2 H4 s4 gr beh=>?_⟩
    have e2:=qW0 (m:=(Ac,wk)) ri hw beh;rw [e2] at gr;have sm4:=sm.trans s4;have grd4:=s4 _ _ grd;have ent4:=ent.same s4;have gdu4:=s4 _ _ gdu;have SD4:=SD.same s4;have gll4:=s4 _ _ gll;have SL4:=SL.same s4;have gl4:=s4 _ _ gl;have ML4:=ML.same s4;have gst4:=s4 _ _ gst;have gmv4:=s4 _ _ gmv;have lb:=B.len;clear grd ent gdu SD gll SL gl ML gst gmv;refine ⟨_,rfl,_,rfl,rd,_,rfl,.inr ⟨Af,keyS (behL st (Ac,wk)),r,.inl grd4,rfl,by rw [qD8];exact gr,rfl⟩,_,rfl,?_⟩
    by_cases hin:behL st (Ac,wk) ∈ ks
    ·obtain ⟨v,ev,_⟩:=ent4.val hin;rw [ev];refine iteF ?_;exact ⟨lr,ly,ks,f,Af,_,_,_,rfl,sm4,grd4,ent4,gdu4,SD4,gll4,SL4,B.hit hst hm2 hin,lks,gl4,ML4,hsk,hh⟩
    ·rw [ent4.none hin];refine iteT ?_;obtain ⟨v,ev,vr,xx,yy,e6,gv⟩:=ent4.val hsk;subst e6;have dg:DGet H4 rd (.ref sr) (some (.ref vr)):=by
      rw [<- ev];exact .inr ⟨Af,keyS st,sr,.inl grd4,rfl,by rw [qD8];exact gst4,rfl⟩
     have B2:=B.add hst hm2 hin;have lb2:=B2.len;rw [B0,B9] at lb2;have lly:lr.length=ly.length:=B7 SL4;have lkv:=ent4.len;refine ⟨_,rfl,_,rfl,rd,.ref vr,rfl,dg,vr,_,_,_,rfl,rfl,Ac0 gv,rfl,_,rfl,mv,_,_,_,rfl,rfl,Ac0 gmv4,rfl,rfl,_,rfl,?_⟩;obtain ⟨z,hz1,hz2⟩:∃ z:Nat,(if decide (V.str Ac=V.str "do")=true then z=1 else z=0)/\z=if ((Ac,wk):Mv).1=D4 "do" then 1 else 0:=by
      by_cases c:Ac=D4 "do"
      ·exact ⟨1,by rw [if_pos (decide_eq_true (congrArg V.str c))],by rw [if_pos c]⟩
      ·exact ⟨0,by rw [if_neg (fun q=>c (V.str.inj (of_decide_eq_true q)))],by rw [if_neg c]⟩
     rw [<- hz2] at B2;have fin:∀ (y:Int) (H5:Hp) (tp:Addr),y=((f st+z:Nat):Int)->H4 tp=none->H5=Ag H4 tp (.tup [.int y,.ref sr,.ref mv])->∃ H6 H7,DPut H5 rd (.ref r) (.ref tp) H6/\H6 ll=some (.lst (lr.map V.ref))/\H7=Ag H6 ll (.lst (lr.map V.ref++[.ref r]))/\
       ∃ (lr:List Addr) (ly ks:Aa0) (f:List Int->Nat) (Af:List (List Key × V)),Same H H7/\H7 rd=some (.dT Af)/\Ent H7 Af ks f/\H7 du=some (.lst (dr.map V.ref))/\StL H7 dr due/\H7 ll=some (.lst (lr.map V.ref))/\StL H7 lr ly/\BF Ae Aa t ks due ly f i (k+1)/\ks.length=k0+ly.length/\H7 l=some (.lst (rs.map V.ref))/\MovL H7 rs (qDZ Ae st Aa)/\st ∈ ks/\ks.head?=some []:=by
      intro y H5 tp ey htp e5;subst ey e5;have s5:=qA2 htp (.tup [.int ((f st+z:Nat):Int),.ref sr,.ref mv]);have g5:(Ag H4 tp (.tup [.int ((f st+z:Nat):Int),.ref sr,.ref mv])) tp=some (.tup [.int ((f st+z:Nat):Int),.ref sr,.ref mv]):=qA1;generalize Ag H4 tp (.tup [.int ((f st+z:Nat):Int),.ref sr,.ref mv])=H5 at s5 g5;have grd5:=s5 _ _ grd4;have gr5:=s5 _ _ gr;have gll5:=s5 _ _ gll4;have nt:∀ kk xs,HO.dT kk ≠ .tup xs:=fun kk xs q=>by cases q
      have nt2:∀ kk xs,HO.lst kk ≠ .tup xs:=fun kk xs q=>by cases q
      have gll6:(Ag H5 rd (.dT (putK Af (keyS (behL st (Ac,wk))) (.ref tp)))) ll=some (.lst (lr.map V.ref)):=(qA9 nll.1).trans gll5;refine ⟨_,_,.inr ⟨Af,keyS (behL st (Ac,wk)),r,grd5,rfl,by rw [qD8];exact gr5,qBF (by lia),rfl⟩,gll6,rfl,lr++[r],ly++[behL st (Ac,wk)],ks++[behL st (Ac,wk)],_,_,qAC (qAC (sm4.trans s5) hrd0) fll,?_,(((ent4.same s5).snoc hin ⟨tp,_,_,rfl,g5⟩).put grd5 (nt _)).put gll6 (nt2 _),?_,((SD4.same s5).put grd5 (nt _)).put gll6 (nt2 _),?_,(((SL4.same s5).snoc gr5).put grd5 (nt _)).put gll6 (nt2 _),B2,?_,?_,((ML4.same s5).putG grd5 (nt _)).putG gll6 (nt2 _),B3.mpr (.inl hsk),by rw [List.head?_append,hh];rfl⟩
      ·rw [qA9 nll.1.symm,qA1]
      ·rw [qA9 nll.2.symm,qA9 nrdu.symm];exact s5 _ _ gdu4
      ·rw [qA1,qBJ]
      ·simp only [B0,B9];lia
      ·rw [qA9 nl.2.symm,qA9 nl.1.symm];exact s5 _ _ gl4
     refine ite2 (fun ck=>?_) (fun ck=>?_)
     ·rw [if_pos ck] at hz1;refine ⟨_,_,rfl,rfl,_,rfl,_,rfl,_,rfl,(by show 3<=B28;decide),fun tp htp=>?_⟩
      obtain ⟨H6,H7,dp,g6,e7,lr2,ly2,ks2,f2,kvs2,x1,x2,x3,x4,x5,x6,x7,x8,x9,x10,x11,x12⟩:=fin _ _ tp (by rw [hz1]) htp rfl
      subst e7;refine ⟨_,rfl,_,rfl,rd,H6,rfl,dp,_,rfl,.inl ⟨rfl,_,Ab2 g6⟩,_,rfl,ll,_,_,rfl,rfl,g6,qBF (by rw [A0];lia),?_⟩
      exact ⟨lr2,ly2,ks2,f2,kvs2,_,_,_,rfl,x1,x2,x3,x4,x5,x6,x7,x8,x9,x10,x11,x12⟩
     ·rw [if_neg ck] at hz1;refine ⟨_,_,rfl,rfl,_,rfl,_,rfl,_,rfl,(by show 3<=B28;decide),fun tp htp=>?_⟩
      obtain ⟨H6,H7,dp,g6,e7,lr2,ly2,ks2,f2,kvs2,x1,x2,x3,x4,x5,x6,x7,x8,x9,x10,x11,x12⟩:=fin _ _ tp (by rw [hz1]) htp rfl
      subst e7;refine ⟨_,rfl,_,rfl,rd,H6,rfl,dp,_,rfl,.inl ⟨rfl,_,Ab2 g6⟩,_,rfl,ll,_,_,rfl,rfl,g6,qBF (by rw [A0];lia),?_⟩
      exact ⟨lr2,ly2,ks2,f2,kvs2,_,_,_,rfl,x1,x2,x3,x4,x5,x6,x7,x8,x9,x10,x11,x12⟩
   ·refine fun σ Hd hI_4=>opq fun G_4 hG_4=>?_;obtain ⟨lr,ly,ks,f,Af,v6,v7,v8,rfl,sm,grd,ent,gdu,SD,gll,SL,B,lks,gl,ML,hsk,hh⟩:=hI_4;refine hG_4 ?_;rw [A0,lrs] at B;exact ⟨lr,ly,ks,f,Af,_,_,_,_,rfl,sm,grd,ent,gdu,SD,gll,SL,B.next hst (A6 _),lks,hh⟩
  ·refine fun σ Hd hI_5=>opq fun G_5 hG_5=>?_;obtain ⟨lr,ly,ks,f,Af,v5,v6,v7,v8,rfl,sm,grd,ent,gdu,SD,gll,SL,B,lks,hh⟩:=hI_5;refine hG_5 ?_;rw [A0,ldr] at B;have B2:=B.level (A6 _);have lb:=B2.len;refine ⟨_,rfl,_,?_,ll,lr,ly,ks,f,Af,t+1,_,_,_,_,_,rfl,rfl,sm,grd,ent,gll,SL,B2,hh⟩;rw [if_neg hz];by_cases c:ly=[]
   ·rw [if_pos c,lks,c,L5]
    lia
   ·have:0<ly.length:=o5.mpr c;rw [if_neg c,lks]
    lia
theorem sc_best_end:FnScope ["reached","asked","ends"] ["reached","asked"] (qAB qCI):=qBL
theorem ok_best_end (F:Fun K "best_end" "best_end" qCI f fd) (hcd:fd.code=.ref cc) (hBM:BM mg base) (qEA:hdIn K cc Pt=true) (qE2:Clb P w K mg base 1 qHC qL9 "has_all" ["results","works"] qT5) (qMP:mg "min" = none):FnOk P w K mg base CX0 2 f fd ["reached","asked"] (qYG Pt):=by
 refine F.okL hcd sc_best_end (fun vs H Q E h=>?_) (fun A outer s H vs Q E hr h=>?_)
 ·obtain ⟨d,t,o,Af,ks,fu,Ad,rfl,_⟩:=h
  rfl
 obtain ⟨d,t,o,Af,ks,fu,Ad,rfl,hTab,hd,ent,lk,hT,la,q⟩:=h;have hu:=qHO hr;have hu2:=hu2_of hr;have rm:Room 1 _:=hr;have qb0:Room 1 _:=hr;refine ⟨_,(qA4 (qN7 (i:=2) sc_best_end.nd rfl rfl rfl (lcs (own:=["stand"]) (fv:=[1]) (by kernel_rfl)) (qLX (pv 0)) (fun z1=>qBG 0) (fun z1=>(qD5 (qBQ (qAV qE2 hr rfl (qA0 (pv 0) (qA0 (pv 1) qA3)))))) (fun z1=>(pv 0)) (by kernel_rfl)) (qA5 (qAE (qX2 (p:="stand") (fv:=[0]) (q:="best_end.<locals>.<lambda>") rm rfl rfl qMP qRB hBM rfl qEA (by kernel_rfl) (lms (by kernel_rfl)) rfl (fun _ _ _ _ _=>rfl) (qdS hu2) (qA0 (pv 2) qA3) (fun z2=>(qCH (qA0 (qBA (qJN (K:=K) rfl) (qF4 (lm_hu _) (pv 1) (pv 0) (fun _ _=>rfl)) qA8 (fun _ _=>rfl)) (qA0 (pv 0) qA3)))) qI2)))),?_⟩
 try dsimp only [Cx.nox,Cx.wish,cxOf]
 have ln:=ent.len;refine ⟨_,rfl,d,o,Af,rfl,hd,fun le hle=>?_⟩;refine qXD (p:=le) (a:=d) (o:=o) (Af:=Af) (fun k σ Hd=>∃ (v0:Option V) (er:List Addr),σ=[v0,some (.ref t)]/\Same H Hd/\Hd le=some (.lst (er.map V.ref))/\StL Hd er ((ks.take k).filter fun s=>decide (∀ x ∈ Ad,x ∈ s))) ?_ ?_ ?_ ?_
 ·exact ⟨none,[],rfl,qA2 hle _,qA1,.nil⟩
 ·refine fun k σ Hd hk hI_1=>opq fun G_1 hG_1=>?_;obtain ⟨v0,er,rfl,sd,_⟩:=hI_1;refine hG_1 ?_;exact sd _ _ hd
 ·refine fun k key v r σ Hd hx hr2 hI_2=>opq fun G_2 hG_2=>?_;obtain ⟨v0,er,rfl,sd,ge,SE⟩:=hI_2;obtain ⟨st,hst,e1,v3⟩:=qAU ent hx;refine hG_2 ?_;dsimp only at e1;subst e1;rw [qD8] at hr2;have hk2:=(A4.mp hst).1;have lE:er.length=((ks.take k).filter fun s=>decide (∀ x ∈ Ad,x ∈ s)).length:=B7 SE;have lE2:=T8 (fun s:List Int=>decide (∀ x ∈ Ad,x ∈ s)) (ks.take k);rw [C5] at lE2;refine ⟨_,rfl,_,rfl,true,r,t,st,Ad,rfl,hr2,.inl (sd _ _ hT),la,fun H2 s2=>⟨_,rfl,?_⟩⟩;rw [C8,hst,C9,A58];by_cases c:∀ x ∈ Ad,x ∈ st
  ·rw [decide_eq_true c];refine ⟨_,rfl,_,s2 _ _ ge,qBF (by rw [A0];lia),?_⟩
   rw [qBJ];refine ⟨_,er++[r],rfl,qAC (sd.trans s2) hle,qA1,?_⟩;rw [R6,if_pos (decide_eq_true c)];exact ((SE.same s2).snoc (s2 _ _ hr2)).put (s2 _ _ ge) fun xs z=>by cases z
  ·rw [decide_eq_false c];refine ⟨_,er,rfl,sd.trans s2,s2 _ _ ge,?_⟩;rw [R6,if_neg (by rw [decide_eq_false c];exact B4),List.filter_nil,W7]
   exact SE.same s2
 refine fun σ H1 hI_3=>opq fun G_3 hG_3=>?_;obtain ⟨v0,er,rfl,s1,ge,SE⟩:=hI_3;refine hG_3 ?_;rw [ln,R7] at SE;have lE:er.length=(ks.filter fun s=>decide (∀ x ∈ Ad,x ∈ s)).length:=B7 SE;refine ⟨_,rfl,s1 _ _ hTab,le,er.map V.ref,(ks.filter fun s=>decide (∀ x ∈ Ad,x ∈ s)).map fun s=>(fu s:Int)::s,?_⟩;have key:∀ (i:Nat) (x:V) (k:List Int),(er.map V.ref)[i]?=some x->((ks.filter fun s=>decide (∀ x ∈ Ad,x ∈ s)).map fun s=>(fu s:Int)::s)[i]?=some k->∃ r s,x=.ref r/\k=(fu s:Int)::s/\s ∈ ks/\(∀ x ∈ Ad,x ∈ s)/\H1 r=some (.tup (s.map V.int)):=by
  intro i x k hx hk;obtain ⟨r,hr1,rfl⟩:=qC6 hx;obtain ⟨st,hst,gs⟩:=qAU SE hr1;rw [B6,hst] at hk;cases hk;have hm:=E6.mp (B5 hst);exact ⟨r,st,rfl,rfl,hm.1,of_decide_eq_true hm.2,gs⟩
 have run:∀ (i:Nat) (x:V) (k:List Int),(er.map V.ref)[i]?=some x->((ks.filter fun s=>decide (∀ x ∈ Ad,x ∈ s)).map fun s=>(fu s:Int)::s)[i]?=some k->∀ Hc,Sm0 H1 Hc->∃ r s vr xx yy,x=.ref r/\k=(fu s:Int)::s/\Hc r=some (.tup (s.map V.int))/\DGet Hc d (.ref r) (some (.ref vr))/\Hc vr=some (.tup [.int (fu s:Int),xx,yy]):=by
  intro i x k hx hk Hc sc;obtain ⟨r,st,e1,e2,e3,e4,e5⟩:=key i x k hx hk;obtain ⟨v,ev,vr,xx,yy,e6,e7⟩:=ent.val e3;subst e6;have gr:=sc _ _ e5;refine ⟨r,st,vr,xx,yy,e1,e2,gr,?_,sc _ _ (s1 _ _ e7)⟩;rw [<- ev];exact .inr ⟨Af,keyS st,r,.inr ⟨o,sc _ _ (s1 _ _ hd)⟩,rfl,by rw [qD8];exact gr,rfl⟩
 cases er with
 | nil=>
  have he:(ks.filter fun s=>decide (∀ x ∈ Ad,x ∈ s))=[]:=K9.mp lE.symm;refine ⟨.non,rfl,ge,by rw [A0,A0,he];rfl,fun i x k hx=>by simp at hx,by rw [he];rfl,fun H2 s2=>(q H2 (s1.trans s2)).1 fun s hs c=>?_⟩
  have:s ∈ ks.filter fun s=>decide (∀ x ∈ Ad,x ∈ s):=E6.mpr ⟨hs,decide_eq_true c⟩;rw [he] at this;cases this
 | cons r0 er=>
  cases eZ:((r0::er).map V.ref).zip ((ks.filter fun s=>decide (∀ x ∈ Ad,x ∈ s)).map fun s=>(fu s:Int)::s) with
  | nil=>
   exfalso
   have:=congrArg V5 eZ;rw [A17,A0,A0,<- lE,E2,L5] at this
   lia
  | cons b rest=>
   obtain ⟨k,h1,h2⟩:=qJB rest b;rw [<- eZ] at h1 h2;have at_:∀ p:V × List Int,p ∈ ((r0::er).map V.ref).zip ((ks.filter fun s=>decide (∀ x ∈ Ad,x ∈ s)).map fun s=>(fu s:Int)::s)->∃ i:Nat,((r0::er).map V.ref)[i]?=some p.1/\((ks.filter fun s=>decide (∀ x ∈ Ad,x ∈ s)).map fun s=>(fu s:Int)::s)[i]?=some p.2:=by
    intro p hp;obtain ⟨i,hi⟩:=P7 hp;rw [u7] at hi;exact ⟨i,hi.1,hi.2⟩
   obtain ⟨i,g1,g2⟩:=at_ _ h1;obtain ⟨r,st,e1,e2,e3,e4,e5⟩:=key i _ _ g1 g2;refine ⟨qET b rest,rfl,ge,by rw [A0,A0,lE],fun i x k hx hk Hc sc=>?_,rfl,fun H2 s2=>?_⟩
   ·obtain ⟨r,st,vr,xx,yy,a1,a2,a3,a4,a5⟩:=run i x k hx hk Hc sc;subst a1 a2;exact ⟨_,rfl,_,rfl,d,.ref vr,rfl,a4,vr,_,_,_,rfl,rfl,Ac0 a5,rfl,_,rfl,(by show 2<=B28;decide),fun p hp=>⟨qA2 hp _,p,r,_,st,rfl,rfl,qA1,by rw [qA9 (qA6 a3 hp)];exact a3⟩⟩
   ·have e1:qET b rest=.ref r:=e1;rw [e1];refine (q H2 (s1.trans s2)).2 r st (s2 _ _ e5) e3 e4 fun s' hs' c'=>?_;have hf:s' ∈ ks.filter fun s=>decide (∀ x ∈ Ad,x ∈ s):=E6.mpr ⟨hs',decide_eq_true c'⟩;obtain ⟨j,hj⟩:=P7 hf;have hj1:=(A4.mp hj).1;have hr1:j<((r0::er).map V.ref).length:=by rw [A0,lE];exact hj1
    have hq:(((r0::er).map V.ref)[j],(fu s':Int)::s') ∈ ((r0::er).map V.ref).zip ((ks.filter fun s=>decide (∀ x ∈ Ad,x ∈ s)).map fun s=>(fu s:Int)::s):=
     B5 (i:=j) (u7.mpr ⟨A5 hr1,by rw [B6,hj];rfl⟩)
    have hl:=h2 _ hq;have e2:k=(fu st:Int)::st:=e2;rw [e2] at hl;dsimp only at hl;rw [HT.lexLt_cons] at hl;by_cases c:(fu s':Int)=(fu st:Int)
    ·lia
    ·rw [if_neg c] at hl;have:=of_decide_eq_false hl
     lia
theorem qJ3:FnScope ["works","asked"] ["works","asked"] (qAB qCN):=qBL
theorem ok_part_numbers (F:Fun K "part_numbers" "part_numbers" qCN f fd) (qAK:mg "tuple" = none):FnOk P w K mg base CX0 1 f fd ["works","asked"] qPZ:=by
 refine F.okA qJ3 fun cdv A outer s H vs Q E hr h=>?_;obtain ⟨t,u,ws,Ad,rfl,hT,hU,nd,la,lw,hin,q⟩:=h;refine ⟨_,(qA5 (qAE (qAG qAL rfl qAK qAO (qA0 (qCB rfl (lcs (own:=["work"]) (fv:=[0]) (by kernel_rfl)) (qCX (pv 1)) (fun z1=>qBG 0) (fun z1=>qAZ) (fun z1=>(qYO (X:=lcCx _ _ _ _ z1) A01 A02 A03 (qJI (K:=K) rfl) (pv 1) (qA0 (pv 0) qA3)))) qA3)))),?_⟩
 try dsimp only [Cx.nox,Cx.wish,cxOf]
 refine ⟨_,rfl,u,rfl,⟨_,Ac0 hU⟩,fun p hp=>?_⟩;refine qER (p:=p) (a:=u) (xs:=Ad.map V.int) (fun i σ Hc=>∃ (v0:Option V),σ=[v0,some (.ref t)]/\Same H Hc/\Hc p=some (.lst ((qC8 ws (Ad.take i)).map V.int))) ?_ ?_ ?_ ?_
 ·exact ⟨none,rfl,qA2 hp _,qA1⟩
 ·rintro i σ Hc hi ⟨v0,rfl,sm,_⟩;exact Ac0 (sm _ _ hU)
 ·refine fun i x σ Hc hx hI_2=>opq fun G_2 hG_2=>?_;obtain ⟨v0,rfl,sm,hpc⟩:=hI_2;obtain ⟨y,ey,rfl⟩:=qAX hx;refine hG_2 ?_;have lt:=(A4.mp ey).1;have hT2:=hT.same sm;have hy:=hin y (B5 ey);obtain ⟨j,hj⟩:=P7 hy;have lk:(qC8 ws (Ad.take i)).length<=i:=F6 (P0 _ _) (by rw [C5];lia)
  have first:∀ k,k<j->ws[k]? ≠ some y:=fun k hk e=>by
   obtain ⟨h1,e1⟩:=A4.mp e;obtain ⟨h2,e2⟩:=A4.mp hj;exact absurd (e1.trans e2.symm) (F9.mp nd k j h1 h2 hk)
  refine ⟨_,rfl,⟨t,_,rfl,hT2⟩,_,rfl,t,ws,y,j,rfl,rfl,hT2.sq,hj,first,_,hpc,qAF (by rw [A0];lia),_,rfl,qAC sm hp,?_⟩
  rw [qA1];unfold qC8;rw [C8,ey,C9,X5,Q7,qFR nd hj,B1]
  rfl
 ·refine fun σ Hc hI_3=>opq fun G_3 hG_3=>?_;obtain ⟨v0,rfl,sm,hpc⟩:=hI_3;refine hG_3 ?_;rw [A0,R7] at hpc;refine ⟨p,_,rfl,.inl ⟨Ab2 hpc,fun r' hr'=>?_⟩⟩;exact q r' _ (sm.trans (qA2 hr' _)) qA1
theorem qZT:FnScope ["_law_state"] ["_law_state"] (qAB qQB):=qBL
theorem ok_Lfew (F:Fun K "_law_few" "_law_few" qQB f fd) (qBI:Clb P w K mg base 1 qFE qFY "_law_take" ["_law_state","_law_many"] qJ0) (qZB:Clb P w K mg base 3 qV5 qaL "_law_net" ["_law_state","_law_many"] qbH) (qG8:mg "int" = none):FnOk P w K mg base CX0 4 f fd ["_law_state"] qYD:=by
 refine F.okA qZT fun cdv A outer s H vs Q E hr h=>?_;obtain ⟨d,c,t,ms,rfl,S2,tb,q⟩:=h;have qdZ:Room 3 _:=hr;refine ⟨_,(qA5 (qAE (qAV qZB hr rfl (qA0 (pv 0) (qA0 (qBA qCU (qBV (qA0 (qAP qD6 qA8 (qAV qBI hr rfl (qA0 (pv 0) (qA0 qA8 qA3)))) (qA0 (qAP qD6 qA8 (qAV qBI hr rfl (qA0 (pv 0) (qA0 qA8 qA3)))) qA3))) (qAG qHG rfl qG8 qK5 (qA0 (qCC qGA (qAV qBI hr rfl (qA0 (pv 0) (qA0 qA8 qA3))) qA8 (qAS _)) qA3)) (fun _ _=>rfl)) qA3))))),?_⟩
 try dsimp only [Cx.nox,Cx.wish,cxOf]
 have tb2:t<=1000000000 - 20000:=tb;refine ⟨_,rfl,_,rfl,d,c,t,ms,7,rfl,S2,(by show t<=1000000000;lia),by decide,by decide,fun k0 ms0 H0 a0 a1 S0 K0=>?_⟩
 refine ⟨_,_,rfl,rfl,_,rfl,d,c,t+1,ms0,3,rfl,S0,(by show t+1<=1000000000;lia),by decide,by decide,fun k1 ms1 H1 b0 b1 S1 K1=>?_⟩
 refine ⟨_,_,rfl,rfl,(by show 2<=B28;decide),fun p hp=>?_⟩
 have s0:=qA2 hp (.lst [.int (1+k0),.int (8+k1)]);have gp:(Ag H1 p (.lst [.int (1+k0),.int (8+k1)])) p=some (.lst [.int (1+k0),.int (8+k1)]):=qA1;have npd:p ≠ d:=(qA6 S1.dict hp).symm;have npc:p ≠ c:=(qA6 S1.list hp).symm;have S1':=S1.same s0;have K1':Keep d c H (Ag H1 p (.lst [.int (1+k0),.int (8+k1)])):=(K0.trans K1).trans (.of_same s0);generalize Ag H1 p (.lst [.int (1+k0),.int (8+k1)])=H2 at gp S1' K1';refine ⟨_,rfl,d,c,t+1+1,ms1,8,rfl,S1',(by show t+1+1<=1000000000;lia),by decide,by decide,fun k2 ms2 H3 c0 c1 S3 K3=>?_⟩
 refine ⟨rfl,.inr ⟨_,rfl,p,_,_,_,rfl,rfl,Ab2 (K3 _ _ gp npd npc),qdH _,?_⟩⟩;have vb:1<=(if decide (V.int k2=V.int 0)=true then 8+k1 else 1+k0)/\(if decide (V.int k2=V.int 0)=true then 8+k1 else 1+k0)<=10:=by
  split <;> lia
 refine ⟨d,c,t+1+1+1,ms2,_,rfl,S3,(by show t+1+1+1<=1000000000 - 10000;lia),vb.1,by lia,fun a Ae t2 ms3 H4 S4 g1 g2 K4 hN wf nk=>?_⟩
 exact q a Ae t2 ms3 H4 S4 (by lia) (by lia) ((K1'.trans K3).trans K4) hN wf (by lia) (by lia)
theorem qN4:FnScope ["thing"] ["thing"] (qAB qE4):=qBL
theorem ok_is_number (F:Fun K "is_number" "is_number" qE4 f fd) (qAD:mg "isinstance" = none) (qG8:mg "int" = none) (qHY:mg "bool" = none):FnOk P w K mg base CX0 1 f fd ["thing"] qQ0:=by
 refine F.okA qN4 fun cdv A outer s H vs Q E hr h=>?_;obtain ⟨i,rfl,q⟩:=h;refine ⟨_,(qA5 (qAE (qI3 (qA7 qC0 rfl qAD qAH (qA0 (pv 0) (qA0 (qBN (v:=.ty "int") rfl qG8 qK5 rfl) qA3))) (qJC (qTQ (qA7 qC0 rfl qAD qAH (qA0 (pv 0) (qA0 (qBN (v:=.ty "bool") rfl qHY qPM rfl) qA3)))))))),?_⟩
 try dsimp only [Cx.nox,Cx.wish,cxOf]
 refine ⟨_,rfl,_,"int",_,true,rfl,TyOf.int i,qUD,_,rfl,?_⟩;refine ⟨_,rfl,_,"bool",_,false,rfl,TyOf.int i,qUE,_,rfl,?_⟩;exact q
theorem qOL:FnScope ["thing","end"] ["thing","end"] (qAB qFO):=qBL
theorem ok_is_below (F:Fun K "is_below" "is_below" qFO f fd) (qK8:Clb P w K mg base 1 qGG qNR "is_number" ["thing"] qQ0):FnOk P w K mg base CX0 2 f fd ["thing","end"] qT6:=by
 refine F.okA qOL fun cdv A outer s H vs Q E hr h=>?_;obtain ⟨i,k,rfl,h0,h1,q⟩:=h;refine ⟨_,(qA5 (qAE (qI3 (qAV qK8 hr rfl (qA0 (pv 0) qA3)) (qJC (qX4 qa2 qLZ qA8 (pv 0) (pv 1)))))),?_⟩
 try dsimp only [Cx.nox,Cx.wish,cxOf]
 refine ⟨_,rfl,i,rfl,_,rfl,?_⟩;refine ⟨_,rfl,_,_,rfl,rfl,_,rfl,?_⟩;rw [decide_eq_true h0];refine ⟨_,rfl,_,_,rfl,rfl,?_⟩;dsimp only;rw [decide_eq_true h1];exact q
theorem sc_is_rising:FnScope ["thing","end","least","number"] ["thing","end"] (qAB qE3):=qBL
theorem ok_is_rising (F:Fun K "is_rising" "is_rising" qE3 f fd) (qLE:Clb P w K mg base 2 qHS qP9 "is_below" ["thing","end"] qT6) (qAD:mg "isinstance" = none) (qAK:mg "tuple" = none):FnOk P w K mg base CX0 3 f fd ["thing","end"] qEY:=by
 refine F.okA sc_is_rising fun cdv A outer s H vs Q E hr h=>?_;obtain ⟨a,zs,k,rfl,hA,rz,hl,q⟩:=h;refine ⟨_,(qA4 (qB5 (qCG (qBQ (qA7 qAT rfl qAD qAH (qA0 (pv 0) (qA0 (qBN (v:=.ty "tuple") rfl qAK qAO rfl) qA3))))) (qA5 (qAE qC3)) qAI) (qA4 (qAM (i:=2) sc_is_rising.nd rfl (E9 rfl) qA8) (qA4 (qBT D3 rfl (qCX (pv 0)) (qAY (i:=3) sc_is_rising.nd rfl (E9 rfl)) (qA4 (qB5 (PW.pt (qGU (qCG (qBQ (qAV qLE hr rfl (qA0 (pv 3) (qA0 (pv 1) qA3))))) (qEP (qAN qLZ (pv 3) (pv 2) (qAS _))))) (qA5 (qAE qC3)) qAI) (qA5 (qAM (i:=2) sc_is_rising.nd rfl (E9 rfl) (qAP qD6 (pv 3) qA8))))) (qA5 (qAE qC3))))),?_⟩
 try dsimp only [Cx.nox,Cx.wish,cxOf]
 refine ⟨_,rfl,_,"tuple",_,true,rfl,.inr ⟨a,_,rfl,hA,rfl⟩,qH2 true,_,rfl,?_⟩;refine ⟨_,rfl,a,rfl,⟨_,.inl hA⟩,qGF (a:=a) (xs:=zs.map V.int) (fun i σ Hc=>∃ (least:Int) (v3:Option V),σ=[some (.ref a),some (.int k),some (.int least),v3]/\Hc=H/\∀ (x:Int),x ∈ zs.drop i->least<=x)
  ⟨0,none,rfl,rfl,fun x hx=>(rz.in_ x hx).1⟩ ?_ ?_ ?_⟩
 ·refine fun i σ Hc hi hI_1=>opq fun G_1 hG_1=>?_;obtain ⟨least,v3,rfl,rfl,_⟩:=hI_1;refine hG_1 ?_;exact .inl hA
 ·refine fun i x σ Hc hx hI_2=>opq fun G_2 hG_2=>?_;obtain ⟨least,v3,rfl,rfl,hle⟩:=hI_2;obtain ⟨z,hz,rfl⟩:=qAX hx;refine hG_2 ?_;have hz':=B5 hz;obtain ⟨hi',ez⟩:=A4.mp hz;have ed:zs.drop i=z::zs.drop (i+1):=by rw [O6 hi',ez]
  refine ⟨_,rfl,_,rfl,z,k,rfl,(rz.in_ z hz').1,(rz.in_ z hz').2,?_⟩;refine ⟨_,rfl,_,rfl,_,rfl,_,_,rfl,rfl,_,rfl,?_⟩;have hlz:least<=z:=hle z (by rw [ed];exact F4 ..)
  rw [decide_eq_false (by lia:¬ z<least)]
  refine ⟨_,rfl,_,_,rfl,rfl,?_⟩;refine ⟨z+1,_,rfl,rfl,fun x hx=>?_⟩;have up:=rz.up.sublist (V2 i zs);rw [ed,O0] at up;have:=up.1 x hx
  lia
 ·refine fun σ Hc hI_3=>opq fun G_3 hG_3=>?_;obtain ⟨least,v3,rfl,rfl,_⟩:=hI_3;refine hG_3 ?_;exact q _ (.refl _)
theorem qRN:FnScope ["thing"] ["thing"] (qAB qGP):=qBL
theorem ok_is_pair (F:Fun K "is_pair" "is_pair" qGP f fd) (qAD:mg "isinstance" = none) (qAK:mg "tuple" = none) (qB2:mg "len" = none):FnOk P w K mg base CX0 1 f fd ["thing"] qMZ:=by
 refine F.okA qRN fun cdv A outer s H vs Q E hr h=>?_;obtain ⟨a,x,y,rfl,hA,q⟩:=h;refine ⟨_,(qA5 (qAE (qI3 (qA7 qC0 rfl qAD qAH (qA0 (pv 0) (qA0 (qBN (v:=.ty "tuple") rfl qAK qAO rfl) qA3))) (qJC (qCC qGA (qA7 qAA rfl qB2 qB4 (qA0 (pv 0) qA3)) qA8 (qAS _)))))),?_⟩
 try dsimp only [Cx.nox,Cx.wish,cxOf]
 refine ⟨_,rfl,_,"tuple",_,true,rfl,TyOf.tup hA,qH2 true,_,rfl,?_⟩;refine ⟨_,rfl,a,_,rfl,.inr (Ac0 hA),rfl,?_⟩;exact q
theorem qOK:FnScope ["net","rooms","thing"] ["net","rooms","thing"] (qAB qFN):=qBL
theorem ok_is_stand (F:Fun K "is_stand" "is_stand" qFN f fd) (qEM:Clb P w K mg base 3 qEE qI5 "is_rising" ["thing","end"] qEY) (qB2:mg "len" = none):FnOk P w K mg base CX0 4 f fd ["net","rooms","thing"] qMY:=by
 refine F.okA qOK fun cdv A outer s H vs Q E hr h=>?_;obtain ⟨a,t,Ae,Aa,zs,rfl,hN,n12,hT,rz,lz,q⟩:=h;obtain ⟨ra,hA,NL⟩:=id hN;have lra:=B7 NL;have lzs:=rz.len;refine ⟨_,(qA5 (qAE (qI3 (qAV qEM hr rfl (qA0 (pv 2) (qA0 (qA7 qAA rfl qB2 qB4 (qA0 (pv 0) qA3)) qA3))) (qJC (qCC qa2 (qA7 qAA rfl qB2 qB4 (qA0 (pv 2) qA3)) (pv 1) (qAS _)))))),?_⟩
 try dsimp only [Cx.nox,Cx.wish,cxOf]
 refine ⟨_,rfl,_,rfl,a,_,rfl,.inr (Ac0 hA),?_⟩;rw [A0,lra];refine ⟨t,zs,_,rfl,.inl hT,rz,by lia,fun H1 s1=>⟨_,rfl,?_⟩⟩
 refine iteT ?_;refine ⟨_,rfl,t,_,rfl,.inr (Ac0 (s1 _ _ hT)),_,rfl,_,_,rfl,rfl,?_⟩;dsimp only;rw [A0,decide_eq_true lz];exact q _ s1
theorem keyT {Af:List (List Key × V)} {z s:List Int} :(valV (putK Af (keyS z) (.bl true)) (keyS s)).isSome=(decide (s=z) || (valV Af (keyS s)).isSome):=by
 rw [qGO];by_cases e:s=z
 ·rw [e,if_pos rfl,decide_eq_true rfl];rfl
 ·rw [if_neg fun h=>e (qH3 h),decide_eq_false e,B08]
theorem keyL {Af:List (List Key × V)} {z:List Int} :∀ {ks:Aa0},Af.map (·.1)=ks.map keyS->(putK Af (keyS z) (.bl true)).map (·.1)=(if z ∈ ks then ks else ks++[z]).map keyS:=by
 intro ks h;have an:(Af.any fun kv=>decide (kv.1=keyS z))=decide (z ∈ ks):=by
  rw [J4,decide_eq_true_eq,k7]
  constructor
  ·refine fun hI_1=>opq fun G_1 hG_1=>?_;obtain ⟨kv,h1,h2⟩:=hI_1;refine hG_1 ?_;have:kv.1 ∈ ks.map keyS:=by rw [<- h];exact R1 h1
   obtain ⟨y,hy,e⟩:=D5.mp this;rw [of_decide_eq_true h2] at e;rw [<- qH3 e];exact hy
  ·intro hz;have:keyS z ∈ Af.map (·.1):=by rw [h];exact R1 hz
   obtain ⟨kv,h1,h2⟩:=D5.mp this;exact ⟨kv,h1,decide_eq_true h2⟩
 unfold putK;rw [an];by_cases e:z ∈ ks
 ·rw [decide_eq_true e,if_pos rfl,if_pos e,<- h,Z9];refine R3 fun kv _=>?_;show (if kv.1=keyS z then (kv.1,V.bl true) else kv).1=kv.1
  split <;> rfl
 ·rw [decide_eq_false e,if_neg (by decide),if_neg e,B1,B1,h]
  rfl
theorem sc_are_closed:FnScope ["net","rooms","stands","known","stand","move"] ["net","rooms","stands"] (qAB qDG):=qBL
theorem ok_are_closed (F:Fun K "are_closed" "are_closed" qDG f fd) (qG2:Clb P w K mg base 3 qG0 qJX "moves_of" ["net","rooms","stand"] qJ1) (qCQ:Clb P w K mg base 1 qCP qFA "stand_behind" ["stand","move"] qEZ):FnOk P w K mg base CX0 4 f fd ["net","rooms","stands"] qQ6:=by
 refine F.okA sc_are_closed fun cdv A outer s H vs Q E hr h=>?_;obtain ⟨a,l,Ae,Aa,want,rs,ss,rfl,hN,wf,n12,gl,SL,l5,NV,q⟩:=h;have hu:=qHO hr;refine ⟨_,(qA4 (qAM (i:=3) sc_are_closed.nd rfl (E9 rfl) qX3) (qA4 (qBT D3 rfl (qCA (pv 2)) (qAY (i:=4) sc_are_closed.nd rfl (E9 rfl)) (qA5 (qE7 hu (pv 3) (pv 4) qC3 rfl))) (qA4 (qBT D3 rfl (qLX (qOS (pv 3))) (qAY (i:=4) sc_are_closed.nd rfl (E9 rfl)) (qA5 (qBT D3 rfl (qCA (qAV qG2 hr rfl (qA0 (pv 0) (qA0 (pv 1) (qA0 (pv 4) qA3))))) (qAY (i:=5) sc_are_closed.nd rfl (E9 rfl)) (qA5 (qB5 (qDI (qDU hu (qAV qCQ hr rfl (qA0 (pv 4) (qA0 (pv 5) qA3))) (pv 3))) (qA5 (qAE qC3)) qAI))))) (qA5 (qAE qC3))))),?_⟩
 try dsimp only [Cx.nox,Cx.wish,cxOf]
 refine cut fun N0 hN0=>?_;intro dk hdk;have s1:=qA2 hdk (.dT []);have g1:(Ag H dk (.dT [])) dk=some (.dT []):=qA1;generalize Ag H dk (.dT [])=H1 at s1 g1 ⊢;refine hN0 _ _ (cut fun N1 hN1=>?_);have lrs:rs.length=ss.length:=B7 SL;refine ⟨_,rfl,l,rfl,⟨_,Ab2 (s1 _ _ gl)⟩,qFX (a:=l) (xs:=rs.map V.ref) (fun i σ Hc=>∃ (Af:List (List Key × V)) (ks:Aa0) (v4:Option V),σ=[some (.ref a),some (.int Aa),some (.ref l),some (.ref dk),v4,none]/\Same H Hc/\Hc dk=some (.dT Af)/\Af.map (·.1)=ks.map keyS/\(∀ z:List Int,(valV Af (keyS z)).isSome=true ↔ z ∈ ss.take i)/\ks.length<=i/\∀ z ∈ ks,z ∈ ss)
  ⟨[],[],none,rfl,s1,g1,rfl,fun z=>by simp [valV],A6 _,fun z hz=>nomatch hz⟩ (fun i σ Hc _ hP=>by obtain ⟨_,_,_,_,sc,_⟩:=hP;exact Ab2 (sc _ _ gl)) ?_ ?_⟩
 ·refine fun i x σ Hc hx hI_2=>opq fun G_2 hG_2=>?_;obtain ⟨Af,ks,v4,rfl,sc,gd,ek,vk,lk,ik⟩:=hI_2;obtain ⟨r,er,rfl⟩:=qC6 hx;obtain ⟨z,ez,gz⟩:=qAU SL er;refine hG_2 ?_;have hi:=(A4.mp ez).1;have lkv:Af.length=ks.length:=by have:=congrArg V5 ek;rw [A0,A0] at this;exact this
  have gz1:Hc r=some (.tup ((keyS z).map kV)):=by rw [qD8];exact sc _ _ gz
  refine ⟨_,rfl,_,rfl,dk,_,rfl,DPut.t (k:=keyS z) gd gz1 (qBF (by lia)),?_⟩
  refine ⟨_,_,_,rfl,qAC sc hdk,qA1,keyL ek,fun y=>?_,?_,fun y hy=>?_⟩
  ·rw [keyT,X0,decide_eq_true_eq,vk,C8,ez,C9,B3,A7];exact or_comm
  ·split
   ·lia
   ·rw [B0];show _+1<=_
    lia
  ·by_cases e:z ∈ ks
   ·rw [if_pos e] at hy;exact ik y hy
   ·rw [if_neg e] at hy;rcases B3.mp hy with h | h
    ·exact ik y h
    ·rw [A7.mp h];exact B5 ez
 ·refine fun σ Hc hI_3=>opq fun G_3 hG_3=>?_;obtain ⟨Af,ks,v4,rfl,sc,gd,ek,vk,lk,ik⟩:=hI_3;refine hG_3 ?_;rw [A0,lrs,R7] at vk;refine hN1 _ _ (cut fun N2 hN2=>?_);refine ⟨_,rfl,dk,_,rfl,gd,fun o=>⟨dk,o,_,rfl,qA1,?_⟩⟩;have sd:Same H (Ag Hc dk (.frz o (.dT Af))):=qAC sc hdk;have gdk:(Ag Hc dk (.frz o (.dT Af))) dk=some (.frz o (.dT Af)):=qA1;generalize Ag Hc dk (.frz o (.dT Af))=Hd at sd gdk ⊢;refine qL7 (a:=dk) (o:=o) (Af:=Af) (fun i σ He=>∃ (v4 v5:Option V),σ=[some (.ref a),some (.int Aa),some (.ref l),some (.ref dk),v4,v5]/\Same Hd He)
   ⟨v4,none,rfl,.refl _⟩ (fun i σ He _ ⟨_,_,_,z⟩=>z _ _ gdk) ?_ ?_
  ·refine fun i k v r σ He hkv gr hI_4=>opq fun G_4 hG_4=>?_;obtain ⟨v4,v5,rfl,se⟩:=hI_4;refine hG_4 ?_;have hk:k ∈ ks.map keyS:=by rw [<- ek];exact R1 (f:=fun x:List Key × V=>x.1) (B5 hkv)
   obtain ⟨z,hz,rfl⟩:=D5.mp hk;rw [qD8] at gr;have hzs:=ik z hz;have rz:=NV.rise z hzs;have lz:=rz.len;refine ⟨_,rfl,_,rfl,_,rfl,a,r,Ae,z,Aa,rfl,hN.same (sd.trans se),wf,by lia,gr,by lia,fun lm rm H3 s3 fl gm ML=>?_⟩
   have lrm:rm.length=(qDZ Ae z Aa).length:=B7 ML;refine ⟨lm,rfl,⟨_,Ab2 gm⟩,qFX (a:=lm) (xs:=rm.map V.ref) (fun k σ Hf=>∃ (v5:Option V),σ=[some (.ref a),some (.int Aa),some (.ref l),some (.ref dk),some (.ref r),v5]/\Same H3 Hf)
    ⟨v5,rfl,.refl _⟩ (fun k σ Hf _ hP=>by obtain ⟨_,_,zf⟩:=hP;exact Ab2 (zf _ _ gm)) ?_ ?_⟩
   ·refine fun k x σ Hf hx hI_5=>opq fun G_5 hG_5=>?_;obtain ⟨v5,rfl,sf⟩:=hI_5;obtain ⟨mv,hmv,rfl⟩:=qC6 hx;obtain ⟨⟨Ac,wk⟩,hm2,gmv⟩:=qAU ML hmv;refine hG_5 ?_;dsimp only at gmv;have hw:=(due_iff.mp (B5 hm2)).1.1;refine ⟨_,rfl,_,rfl,r,mv,z,Ac,wk,rfl,sf _ _ (s3 _ _ gr),by lia,sf _ _ gmv,hw,fun r2 st2 H4 s4 gr2 beh=>?_⟩
    have e2:=qW0 (m:=(Ac,wk)) rz hw beh;rw [e2] at gr2;have inn:=(vk _).mpr (NV.shut z hzs _ (B5 hm2));refine ⟨_,rfl,dk,_,rfl,.inr ⟨Af,keyS (behL z (Ac,wk)),r2,.inr ⟨o,s4 _ _ (sf _ _ (s3 _ _ (se _ _ gdk)))⟩,rfl,by rw [qD8];exact gr2,rfl⟩,_,rfl,?_⟩
    rw [inn];exact ⟨_,rfl,sf.trans s4⟩
   ·refine fun σ Hf hI_6=>opq fun G_6 hG_6=>?_;obtain ⟨v5,rfl,sf⟩:=hI_6;refine hG_6 ?_;exact ⟨_,_,rfl,se.trans (s3.trans sf)⟩
  ·refine fun σ He hI_7=>opq fun G_7 hG_7=>?_;obtain ⟨v4,v5,rfl,se⟩:=hI_7;refine hG_7 ?_;exact hN2 _ _ (q _ (sd.trans se))
theorem qIC:FnScope ["net","wanted","rooms","stands"] ["net","wanted","rooms","stands"] (qAB qC9):=qBL
theorem ok_never_come_to (F:Fun K "never_come_to" "never_come_to" qC9 f fd) (qLD:Clb P w K mg base 4 qHR qP8 "is_stand" ["net","rooms","thing"] qMY) (qI8:Clb P w K mg base 4 qFC qM6 "are_closed" ["net","rooms","stands"] qQ6) (qE2:Clb P w K mg base 1 qHC qL9 "has_all" ["results","works"] qT5) (qAD:mg "isinstance" = none) (qCW:mg "list" = none) (qEU:mg "all" = none) (qZE:mg "any" = none):FnOk P w K mg base CX0 5 f fd ["net","wanted","rooms","stands"] qMX:=by
 refine F.okA qIC fun cdv A outer s H vs Q E hr h=>?_;obtain ⟨a,lw,l,Ae,Aa,want,rs,ss,rfl,hN,wf,n12,gw,lwl,gl,SL,l5,NV,q⟩:=h;have hu64:=hr.units;refine ⟨_,(qA4 (qB5 (PW.pt (qGU (qCG (qBQ (qA7 qC0 rfl qAD qAH (qA0 (pv 3) (qA0 (qBN (v:=.ty "list") rfl qCW qFI rfl) qA3))))) (qEP (qCG (qBQ (qA7 (qEJ rfl) rfl qEU qK6 (qA0 (qCB rfl (lcs (own:=["stand"]) (fv:=[0,2]) (by kernel_rfl)) (qCA (pv 3)) (fun z1=>qBG 0) (fun z1=>qAZ) (fun z1=>(qAV qLD hr rfl (qA0 (pv 1) (qA0 (pv 2) (qA0 (pv 0) qA3)))))) qA3))))))) (qA5 (qAE qC3)) qAI) (qA4 (qB5 (PW.pt (qGU (qAN (qGY hu64) (qCH qA3) (pv 3) (by with_unfolding_all rfl)) (qEP (qCG (qBQ (qAV qI8 hr rfl (qA0 (pv 0) (qA0 (pv 2) (qA0 (pv 3) qA3))))))))) (qA5 (qAE qC3)) qAI) (qA5 (qAE (qTQ (qA7 (qRA rfl) rfl qZE qZ7 (qA0 (qCB rfl (lcs (own:=["stand"]) (fv:=[1]) (by kernel_rfl)) (qCA (pv 3)) (fun z2=>qBG 0) (fun z2=>qAZ) (fun z2=>(qAV qE2 hr rfl (qA0 (pv 0) (qA0 (pv 1) qA3))))) qA3))))))),?_⟩
 try dsimp only [Cx.nox,Cx.wish,cxOf]
 have lrs:rs.length=ss.length:=B7 SL;refine cut fun N0 hN0=>?_;refine ⟨_,rfl,_,"list",_,true,rfl,TyOf.lst gl,rfl,_,rfl,?_⟩;refine ⟨_,rfl,l,rfl,⟨_,Ab2 gl⟩,fun p hp=>?_⟩;refine qE9 (p:=p) (a:=l) (xs:=rs.map V.ref) (fun i σ Hc=>∃ (v:Option V),σ=[v,some (.ref a),some (.int Aa)]/\Same H Hc/\Hc p=some (.lst ((D2 i true).map V.bl))) ?_ ?_ ?_ ?_
 ·exact ⟨none,rfl,qA2 hp _,qA1⟩
 ·rintro i σ Hc hi ⟨v,rfl,sm,_⟩;exact Ab2 (sm _ _ gl)
 ·refine fun i x σ Hc hx hI_2=>opq fun G_2 hG_2=>?_;obtain ⟨v,rfl,sm,hpc⟩:=hI_2;obtain ⟨r,er,rfl⟩:=qC6 hx;obtain ⟨z,ez,gz⟩:=qAU SL er;refine hG_2 ?_;have hi:=(A4.mp ez).1;have hz:=B5 ez;refine ⟨_,rfl,_,rfl,_,rfl,a,r,Ae,Aa,z,rfl,hN.same sm,n12,sm _ _ gz,NV.rise z hz,NV.few z hz,fun H2 s2=>?_⟩;refine ⟨_,s2 _ _ hpc,qBF (by rw [A0,L8];lia),_,rfl,qAC (sm.trans s2) hp,?_⟩
  rw [qA1,U5,B1]
  rfl
 refine fun σ Hc hI_3=>opq fun G_3 hG_3=>?_;obtain ⟨v,rfl,sm,hpc⟩:=hI_3;refine hG_3 ?_;refine ⟨p,_,rfl,Ab2 hpc,?_⟩;have al:((D2 (rs.map V.ref).length true).all id)=true:=G1.mpr fun x hx=>by rw [(c5.mp hx).2];rfl
 rw [al];refine ⟨_,rfl,?_⟩;refine hN0 _ _ (cut fun N1 hN1=>?_);refine ⟨(by show 0<=B28;decide),fun e he=>?_⟩
 have s1:=sm.trans (qA2 he (.tup []));have ge:(Ag Hc e (.tup [])) e=some (.tup (([]:List Int).map V.int)):=qA1;generalize Ag Hc e (.tup [])=H1 at s1 ge ⊢;refine ⟨_,rfl,e,l,[],rs,ss,rfl,rfl,ge,Ab2 (s1 _ _ gl),SL.same s1,_,rfl,?_⟩;rw [decide_eq_false (fun h=>h NV.nil)];refine ⟨_,rfl,_,rfl,_,rfl,a,l,Ae,Aa,want,rs,ss,rfl,hN.same s1,wf,n12,s1 _ _ gl,SL.same s1,l5,NV,fun H2 s2=>⟨_,rfl,?_⟩⟩;have s12:=s1.trans s2;have SL2:=SL.same s12;refine hN1 _ _ ?_;refine ⟨_,rfl,l,rfl,⟨_,Ab2 (s12 _ _ gl)⟩,fun p2 hp2=>?_⟩;refine qE9 (p:=p2) (a:=l) (xs:=rs.map V.ref) (fun i σ Hc=>∃ (v:Option V),σ=[v,some (.ref lw)]/\Same H2 Hc/\Hc p2=some (.lst ((D2 i false).map V.bl))) ?_ ?_ ?_ ?_
 ·exact ⟨none,rfl,qA2 hp2 _,qA1⟩
 ·rintro i σ Hd hi ⟨v,rfl,sd,_⟩;exact Ab2 (sd _ _ (s12 _ _ gl))
 ·refine fun i x σ Hd hx hI_5=>opq fun G_5 hG_5=>?_;obtain ⟨v,rfl,sd,hpd⟩:=hI_5;obtain ⟨r,er,rfl⟩:=qC6 hx;obtain ⟨z,ez,gz⟩:=qAU SL2 er;refine hG_5 ?_;have hi:=(A4.mp ez).1;refine ⟨_,rfl,_,rfl,false,r,lw,z,want,rfl,sd _ _ gz,.inl (sd _ _ (s12 _ _ gw)),lwl,fun H3 s3=>?_⟩;rw [decide_eq_false (NV.no z (B5 ez))];refine ⟨_,s3 _ _ hpd,qBF (by rw [A0,L8];lia),_,rfl,qAC (sd.trans s3) hp2,?_⟩
  rw [qA1,U5,B1]
  rfl
 refine fun σ Hd hI_6=>opq fun G_6 hG_6=>?_;obtain ⟨v,rfl,sd,hpd⟩:=hI_6;refine hG_6 ?_;refine ⟨p2,_,rfl,Ab2 hpd,?_⟩;have an:((D2 (rs.map V.ref).length false).any id)=false:=A61.mpr fun x hx=>by rw [(c5.mp hx).2];decide
 rw [an];exact ⟨_,rfl,q _ (s12.trans sd)⟩
theorem qWW {ws:List Int} {x:Int} (h:x ∉ ws):qC7 ws x=none:=by
 cases e:qC7 ws x with
 | none=>rfl
 | some p=>exact absurd (B5 (qF3 e).2) h
theorem sc_shows_never:FnScope ["net","asked","rooms","thing","works","wanted"] ["net","asked","rooms","thing"] (qAB qCZ):=qBL
theorem ok_shows_never (F:Fun K "shows_never" "shows_never" qCZ f fd) (qO8:Clb P w K mg base 1 qJY qSD "is_pair" ["thing"] qMZ) (qEM:Clb P w K mg base 3 qEE qI5 "is_rising" ["thing","end"] qEY) (qG1:Clb P w K mg base 2 qFZ qJW "part_net" ["net","works"] qOF) (qFJ:Clb P w K mg base 5 qDB qIH "never_come_to" ["net","wanted","rooms","stands"] qMX) (qB2:mg "len" = none):FnOk P w K mg base CX0 6 f fd ["net","asked","rooms","thing"] qIJ:=by
 refine F.okA sc_shows_never fun cdv A outer s H vs Q E hr h=>?_;obtain ⟨a,t,T,tw,l,Ae,Ad,ws,Aa,rs,ss,rfl,hN,wf,n12,⟨hT,rA⟩,PN,rW,wne,l5,NV,q⟩:=h;refine ⟨_,(qA4 (qB5 (PW.pt (qGU (qCG (qBQ (qAV qO8 hr rfl (qA0 (pv 3) qA3)))) (qEP (qCG (qBQ (qAV qEM hr rfl (qA0 (qBA qBD (pv 3) qA8 (fun _ _=>rfl)) (qA0 (qA7 qAA rfl qB2 qB4 (qA0 (pv 0) qA3)) qA3)))))))) (qA5 (qAE qC3)) qAI) (qA4 (qAM (i:=4) sc_shows_never.nd rfl (l7 rfl) (qBA qBD (pv 3) qA8 (fun _ _=>rfl))) (qA4 (qN7 (i:=5) sc_shows_never.nd rfl rfl rfl (lcs (own:=["work"]) (fv:=[4]) (by kernel_rfl)) (qCX (pv 1)) (fun z1=>qBG 0) (fun z1=>(qD5 (qAN (qKV (K:=K) rfl) (pv 0) (pv 1) (by with_unfolding_all rfl)))) (fun z1=>(qYO (X:=lcCx _ _ _ _ z1) A01 A02 A03 (qJI (K:=K) rfl) (pv 1) (qA0 (pv 0) qA3))) (by kernel_rfl)) (qA5 (qAE (qI3 (qCC qTX (qA7 qAA rfl qB2 qB4 (qA0 (pv 5) qA3)) qA8 (qAS _)) (qJC (qAV qFJ hr rfl (qA0 (qAV qG1 hr rfl (qA0 (pv 0) (qA0 (pv 4) qA3))) (qA0 (pv 5) (qA0 (pv 2) (qA0 (qBA qBD (pv 3) qA8 (fun _ _=>rfl)) qA3)))))))))))),?_⟩
 try dsimp only [Cx.nox,Cx.wish,cxOf]
 obtain ⟨ra,hA,NL⟩:=id hN;have lra:=B7 NL;have lws:=rW.len;have lA:=rA.len;have gT:=PN.tup;have rdw:Rd H tw (.tup (ws.map V.int)):=(let ⟨o,e,_⟩:=PN.works;.inr ⟨o,e⟩)
 refine cut fun N0 hN0=>?_;refine ⟨_,rfl,T,_,_,rfl,gT,_,rfl,?_⟩;refine ⟨_,rfl,T,_,_,_,rfl,rfl,Ac0 gT,rfl,_,rfl,a,_,rfl,.inr (Ac0 hA),?_⟩;rw [A0,lra];refine ⟨tw,ws,_,rfl,rdw,rW,by lia,fun H1 s1=>⟨_,rfl,?_⟩⟩
 refine hN0 _ _ (cut fun N1 hN1=>?_);refine ⟨_,rfl,T,_,_,_,rfl,rfl,Ac0 (s1 _ _ gT),rfl,?_⟩;refine hN1 _ _ (cut fun N2 hN2=>?_);refine ⟨_,rfl,t,rfl,⟨_,Ac0 (s1 _ _ hT)⟩,fun p hp=>?_⟩;refine qER (p:=p) (a:=t) (xs:=Ad.map V.int) (fun i σ Hc=>∃ (v0:Option V),σ=[v0,some (.ref tw)]/\Same H1 Hc/\Hc p=some (.lst ((qC8 ws (Ad.take i)).map V.int))) ?_ ?_ ?_ ?_
 ·exact ⟨none,rfl,qA2 hp _,qA1⟩
 ·rintro i σ Hc hi ⟨v0,rfl,sm,_⟩;exact Ac0 (sm _ _ (s1 _ _ hT))
 ·refine fun i x σ Hc hx hI_2=>opq fun G_2 hG_2=>?_;obtain ⟨v0,rfl,sm,hpc⟩:=hI_2;obtain ⟨y,ey,rfl⟩:=qAX hx;refine hG_2 ?_;have lt:=(A4.mp ey).1;have hT2:=(PN.works.same s1).same sm;have lk:(qC8 ws (Ad.take i)).length<=i:=F6 (P0 _ _) (by rw [C5];lia)
  have tk:qC8 ws (Ad.take (i+1))=qC8 ws (Ad.take i)++(qC7 ws y).toList:=by
   unfold qC8;rw [C8,ey,C9,X5];cases e:qC7 ws y <;> simp [e]
  refine ⟨_,rfl,_,rfl,tw,_,rfl,.inr hT2.sq,rfl,qBY ws,_,rfl,?_⟩;rw [qDN];by_cases cy:y ∈ ws
  ·rw [decide_eq_true cy];obtain ⟨j,hj⟩:=P7 cy;have first:∀ k,k<j->ws[k]? ≠ some y:=fun k hk e=>by
    obtain ⟨h1,e1⟩:=A4.mp e;obtain ⟨h2,e2⟩:=A4.mp hj;exact absurd (e1.trans e2.symm) (F9.mp rW.nodup k j h1 h2 hk)
   refine iteT ?_;refine ⟨_,rfl,⟨tw,_,rfl,hT2⟩,_,rfl,tw,ws,y,j,rfl,rfl,hT2.sq,hj,first,_,hpc,qAF (by rw [A0];lia),_,rfl,qAC sm hp,?_⟩
   rw [qA1,tk,qFR rW.nodup hj,B1]
   rfl
  ·rw [decide_eq_false cy];refine iteF ?_;refine ⟨_,rfl,sm,?_⟩;rw [tk,qWW cy,hpc];simp
 refine fun σ Hc hI_3=>opq fun G_3 hG_3=>?_;obtain ⟨v0,rfl,sm,hpc⟩:=hI_3;refine hG_3 ?_;rw [A0,R7] at hpc;have s2:=s1.trans sm;have lwl:(qC8 ws Ad).length<=Ad.length:=P0 _ _;have w0:0<(qC8 ws Ad).length:=o5.mpr wne;refine hN2 _ _ ?_;refine ⟨_,rfl,p,_,rfl,.inl (Ab2 hpc),_,_,rfl,rfl,_,rfl,?_⟩;rw [A0];refine ite2 (fun _=>?_) (fun c=>?_)
 ·refine ⟨_,rfl,_,rfl,a,tw,Ae,ws,rfl,hN.same s2,wf,by lia,rdw.same s2,rW,fun b H3 s3 hB=>?_⟩
  have s13:=s2.trans s3;have gT3:=s13 _ _ gT;refine ⟨_,rfl,_,rfl,_,rfl,T,_,_,_,rfl,rfl,Ac0 gT3,rfl,?_⟩;refine ⟨b,p,l,qCJ Ae ws,Aa,qC8 ws Ad,rs,ss,rfl,hB,qDV wf rW,by rw [qBX];lia,s3 _ _ hpc,by lia,s13 _ _ PN.lst,PN.at_.same s13,l5,NV,fun H4 s4=>?_⟩
  exact q _ (s13.trans s4)
 ·exact absurd (decide_eq_true (show (0:Int)<((qC8 ws Ad).length:Int) by lia)) c
theorem sc_never_paper:FnScope ["net","asked","rooms","works","reached"] ["net","asked","rooms"] (qAB qD0):=qBL
theorem ok_never_paper (F:Fun K "never_paper" "never_paper" qD0 f fd) (qI9:Clb P w K mg base 1 qFD qM7 "all_needed" ["net","asked"] qYH) (qG1:Clb P w K mg base 2 qFZ qJW "part_net" ["net","works"] qOF) (qG7:Clb P w K mg base 1 qDP qJV "part_numbers" ["works","asked"] qPZ) (qES:Clb P w K mg base 4 qCV qHQ "stands_reached" ["net","rooms"] qPY) (qLG:Clb P w K mg base 2 qDY qPB "best_end" ["reached","asked"] (qYG Pt)) (qAK:mg "tuple" = none) (qC1:mg "sorted" = none):FnOk P w K mg base CX0 5 f fd ["net","asked","rooms"] (qQ1 Pt):=by
 refine F.okA sc_never_paper fun cdv A outer s H vs Q E hr h=>?_;obtain ⟨a,t,Ae,Ad,ws,Aa,rfl,hTab,hN,wf,n12,⟨hT,rA⟩,a1,N,q1,q2⟩:=h;have hu64:=hr.units;refine ⟨_,(qA4 (qAM (i:=3) sc_never_paper.nd rfl (E9 rfl) (qAG qPK rfl qAK qAO (qA0 (qAV qI9 hr rfl (qA0 (pv 0) (qA0 (pv 1) qA3))) qA3))) (qA4 (qAM (i:=4) sc_never_paper.nd rfl (E9 rfl) (qAV qES hr rfl (qA0 (qAV qG1 hr rfl (qA0 (pv 0) (qA0 (pv 3) qA3))) (qA0 (pv 2) qA3)))) (qA4 (qB5 (qDI (qa0 (qAV qLG hr rfl (qA0 (pv 4) (qA0 (qAV qG7 hr rfl (qA0 (pv 3) (qA0 (pv 1) qA3))) qA3))))) (qA5 (qAE qI2)) qAI) (qA5 (qAE (qCH (qA0 (pv 3) (qA0 (qA7 (L2.G.call_sortedTD rfl hu64) rfl qC1 qDD (qA0 (pv 4) qA3)) qA3)))))))),?_⟩
 try dsimp only [Cx.nox,Cx.wish,cxOf]
 refine cut fun N0 hN0=>?_;refine ⟨_,rfl,_,rfl,a,t,Ae,Ad,rfl,hN,wf,by lia,hT,rA.in_,fun la ws' H1 s1 fla gla N'=>?_⟩
 have ew:=qKZ N' N;subst ew;refine ⟨la,_,rfl,Ab2 gla,fun tw ob htw oc od=>?_⟩;have s2:=s1.trans (qA2 htw (.frz ob (.tup (ws'.map V.int))));have gtw:BareT (Ag H1 tw (.frz ob (.tup (ws'.map V.int)))) tw (ws'.map V.int):=⟨ob,qA1,oc,od⟩;generalize Ag H1 tw (.frz ob (.tup (ws'.map V.int)))=H2 at s2 gtw ⊢;refine hN0 _ _ (cut fun N1 hN1=>?_);refine ⟨_,rfl,_,rfl,a,tw,Ae,ws',rfl,hN.same s2,wf,by lia,(let ⟨o,e,_⟩:=gtw;.inr ⟨o,e⟩),N.1,fun b H3 s3 hB=>?_⟩
 have sm3:=s2.trans s3;have lw:=N.1.len;have wp:WFn (qCJ Ae ws'):=qDV wf N.1;have lp:=qBX Ae ws';have ha:∀ x ∈ Ad,x ∈ ws':=fun x hx=>(N.2 x).mpr (.ask hx);have lasked:=rA.len;have rW:=qRH N rA;have lW:=rW.len;refine ⟨_,rfl,b,qCJ Ae ws',Aa,rfl,hB,wp,by lia,fun d o Af ks fu H4 s4 fd4 gd ent RC hh=>?_⟩
 have sm4:=sm3.trans s4;have gtw4:=(gtw.same s3).same s4;have lk:=RC.len;have pw:2 ^ (qCJ Ae ws').length<=2 ^ 12:=Y2 (by decide) (by lia)
 refine hN1 _ _ (cut fun N2 hN2=>?_);refine ⟨_,rfl,_,rfl,_,rfl,tw,t,ws',Ad,rfl,gtw4,sm4 _ _ hT,N.1.nodup,by lia,by lia,ha,fun wt H5 s5 gwt=>?_⟩
 have sm5:=sm4.trans s5;refine ⟨d,wt,o,Af,ks,fu,qC8 ws' Ad,rfl,sm5 _ _ hTab,s5 _ _ gd,ent.same s5,F6 lk (by lia),gwt,by lia,fun H6 s6=>⟨fun hn=>?_,fun rr st gst hst hall least=>?_⟩⟩
 ·have nd:=qc6 N rA (qVZ wp rW RC hn);have sm6:=sm5.trans s6;refine ⟨_,rfl,iteF (hN2 _ _ ?_)⟩;have hd:∃ ts',ks=[]::ts':=by
   cases ks with
   | nil=>cases hh
   | cons x r=>cases hh;exact ⟨r,rfl⟩
  refine ⟨_,rfl,_,rfl,d,o,Af,ks,rfl,s6 _ _ (s5 _ _ gd),ent.keys1,hd,fun sl rs L hsl TA pm srt=>?_⟩;have s7:=qA2 hsl (.lst (rs.map V.ref));have gsl:(Ag H6 sl (.lst (rs.map V.ref))) sl=some (.lst (rs.map V.ref)):=qA1;have fsl:H sl=none:=sm6.free hsl;have TA7:StL (Ag H6 sl (.lst (rs.map V.ref))) rs L:=Paired.mapP TA fun _ _ z=>s7 _ _ z;generalize Ag H6 sl (.lst (rs.map V.ref))=H7 at s7 gsl TA7 ⊢;refine ⟨(by show 2<=B28;decide),fun T hT'=>?_⟩
  have s8:=qA2 hT' (.tup [.ref tw,.ref sl]);have sm7:=sm6.trans s7;exact q2 nd T tw sl rs L _ (sm7.trans s8) (sm7.free hT') fsl ⟨qA1,(((gtw4.same s5).same s6).same s7).same s8,s8 _ _ gsl,TA7.same s8⟩ (RC.nevP pm srt) (fun z hz=>hn z (pm.mem_iff.mp hz)) (by rw [pm.length_eq];exact F6 lk (by lia))
 ·have dn:=qaC N rA (qVY wp rW RC hst hall least);refine ⟨_,rfl,iteT ?_⟩;exact q1 dn _ (sm5.trans s6)
theorem sc_Lrising:FnScope ["_law_thing","_law_most","_law_one"] ["_law_thing","_law_most"] (qAB qGR):=qBL
theorem ok_Lrising (F:Fun K "_law_rising" "_law_rising" qGR f fd) (qAD:mg "isinstance" = none) (qAK:mg "tuple" = none) (qG8:mg "int" = none) (qHY:mg "bool" = none) (qEU:mg "all" = none) (qRG:mg "zip" = none):FnOk P w K mg base CX0 1 f fd ["_law_thing","_law_most"] qEY:=by
 refine F.okA sc_Lrising fun cdv A outer s H vs Q E hr h=>?_;obtain ⟨a,zs,k,rfl,hA,rz,hl,q⟩:=h;refine ⟨_,(qA4 (qB5 (qCG (qBQ (qA7 qAT rfl qAD qAH (qA0 (pv 0) (qA0 (qBN (v:=.ty "tuple") rfl qAK qAO rfl) qA3))))) (qA5 (qAE qC3)) qAI) (qA4 (qBT D3 rfl (qCX (pv 0)) (qAY (i:=2) sc_Lrising.nd rfl (E9 rfl)) (qA5 (qB5 (PW.pt (qGU (qCG (qBQ (qA7 qAT rfl qAD qAH (qA0 (pv 2) (qA0 (qBN (v:=.ty "int") rfl qG8 qK5 rfl) qA3))))) (qGU (qBQ (qA7 qAT rfl qAD qAH (qA0 (pv 2) (qA0 (qBN (v:=.ty "bool") rfl qHY qPM rfl) qA3)))) (qEP (qCG (qWV qa2 qLZ qA8 (pv 2) (pv 1))))))) (qA5 (qAE qC3)) qAI))) (qA5 (qAE (qA7 (qEJ rfl) rfl qEU qK6 (qA0 (qCB rfl (lcs (own:=["_law_one","_law_other"]) (fv:=[]) (by kernel_rfl)) (qYL rfl qRG qZ5 (qA0 (pv 0) (qA0 (qGV qZO (pv 0) (qJ8 qA8) qJ9) qA3))) (fun z1=>qHK (K:=K) (n:=2) rfl rfl (qB8 (qBG 0) (qB8 (qBG 1) qE8)) rfl rfl) (fun z1=>qAZ) (fun z1=>(qCC qLZ (pv 0) (pv 1) (qAS _)))) qA3)))))),?_⟩
 try dsimp only [Cx.nox,Cx.wish,cxOf]
 refine cut fun N0 hN0=>?_;refine ⟨_,rfl,_,"tuple",_,true,rfl,.inr ⟨a,_,rfl,hA,rfl⟩,qH2 true,_,rfl,?_⟩;refine hN0 _ _ (cut fun N1 hN1=>?_);refine ⟨_,rfl,a,rfl,⟨_,.inl hA⟩,qGF (a:=a) (xs:=zs.map V.int) (fun i σ Hc=>∃ (v2:Option V),σ=[some (.ref a),some (.int k),v2]/\Hc=H)
  ⟨none,rfl,rfl⟩ ?_ ?_ ?_⟩
 ·refine fun i σ Hc hi hI_1=>opq fun G_1 hG_1=>?_;obtain ⟨v2,rfl,rfl⟩:=hI_1;refine hG_1 ?_;exact .inl hA
 ·refine fun i x σ Hc hx hI_2=>opq fun G_2 hG_2=>?_;obtain ⟨v2,rfl,rfl⟩:=hI_2;obtain ⟨z,hz,rfl⟩:=qAX hx;refine hG_2 ?_;have zb:=rz.in_ z (B5 hz);refine ⟨_,rfl,_,"int",_,true,rfl,.inl (TyOf.int z),qUD,_,rfl,?_⟩;refine ⟨_,rfl,_,"bool",_,false,rfl,.inl (TyOf.int z),qUE,_,rfl,?_⟩;refine iteF ?_;refine ⟨_,rfl,_,_,rfl,rfl,_,rfl,?_⟩;rw [decide_eq_true zb.1];refine ⟨_,rfl,_,_,rfl,rfl,_,rfl,?_⟩;rw [decide_eq_true zb.2];exact ⟨_,rfl,rfl⟩
 ·refine fun σ Hc hI_3=>opq fun G_3 hG_3=>?_;obtain ⟨v2,rfl,rfl⟩:=hI_3;refine hG_3 ?_;refine hN1 _ _ ?_;refine ⟨_,rfl,_,rfl,_,rfl,a,_,rfl,hA,fun t2 H2 s2 g2=>?_⟩;have s2:Same _ H2:=s2;have cut:cutV (zs.map V.int) (some 1) none=(zs.drop 1).map V.int:=by
   rw [qIR];cases zs with
   | nil=>rfl
   | cons z r=>rw [show (1:Int)=((1:Nat):Int) from rfl,qNX _ _ (by simp)]
  rw [cut] at g2;refine ⟨true,a,t2,rfl,⟨_,.inl (hA.same s2)⟩,⟨_,.inl g2⟩,fun pz hpz=>?_⟩;refine qaA (p:=pz) (b:=true) (l:=a) (m:=t2) (xs:=zs.map V.int) (ys:=(zs.drop 1).map V.int) (by rw [A0,A0,G3];lia) (fun j σ Hy=>∃ (v1 v2:Option V),σ=[v1,v2]/\Same H2 Hy/\Hy pz=some (.lst ((D2 j true).map V.bl))) ?_ (fun j σ Hy _ h=>?_) ?_ ?_
  ·exact ⟨none,none,rfl,qA2 hpz _,qA1⟩
  ·obtain ⟨_,_,_,sy,_⟩:=h;exact ⟨.inl ((hA.same s2).same sy),.inl (g2.same sy)⟩
  ·refine fun j x y σ Hy T hx hy hI_4 hT0=>opq fun G_4 hG_4=>?_;obtain ⟨v1,v2,rfl,sy,gpz⟩:=hI_4;obtain ⟨x1,e1,rfl⟩:=qAX hx;obtain ⟨y1,e2,rfl⟩:=qAX hy;refine hG_4 ?_;rw [A55] at e2;obtain ⟨i1,h1⟩:=A4.mp e1;obtain ⟨i2,h2⟩:=A4.mp e2;have lt:x1<y1:=by
    have:=F9.mp rz.up j (1+j) i1 i2 (by lia)
    rw [h1,h2] at this;exact this
   have sT:=qA2 hT0 (.tup [.int x1,.int y1]);refine ⟨T,_,rfl,Ac0 qA1,rfl,_,_,rfl,_,_,rfl,rfl,?_⟩;refine ⟨_,rfl,_,rfl,_,_,rfl,rfl,?_⟩;dsimp only;rw [decide_eq_true lt];refine ⟨_,sT _ _ gpz,qBF (by rw [A0,L8];lia),_,_,rfl,qAC (sy.trans sT) hpz,?_⟩
   rw [qA1,U5,B1]
   rfl
  ·refine fun σ Hy hI_5=>opq fun G_5 hG_5=>?_;obtain ⟨v1,v2,rfl,sy,gpz⟩:=hI_5;refine hG_5 ?_;refine ⟨pz,_,rfl,Ab2 gpz,?_⟩;have al:((D2 ((zs.drop 1).map V.int).length true).all id)=true:=G1.mpr fun x hx=>by rw [(c5.mp hx).2];rfl
   rw [al];exact q _ (s2.trans sy)
theorem qWI {Ae:Aa0} {st ns:List Int} {Aa wk:Int} {Ac:Str} (hns:Ae[wk.toNat]?=some ns) (hw:Ac = "do"\/Ac = "clear") (h0:0<=wk) (h1:wk<(Ae.length:Int)) (h:qDQ ns st Aa Ac wk=.non):(Ac,wk) ∈ qDZ Ae st Aa:=by
 unfold qDZ;refine E6.mpr ⟨?_,decide_eq_true ?_⟩
 ·unfold qKM qIG;have e:((wk.toNat:Nat):Int)=wk:=by lia
  rcases hw with z | z
  ·exact k9 _ (D5.mpr ⟨wk.toNat,F5.mpr (by lia),by rw [e,z]⟩)
  ·exact F7 _ (D5.mpr ⟨wk.toNat,F5.mpr (by lia),by rw [e,z]⟩)
 ·unfold wd;rw [hns];exact h
theorem qbU (b:Bool):∃ wd:Str,atI [V.str "do",V.str "clear"] (if b=true then (1:Int) else 0)=some (.str wd)/\(wd = "do"\/wd = "clear"):=by
 cases b
 ·exact ⟨_,rfl,.inl rfl⟩
 ·exact ⟨_,rfl,.inr rfl⟩
theorem sc_Lstays:FnScope ["_law_part_here","_law_rooms","_law_stand","_law_there","_law_work","_law_move"] ["_law_part_here","_law_rooms","_law_stand","_law_there"] (qAB qIK):=qBL
theorem ok_Lstays (F:Fun K "_law_stays" "_law_stays" qIK f fd) (qW7:Clb P w K mg base 1 qPD qXV "_law_word" ["_law_net_here","_law_rooms","_law_stand","_law_move"] qLL) (qOA:Clb P w K mg base 1 qK1 qSG "_law_behind" ["_law_stand","_law_move"] qEZ) (qB3:mg "range" = none) (qB2:mg "len" = none) (qG8:mg "int" = none):FnOk P w K mg base CX0 2 f fd ["_law_part_here","_law_rooms","_law_stand","_law_there"] qT4:=by
 refine F.okA sc_Lstays fun cdv A outer s H vs Q E hr h=>?_;obtain ⟨a,t,d,o,Ae,Aa,st,ks,Af,rfl,hN,wf,n12,hT,rs,gd,vk,shut,q⟩:=h;have hu:=qHO hr;refine ⟨_,(qA4 (qBT D3 rfl (qBC rfl qB3 (qA0 (qA7 qAA rfl qB2 qB4 (qA0 (pv 0) qA3)) qA3)) (qAY (i:=4) sc_Lstays.nd rfl (E9 rfl)) (qA4 (qAM (i:=5) sc_Lstays.nd rfl (E9 rfl) (qBA qCU (qBV (qA0 qBU (qA0 qBU qA3))) (qAG qHG rfl qG8 qK5 (qA0 (qCC qDW (pv 4) (pv 2) (by with_unfolding_all rfl)) qA3)) (fun _ _=>rfl))) (qA5 (qB5 (PW.pt (qYI (qDI (qN9 (qAV qW7 hr rfl (qA0 (pv 0) (qA0 (pv 1) (qA0 (pv 2) (qA0 (qCH (qA0 (pv 5) (qA0 (pv 4) qA3))) qA3))))))) (qTF (qDI (qDU hu (qAV qOA hr rfl (qA0 (pv 2) (qA0 (qCH (qA0 (pv 5) (qA0 (pv 4) qA3))) qA3))) (pv 3)))))) (qA5 (qAE qC3)) qAI)))) (qA5 (qAE qC3))),?_⟩
 try dsimp only [Cx.nox,Cx.wish,cxOf]
 obtain ⟨ra,hA,NL⟩:=id hN;have lra:=B7 NL;have lst:=rs.len;refine cut fun N0 hN0=>?_;refine ⟨_,rfl,a,_,rfl,.inr (Ac0 hA),?_⟩;rw [A0,lra];refine ⟨(Ae.length:Int),rfl,by lia,by lia,qF9 (lo:=0) (n:=Ae.length) (fun i σ Hc=>∃ (v4 v5:Option V),σ=[some (.ref a),some (.int Aa),some (.ref t),some (.ref d),v4,v5]/\Same H Hc)
  ⟨none,none,rfl,.refl _⟩ ?_ ?_⟩
 ·refine fun i σ Hc hi hI_1=>opq fun G_1 hG_1=>?_;obtain ⟨v4,v5,rfl,sc⟩:=hI_1;refine hG_1 ?_;refine cut fun M0 hM0=>?_;refine ⟨(by show 2<=B28;decide),fun p hp=>?_⟩
  have s1:=sc.trans (qA2 hp (.lst [.str "do",.str "clear"]))
  have gp:(Ag Hc p (.lst [.str "do",.str "clear"])) p=some (.lst [.str "do",.str "clear"]):=qA1
  generalize Ag Hc p (.lst [.str "do",.str "clear"])=H1 at s1 gp ⊢
  obtain ⟨wd,ewd,hw⟩:=qbU (inV (.int (0+(i:Int))) (st.map V.int));refine ⟨_,rfl,_,rfl,t,_,rfl,.inr (Ac0 (s1 _ _ hT)),rfl,qBY st,.inr ⟨_,rfl,p,_,_,_,rfl,rfl,Ab2 gp,ewd,?_⟩⟩;refine hM0 _ _ ?_;have hi':(0+(i:Int)).toNat<Ae.length:=by lia
  have hns:=A5 hi';have ln:=(wf _ _ hns).len;generalize Ae[(0+(i:Int)).toNat]=ns at hns ln;refine ⟨_,rfl,_,rfl,_,rfl,_,rfl,_,rfl,(by show 2<=B28;decide),fun mv hmv=>?_⟩
  have s2:=s1.trans (qA2 hmv (.tup [.str wd,.int (0+(i:Int))]));have gm:(Ag H1 mv (.tup [.str wd,.int (0+(i:Int))])) mv=some (.tup [.str wd,.int (0+(i:Int))]):=qA1;generalize Ag H1 mv (.tup [.str wd,.int (0+(i:Int))])=H2 at s2 gm ⊢;refine ⟨a,t,mv,Ae,st,ns,Aa,_,wd,rfl,hN.same s2,s2 _ _ hT,by lia,gm,hw,by lia,hns,by lia,fun H3 s3=>⟨_,rfl,?_⟩⟩
  have s23:=s2.trans s3;by_cases c:qDQ ns st Aa wd (0+(i:Int))=.non
  ·rw [c];refine iteT ?_;refine ⟨_,rfl,_,rfl,_,rfl,(by show 2<=B28;decide),fun mv2 hmv2=>?_⟩
   have s4:=s23.trans (qA2 hmv2 (.tup [.str wd,.int (0+(i:Int))]));have gm2:(Ag H3 mv2 (.tup [.str wd,.int (0+(i:Int))])) mv2=some (.tup [.str wd,.int (0+(i:Int))]):=qA1;generalize Ag H3 mv2 (.tup [.str wd,.int (0+(i:Int))])=H4 at s4 gm2 ⊢;refine ⟨t,mv2,st,wd,_,rfl,s4 _ _ hT,by lia,gm2,hw,fun r st2 H5 s5 gr beh=>?_⟩
   have e2:=qW0 (m:=(wd,0+(i:Int))) rs hw beh;rw [e2] at gr;have inn:=vk _ (shut _ (qWI hns hw (by lia) (by lia) c))
   refine ⟨_,rfl,d,_,rfl,.inr ⟨Af,keyS (behL st (wd,0+(i:Int))),r,.inr ⟨o,s5 _ _ (s4 _ _ gd)⟩,rfl,by rw [qD8];exact gr,rfl⟩,_,rfl,?_⟩
   rw [inn];exact ⟨_,_,rfl,s4.trans s5⟩
  ·rw [decide_eq_false c];refine iteF ?_;exact ⟨_,_,rfl,s23⟩
 ·refine fun σ Hc hI_2=>opq fun G_2 hG_2=>?_;obtain ⟨v4,v5,rfl,sc⟩:=hI_2;refine hG_2 ?_;exact hN0 _ _ (q _ sc)
theorem qN6 {k:List Key} :∀ (ps:List (List Key × Addr × V)) (Af:List (List Key × V)),(valV (qBW Af ps) k).isSome=true ↔ (valV Af k).isSome=true\/k ∈ ps.map (·.1)
 | [],Af=>by simp [qBW]
 | q::ps,Af=>by
  show (valV (qBW (putK Af q.1 q.2.2) ps) k).isSome=true ↔ _;rw [qN6 ps,qGO,D0,C1];by_cases e:k=q.1
  ·rw [if_pos e];simp [e]
  ·rw [if_neg e];simp [e]
theorem qQE:∀ (ps:List (List Key × Addr × V)) (Af:List (List Key × V)) (kv:List Key × V),kv ∈ qBW Af ps->kv.1 ∈ Af.map (·.1)\/kv.1 ∈ ps.map (·.1)
 | [],Af,kv,h=>.inl (R1 (f:=fun x:List Key × V=>x.1) h)
 | q::ps,Af,kv,h=>by
  rcases qQE ps (putK Af q.1 q.2.2) kv h with h | h
  ·obtain ⟨x,hx,e⟩:=D5.mp h;unfold putK at hx
   split at hx
   ·obtain ⟨y,hy,rfl⟩:=D5.mp hx;refine .inl ?_;rw [<- e];refine D5.mpr ⟨y,hy,?_⟩
    split <;> rfl
   ·rcases B3.mp hx with h | h
    ·exact .inl (D5.mpr ⟨x,h,e⟩)
    ·rw [A7.mp h] at e;exact .inr (by rw [<- e];exact F4)
  ·exact .inr (C3 _ h)
def wanF (ws Ad:List Int):List Int:=(qBM 0 ws.length).filter fun p=>decide ((ws[p.toNat]?).getD 0 ∈ Ad)
theorem qWJ {ws Ad:List Int} (nd:ws.Nodup) {x:Int}:x ∈ wanF ws Ad ↔ x ∈ qC8 ws Ad:=by
 unfold wanF qC8;rw [E6,a9,mem_rangeI,decide_eq_true_eq]
 constructor
 ·refine fun hI_1=>opq fun G_1 hG_1=>?_;obtain ⟨hx,hm⟩:=hI_1;refine hG_1 ?_;have e:=A5 (l:=ws) (i:=x.toNat) (by lia)
  rw [e,Z0] at hm;exact ⟨_,hm,by rw [qFR nd e];congr 1;lia⟩
 ·refine fun hI_2=>opq fun G_2 hG_2=>?_;obtain ⟨y,hy,e⟩:=hI_2;obtain ⟨h0,h1⟩:=qF3 e;refine hG_2 ?_;have hi:=(A4.mp h1).1;exact ⟨by lia,by rw [h1];exact hy⟩
theorem sc_Lis_never:FnScope ["_law_net_here","_law_asked_here","_law_rooms","_law_thing","_law_works","_law_stands","_law_wanted","_law_stand","_law_there","_law_part_here"] ["_law_net_here","_law_asked_here","_law_rooms","_law_thing"] (qAB qE6):=qBL
theorem ok_Lis_never (F:Fun K "_law_is_never" "_law_is_never" qE6 f fd) (qKA:Clb P w K mg base 1 qJZ qSE "_law_rising" ["_law_thing","_law_most"] qEY) (qMO:Clb P w K mg base 1 qMA qR3 "_law_part" ["_law_net_here","_law_works"] qOE) (qRE:Clb P w K mg base 2 qM8 qV0 "_law_stays" ["_law_part_here","_law_rooms","_law_stand","_law_there"] qT4) (qAD:mg "isinstance" = none) (qAK:mg "tuple" = none) (qCW:mg "list" = none) (qB2:mg "len" = none) (qBO:mg "enumerate" = none) (qSV:mg "dict" = none) (qEU:mg "all" = none):FnOk P w K mg base CX0 3 f fd ["_law_net_here","_law_asked_here","_law_rooms","_law_thing"] qIJ:=by
 refine F.okA sc_Lis_never fun cdv A outer s H vs Q E hr h=>?_;obtain ⟨a,t,T,tw,l,Ae,Ad,ws,Aa,rs,ss,rfl,hN,wf,n12,⟨hT,rA⟩,PN,rW,wne,l5,NV,q⟩:=h;have hu:=qHO hr;have hu64:=hr.units;have hu0:=hr.units0;refine ⟨_,(qA4 (qB5 (PW.pt (qGU (qCG (qBQ (qA7 qC0 rfl qAD qAH (qA0 (pv 3) (qA0 (qBN (v:=.ty "tuple") rfl qAK qAO rfl) qA3))))) (qGU (qAN qRX (qA7 qAA rfl qB2 qB4 (qA0 (pv 3) qA3)) qA8 (qAS _)) (qEP (qCG (qBQ (qAV qKA hr rfl (qA0 (qBA qBD (pv 3) qA8 (fun _ _=>rfl)) (qA0 (qA7 qAA rfl qB2 qB4 (qA0 (pv 0) qA3)) qA3))))))))) (qA5 (qAE qC3)) qAI) (qA4 (qQG (pv 3) (qQJ rfl (qB8 (qAY (i:=4) sc_Lis_never.nd rfl (E9 rfl)) (qB8 (qAY (i:=5) sc_Lis_never.nd rfl (E9 rfl)) qE8)))) (qA4 (qN7 (i:=6) sc_Lis_never.nd rfl rfl rfl (lcs (own:=["_law_place","_law_work"]) (fv:=[1]) (by kernel_rfl)) (qQI rfl qBO qCT (qA0 (pv 4) qA3)) (fun z1=>qHK (K:=K) (n:=2) rfl rfl (qB8 (qBG 0) (qB8 (qBG 1) qE8)) rfl rfl) (fun z1=>(qD5 (qAN (qKV (K:=K) rfl) (pv 1) (pv 2) (by with_unfolding_all rfl)))) (fun z1=>(pv 0)) (by kernel_rfl)) (qA4 (qB5 (PW.pt (qGU (qAN (qND hu0) (pv 6) (qBV qA3) (qAS _)) (qEP (qCG (qBQ (qA7 qC0 rfl qAD qAH (qA0 (pv 5) (qA0 (qBN (v:=.ty "list") rfl qCW qFI rfl) qA3)))))))) (qA5 (qAE qC3)) qAI) (qA4 (qBT D3 rfl (qCA (pv 5)) (qAY (i:=7) sc_Lis_never.nd rfl (l7 rfl)) (qA5 (qB5 (PW.pt (qGU (qCG (qBQ (qAV qKA hr rfl (qA0 (pv 7) (qA0 (qA7 qAA rfl qB2 qB4 (qA0 (pv 4) qA3)) qA3))))) (qEP (qAN qTX (qA7 qAA rfl qB2 qB4 (qA0 (pv 7) qA3)) (pv 2) (qAS _))))) (qA5 (qAE qC3)) qAI))) (qA4 (qB5 (qAN (qGY hu64) (qCH qA3) (pv 5) (by with_unfolding_all rfl)) (qA5 (qAE qC3)) qAI) (qA4 (qAM (i:=8) sc_Lis_never.nd rfl (E9 rfl) (qAG (qSK rfl hu64) rfl qSV qVV (qA0 (qCB rfl (lcs (own:=["_law_stand"]) (fv:=[]) (by kernel_rfl)) (qCA (pv 5)) (fun z2=>qBG 0) (fun z2=>qAZ) (fun z2=>(qCH (qA0 (pv 0) (qA0 qC3 qA3))))) qA3))) (qA4 (qAM (i:=9) sc_Lis_never.nd rfl (E9 rfl) (qAV qMO hr rfl (qA0 (pv 0) (qA0 (pv 4) qA3)))) (qA4 (qBT D3 rfl (qLX (qOS (pv 8))) (qAY (i:=7) sc_Lis_never.nd rfl (l7 rfl)) (qA5 (qB5 (PW.pt (qGU (qBQ (qA7 (qEJ rfl) rfl qEU qK6 (qA0 (qCB rfl (lcs (own:=["_law_place"]) (fv:=[7]) (by kernel_rfl)) (qCA (pv 6)) (fun z3=>qBG 0) (fun z3=>qAZ) (fun z3=>(qCC (qKV (K:=K) rfl) (pv 0) (pv 1) (by with_unfolding_all rfl)))) qA3))) (qEP (qCG (qBQ (qAV qRE hr rfl (qA0 (pv 9) (qA0 (pv 2) (qA0 (pv 7) (qA0 (pv 8) qA3)))))))))) (qA5 (qAE qC3)) qAI))) (qA5 (qAE qC3))))))))))),?_⟩
 try dsimp only [Cx.nox,Cx.wish,cxOf]
 obtain ⟨ra,hA,NL⟩:=id hN;have lra:=B7 NL;have lws:=rW.len;have lA:=rA.len;have gT:=PN.tup;have gl:=PN.lst;have SL:=PN.at_;have lrs:rs.length=ss.length:=B7 SL;have rdw:Rd H tw (.tup (ws.map V.int)):=(let ⟨o,e,_⟩:=PN.works;.inr ⟨o,e⟩)
 refine cut fun N0 hN0=>?_;refine ⟨_,rfl,_,"tuple",_,true,rfl,TyOf.tup gT,qH2 true,_,rfl,?_⟩;refine ⟨_,rfl,T,_,rfl,.inr (Ac0 gT),rfl,_,rfl,?_⟩;rw [decide_eq_true (show V.int ((([V.ref tw,V.ref l].length:Nat)):Int)=V.int 2 from rfl)];refine ⟨_,rfl,T,_,_,_,rfl,rfl,Ac0 gT,rfl,_,rfl,a,_,rfl,.inr (Ac0 hA),?_⟩;rw [A0,lra];refine ⟨tw,ws,_,rfl,rdw,rW,by lia,fun H1 s1=>⟨_,rfl,?_⟩⟩
 refine hN0 _ _ (cut fun N1 hN1=>?_);refine ⟨_,rfl,T,_,rfl,Ac0 (s1 _ _ gT),rfl,_,_,rfl,_,_,rfl,rfl,?_⟩;refine hN1 _ _ (cut fun N2 hN2=>?_);refine ⟨_,rfl,tw,rfl,⟨_,.inl (rdw.same s1)⟩,fun p hp=>?_⟩;refine qQW (p:=p) (a:=tw) (xs:=ws.map V.int) (fun i σ Hc=>∃ (v0 v1:Option V),σ=[v0,v1,some (.ref t)]/\Same H1 Hc/\Hc p=some (.lst ((((qBM 0 ws.length).take i).filter fun p=>decide ((ws[p.toNat]?).getD 0 ∈ Ad)).map V.int))) ?_ ?_ ?_ ?_
 ·exact ⟨none,none,rfl,qA2 hp _,qA1⟩
 ·refine fun i σ Hc hi hI_3=>opq fun G_3 hG_3=>?_;obtain ⟨v0,v1,rfl,sm,_⟩:=hI_3;refine hG_3 ?_;exact .inl ((rdw.same s1).same sm)
 ·refine fun i x σ Hc T2 hx hI_4 hT2=>opq fun G_4 hG_4=>?_;obtain ⟨v0,v1,rfl,sm,hpc⟩:=hI_4;obtain ⟨y,ey,rfl⟩:=qAX hx;refine hG_4 ?_;have hi:=(A4.mp ey).1;have sT:=qA2 hT2 (.tup [.int (i:Int),.int y]);have smT:=sm.trans sT;have hpT:=sT _ _ hpc;have lk:=qBZ (p:=fun p=>decide ((ws[p.toNat]?).getD 0 ∈ Ad)) (l:=qBM 0 ws.length) (i:=i);refine ⟨T2,_,rfl,Ac0 qA1,rfl,_,_,rfl,_,_,rfl,rfl,?_⟩;refine ⟨_,rfl,_,rfl,t,_,rfl,.inr (Ac0 (smT _ _ (s1 _ _ hT))),rfl,qBY Ad,_,rfl,?_⟩;rw [qDN,qCK (qG9 (by lia))]
  have ez:(ws[((i:Int)).toNat]?).getD 0=y:=by rw [E1,ey];rfl
  rw [ez];by_cases hw:y ∈ Ad
  ·rw [decide_eq_true hw];refine ⟨_,rfl,_,hpT,qAF (by rw [A0];lia),_,_,rfl,qAC smT hp,?_⟩
   rw [qA1,if_pos rfl,B1]
   rfl
  ·rw [decide_eq_false hw];refine ⟨_,_,rfl,smT,?_⟩;simpa using hpT
 refine fun σ H2 hI_5=>opq fun G_5 hG_5=>?_;obtain ⟨v0,v1,rfl,s2,gp⟩:=hI_5;refine hG_5 ?_;rw [A0,qB7 (by rw [qDT];lia)] at gp
 have gp:H2 p=some (.lst ((wanF ws Ad).map V.int)):=gp;have wf1:∀ x,x ∈ wanF ws Ad ↔ x ∈ qC8 ws Ad:=fun x=>qWJ rW.nodup;have lwf:(wanF ws Ad).length<=12:=by
  have:(wanF ws Ad).length<=(qBM 0 ws.length).length:=T8 _ _;rw [qDT] at this
  lia
 have wfn:wanF ws Ad ≠ []:=fun e=>by
  cases h:qC8 ws Ad with
  | nil=>exact wne h
  | cons x r=>
   have:=(wf1 x).mpr (by rw [h];exact F4)
   rw [e] at this;cases this
 generalize wanF ws Ad=W at gp wf1 lwf wfn;have S2:=s1.trans s2;refine hN2 _ _ (cut fun N3 hN3=>?_);refine ⟨_,rfl,(by show 0<=B28;decide),fun e3 he3=>?_⟩
 have S3:=S2.trans (qA2 he3 (.lst []));have gp3:=qA2 he3 (.lst []) _ _ gp;have ge3:(Ag H2 e3 (.lst [])) e3=some (.lst []):=qA1;generalize Ag H2 e3 (.lst [])=H3 at S3 gp3 ge3 ⊢;refine ⟨p,e3,_,rfl,rfl,Ab2 gp3,Ab2 ge3,_,rfl,?_⟩;have ef:(W.map V.int).isEmpty=false:=by cases W with | nil=>exact absurd rfl wfn | cons _ _=>rfl
 rw [ef];refine ⟨_,rfl,_,"list",_,true,rfl,TyOf.lst (S3 _ _ gl),rfl,_,rfl,?_⟩;refine hN3 _ _ (cut fun N4 hN4=>?_);refine ⟨_,rfl,l,rfl,⟨_,Ab2 (S3 _ _ gl)⟩,qFX (a:=l) (xs:=rs.map V.ref) (fun i σ Hc=>∃ (v7:Option V),σ=[some (.ref a),some (.ref t),some (.int Aa),some (.ref T),some (.ref tw),some (.ref l),some (.ref p),v7,none,none]/\Same H3 Hc)
  ⟨none,rfl,.refl _⟩ (fun i σ Hc _ hP=>by obtain ⟨_,_,sc⟩:=hP;exact Ab2 (sc _ _ (S3 _ _ gl))) ?_ ?_⟩
 ·refine fun i x σ Hc hx hI_6=>opq fun G_6 hG_6=>?_;obtain ⟨v7,rfl,sc⟩:=hI_6;obtain ⟨r,er,rfl⟩:=qC6 hx;obtain ⟨z,ez,gz⟩:=qAU SL er;refine hG_6 ?_;have hz:=B5 ez;have rz:=NV.rise z hz;rw [qBX] at rz;have lz:=rz.len;have Sc:=S3.trans sc;refine ⟨_,rfl,_,rfl,tw,_,rfl,.inr (.inl (rdw.same Sc)),?_⟩;rw [A0];refine ⟨r,z,_,rfl,.inl (Sc _ _ gz),rz,by lia,fun H4 s4=>⟨_,rfl,?_⟩⟩
  refine ⟨_,rfl,r,_,rfl,.inr (Ac0 (s4 _ _ (Sc _ _ gz))),_,rfl,_,_,rfl,rfl,_,rfl,?_⟩;rw [A0,decide_eq_false (by have:=NV.few z hz;lia)]
  exact ⟨_,rfl,sc.trans s4⟩
 refine fun σ H4 hI_7=>opq fun G_7 hG_7=>?_;obtain ⟨v7,rfl,s4⟩:=hI_7;refine hG_7 ?_;have S4:=S3.trans s4;refine hN4 _ _ (cut fun N5 hN5=>?_);refine ⟨(by show 0<=B28;decide),fun e5 he5=>?_⟩
 have s5:=qA2 he5 (.tup []);have S5:=S4.trans s5;have ge5:(Ag H4 e5 (.tup [])) e5=some (.tup (([]:List Int).map V.int)):=qA1;have gp5:=s5 _ _ (s4 _ _ gp3);generalize Ag H4 e5 (.tup [])=H5 at S5 ge5 gp5 ⊢;refine ⟨_,rfl,e5,l,[],rs,ss,rfl,rfl,ge5,Ab2 (S5 _ _ gl),SL.same S5,_,rfl,?_⟩;rw [decide_eq_false (fun h=>h NV.nil)];refine hN5 _ _ (cut fun N6 hN6=>?_);refine ⟨_,rfl,l,rfl,⟨_,Ab2 (S5 _ _ gl)⟩,fun pq hpq=>?_⟩;refine qE9 (p:=pq) (a:=l) (xs:=rs.map V.ref) (fun i σ Hc=>∃ (v:Option V) (qs:List Addr) (ps:List (List Key × Addr × V)),σ=[v]/\Same H5 Hc/\Hc pq=some (.lst (qs.map V.ref))/\qQL Hc K qs ps/\ps.map (·.1)=(ss.take i).map keyS) ?_ ?_ ?_ ?_
 ·exact ⟨none,[],[],rfl,qA2 hpq _,qA1,.nil,rfl⟩
 ·rintro i σ Hc hi ⟨v,qs,ps,rfl,sm,_⟩;exact Ab2 (sm _ _ (S5 _ _ gl))
 ·refine fun i x σ Hc hx hI_9=>opq fun G_9 hG_9=>?_;obtain ⟨v,qs,ps,rfl,sm,gq,PT,kp⟩:=hI_9;obtain ⟨r,er,rfl⟩:=qC6 hx;obtain ⟨z,ez,gz⟩:=qAU SL er;refine hG_9 ?_;have hi:=(A4.mp ez).1;have lq:qs.length<=i:=by
   have h1:=B7 PT;have h2:=congrArg V5 kp;rw [A0,A0,C5] at h2
   lia
  refine ⟨_,rfl,(by show 2<=B28;decide),fun tp htp=>?_⟩
  have sT:=qA2 htp (.tup [.ref r,.bl true]);have gq2:=sT _ _ gq;refine ⟨_,gq2,qBF (by rw [A0];lia),?_⟩
  rw [qBJ];have keep:∀ {b:Addr} {xs:List V},(Ag Hc tp (.tup [.ref r,.bl true])) b=some (.tup xs)->(Ag (Ag Hc tp (.tup [.ref r,.bl true])) pq (.lst ((qs++[tp]).map V.ref))) b=some (.tup xs):=fun {b xs} e=>by rw [qA9 (qCF e gq2 (fun z=>nomatch z))];exact e
  have Sz:=(S5.trans sm) _ _ gz;refine ⟨_,qs++[tp],ps++[(keyS z,r,.bl true)],rfl,qAC (sm.trans sT) hpq,qA1,Z2 (Paired.mapP PT fun r' q' e=>⟨?_,keep (sT _ _ e.2)⟩) ⟨Ac0 (keep qA1),by rw [qD8];exact keep (sT _ _ Sz)⟩,?_⟩
  ·rcases e.1 with h | h
   ·refine .inl ?_;rcases h with h | ⟨oo,h⟩
    ·exact .inl (keep (sT _ _ h))
    ·exact .inr ⟨oo,by rw [qA9 (qCF (sT _ _ h) gq2 (fun z=>nomatch z))];exact sT _ _ h⟩
   ·exact .inr h
  ·rw [B1,kp,C8,ez,C9,B1]
   rfl
 refine fun σ H6 hI_10=>opq fun G_10 hG_10=>?_;obtain ⟨v,qs,ps,rfl,s6,gq,PT,kp⟩:=hI_10;refine hG_10 ?_;rw [A0,lrs,R7] at kp;have S6:=S5.trans s6;refine ⟨pq,qs,ps,rfl,Ab2 gq,PT,fun dk hdk=>?_⟩;have s7:=qA2 hdk (.dT (qBW [] ps));have g7:(Ag H6 dk (.dT (qBW [] ps))) dk=some (.dT (qBW [] ps)):=qA1;have S7:=S6.trans s7;have fdk:H dk=none:=S6.free hdk;have gp7:=s7 _ _ (s6 _ _ gp5);have vk:∀ z:List Int,(valV (qBW [] ps) (keyS z)).isSome=true ↔ z ∈ ss:=fun z=>by
  rw [qN6,kp]
  constructor
  ·rintro (h | h)
   ·simp [valV] at h
   ·obtain ⟨y,hy,e⟩:=D5.mp h;rw [<- qH3 e];exact hy
  ·exact fun h=>.inr (R1 h)
 have kk:∀ kv ∈ qBW [] ps,∃ z ∈ ss,kv.1=keyS z:=fun kv hkv=>by
  rcases qQE ps [] kv hkv with h | h
  ·cases h
  ·rw [kp] at h;obtain ⟨z,hz,e⟩:=D5.mp h;exact ⟨z,hz,e.symm⟩
 generalize qBW [] ps=Af at s7 g7 S7 gp7 vk kk;generalize Ag H6 dk (.dT Af)=H7 at s7 g7 S7 gp7 ⊢;have ndp:p ≠ dk:=qCF gp7 g7 (by intro z;cases z)
 refine hN6 _ _ (cut fun N7 hN7=>?_);refine ⟨_,rfl,_,rfl,true,a,tw,Ae,ws,rfl,hN.same S7,wf,by lia,rdw.same S7,rW,fun b H8 s8 hB=>?_⟩
 have S8:=S7.trans s8;refine hN7 _ _ (cut fun N8 hN8=>?_);refine ⟨_,rfl,dk,_,rfl,s8 _ _ g7,fun o=>⟨dk,o,_,rfl,qA1,?_⟩⟩;have S9:Same H (Ag H8 dk (.frz o (.dT Af))):=qAC S8 fdk;have g9:(Ag H8 dk (.frz o (.dT Af))) dk=some (.frz o (.dT Af)):=qA1;have gp9:(Ag H8 dk (.frz o (.dT Af))) p=some (.lst (W.map V.int)):=by rw [qA9 ndp];exact s8 _ _ gp7
 have hB9:NetAt (Ag H8 dk (.frz o (.dT Af))) b (qCJ Ae ws):=by
  obtain ⟨rb,e1,e2⟩:=hB;have g8:=s8 _ _ g7;exact ⟨rb,by rw [qA9 (qCF e1 g8 (fun z=>nomatch z))];exact e1,Paired.mapP e2 fun r z e=>by rw [qA9 (qCF e g8 (fun z=>nomatch z))];exact e⟩
 generalize Ag H8 dk (.frz o (.dT Af))=H9 at S9 g9 gp9 hB9 ⊢;refine qL7 (a:=dk) (o:=o) (Af:=Af) (fun i σ He=>∃ (v7:Option V),σ=[some (.ref a),some (.ref t),some (.int Aa),some (.ref T),some (.ref tw),some (.ref l),some (.ref p),v7,some (.ref dk),some (.ref b)]/\Same H9 He)
  ⟨_,rfl,.refl _⟩ (fun i σ He _ ⟨_,_,z⟩=>z _ _ g9) ?_ ?_
 ·refine fun i k v r σ He hkv gr hI_11=>opq fun G_11 hG_11=>?_;obtain ⟨v7,rfl,se⟩:=hI_11;obtain ⟨z,hz,e⟩:=kk _ (B5 hkv);refine hG_11 ?_;have e:k=keyS z:=e;subst e;rw [qD8] at gr;have rz:=NV.rise z hz;have lz:=rz.len;refine ⟨_,rfl,p,rfl,⟨_,Ab2 (se _ _ gp9)⟩,fun pa hpa=>?_⟩;refine qE9 (p:=pa) (a:=p) (xs:=W.map V.int) (fun j σ Hf=>∃ (v:Option V),σ=[v,some (.ref r)]/\Same He Hf/\Hf pa=some (.lst (((W.take j).map fun x=>decide (x ∈ z)).map V.bl))) ?_ ?_ ?_ ?_
  ·exact ⟨none,rfl,qA2 hpa _,qA1⟩
  ·rintro j σ Hf hj ⟨v,rfl,sf,_⟩;exact Ab2 (sf _ _ (se _ _ gp9))
  ·refine fun j x σ Hf hx hI_13=>opq fun G_13 hG_13=>?_;obtain ⟨v,rfl,sf,hpf⟩:=hI_13;obtain ⟨y,ey,rfl⟩:=qAX hx;refine hG_13 ?_;have hj:=(A4.mp ey).1;refine ⟨_,rfl,_,rfl,r,_,rfl,.inr (Ac0 (sf _ _ gr)),rfl,qBY z,_,hpf,qBF (by rw [A0,A0,C5];lia),_,rfl,qAC sf hpa,?_⟩
   rw [qA1,C8,ey,C9,B1,B1,qDN]
   rfl
  refine fun σ Hf hI_14=>opq fun G_14 hG_14=>?_;obtain ⟨v,rfl,sf,hpf⟩:=hI_14;refine hG_14 ?_;rw [A0,R7] at hpf;refine ⟨pa,_,rfl,Ab2 hpf,?_⟩;have al:((W.map fun x=>decide (x ∈ z)).all id)=false:=by
   rw [E8];intro h;refine NV.no z hz fun x hx=>?_;have:=G1.mp h (decide (x ∈ z)) (D5.mpr ⟨x,(wf1 x).mpr hx,rfl⟩);exact of_decide_eq_true this
  rw [al];refine ⟨_,rfl,?_⟩;have sef:=se.trans sf;refine ⟨_,rfl,_,rfl,_,rfl,_,rfl,b,r,dk,o,qCJ Ae ws,Aa,z,ss,Af,rfl,hB9.same sef,qDV wf rW,by rw [qBX];lia,sf _ _ gr,rz,sef _ _ g9,fun y hy=>(vk y).mpr hy,NV.shut z hz,fun Hg sg=>⟨_,rfl,?_⟩⟩
  exact ⟨_,rfl,sef.trans sg⟩
 ·refine fun σ He hI_15=>opq fun G_15 hG_15=>?_;obtain ⟨v7,rfl,se⟩:=hI_15;refine hG_15 ?_;exact hN8 _ _ (q _ (S9.trans se))
theorem qXZ (xs:List V) (k:Nat):cutV xs none (some (k:Int))=xs.take k:=by
 unfold cutV;rw [HT.sIx_nat,HT.sIx_none,Y6,q9];rcases Nat.le_total k xs.length with h | h
 ·rw [A20 h]
 ·rw [A84 h,C4 h,C4 (A6 _)]
theorem qT3 {H:Hp} {rs:List Addr} {ss:Aa0} (h:StL H rs ss):∀ (qs:List Addr),(∀ r ∈ qs,r ∈ rs)->∃ tt:Aa0,StL H qs tt/\∀ z ∈ tt,z ∈ ss
 | [],_=>⟨[],.nil,fun z hz=>nomatch hz⟩
 | r::qs,hq=>by
  obtain ⟨tt,a,b⟩:=qT3 h qs fun x hx=>hq x (C3 _ hx);obtain ⟨i,hi⟩:=P7 (hq r F4);obtain ⟨z,ez,gz⟩:=qAU h hi;exact ⟨z::tt,.cons gz a,fun y hy=>(C1.mp hy).elim (fun e=>by rw [e];exact B5 ez) (b y)⟩
theorem qT2 {H:Hp} {rs:List Addr} {ss:Aa0} (h:StL H rs ss):StL H rs.reverse ss.reverse:=by
 induction h with
 | nil=>exact .nil
 | cons a b ih=>rw [i4,i4];exact StL.snoc ih a
theorem qZM {H:Hp} {rs qs:List Addr} {ss tt:Aa0} (h:StL H rs ss) (k:StL H qs tt):StL H (rs++qs) (ss++tt):=by
 induction h with
 | nil=>exact k
 | cons a b ih=>exact .cons a ih
theorem sc_Lright:FnScope ["_law_net_here","_law_asked_here","_law_rooms","_law_least_here","_law_told","_law_kept"] ["_law_net_here","_law_asked_here","_law_rooms","_law_least_here"] (qAB qIL):=qBL
theorem ok_Lright (F:Fun K "_law_right" "_law_right" qIL f fd) (qEL:Clb P w K mg base 5 qED qKJ "never_paper" ["net","asked","rooms"] (qQ1 Pt)) (qKB:Clb P w K mg base 3 qGJ qNT "_law_is_never" ["_law_net_here","_law_asked_here","_law_rooms","_law_thing"] qIJ) (qEK:Clb P w K mg base 6 qEC qKI "shows_never" ["net","asked","rooms","thing"] qIJ) (qW8:Clb P w K mg base 4 qGI qHB "_law_same" ["_law_found","_law_due"] (spSR 4)) (qCW:mg "list" = none):FnOk P w K mg base CX0 7 f fd ["_law_net_here","_law_asked_here","_law_rooms","_law_least_here"] (qPX Pt):=by
 refine F.okA sc_Lright fun cdv A outer s H vs Q E hr h=>?_;obtain ⟨a,t,Ae,Ad,ws,Aa,least,rfl,hTab,hN,wf,n12,⟨hT,rA⟩,a1,N,LR,r1,r2,q⟩:=h;refine ⟨_,(qA4 (qAM (i:=4) sc_Lright.nd rfl (E9 rfl) (qAV qEL hr rfl (qA0 (pv 0) (qA0 (pv 1) (qA0 (pv 2) qA3))))) (qA4 (qB5 (qAN qTY (pv 2) (pv 3) (qAS _)) (qA5 (qAE (qYN (qN9 (pv 4))))) qAI) (qA4 (qB5 (PW.pt (qGU (qCG (qBQ (qAV qKB hr rfl (qA0 (pv 0) (qA0 (pv 1) (qA0 (pv 2) (qA0 (pv 4) qA3))))))) (qEP (qAN qNC (qAV qEK hr rfl (qA0 (pv 0) (qA0 (pv 1) (qA0 (pv 2) (qA0 (pv 4) qA3))))) qC3 (qAS _))))) (qA5 (qAE qC3)) qAI) (qA4 (qAM (i:=5) sc_Lright.nd rfl (E9 rfl) (qAG qFH rfl qCW qFI (qA0 (qBA qBD (pv 4) qA8 (fun _ _=>rfl)) qA3))) (qA4 (qF2 (qYP J1 PySem.F.slot_list_reverse PySem.F.type_list_reverse qRY (qBA qBD (pv 4) qA8 (fun _ _=>rfl)))) (qA4 (qB5 (qAN qNC (qAV qEK hr rfl (qA0 (pv 0) (qA0 (pv 1) (qA0 (pv 2) (qA0 (qCH (qA0 (qBA qBD (pv 4) qA8 (fun _ _=>rfl)) (qA0 (qAP qKW (qBA qBD (pv 4) qA8 (fun _ _=>rfl)) (qGV qLN (qBA qBD (pv 4) qA8 (fun _ _=>rfl)) qJ9 (qJ8 qA8))) qA3))) qA3))))) qC3 (qAS _)) (qA5 (qAE qC3)) qAI) (qA4 (qF2 (qYP J1 PySem.F.slot_list_clear PySem.F.type_list_clear qX7 (qBA qBD (pv 4) qA8 (fun _ _=>rfl)))) (qA5 (qAE (qAV qW8 hr rfl (qA0 (qAV qEL hr rfl (qA0 (pv 0) (qA0 (pv 1) (qA0 (pv 2) qA3)))) (qA0 (qCH (qA0 (qBA qBD (pv 4) qA8 (fun _ _=>rfl)) (qA0 (pv 5) qA3))) qA3)))))))))))),?_⟩
 try dsimp only [Cx.nox,Cx.wish,cxOf]
 have ha:∀ x ∈ Ad,x ∈ ws:=fun x hx=>(N.2 x).mpr (.ask hx);have wne:qC8 ws Ad ≠ []:=fun e=>by
  cases Ad with
  | nil=>simp at a1
  | cons x r=>
   obtain ⟨j,hj⟩:=P7 (ha x F4);unfold qC8 at e;rw [Q7,qFR N.1.nodup hj] at e;cases e
 refine cut fun N0 hN0=>?_;refine ⟨_,rfl,_,rfl,_,rfl,a,t,Ae,Ad,ws,Aa,rfl,hTab,hN,wf,n12,⟨hT,rA⟩,a1,N,fun dn H1 s1=>?_,fun nd T tw l rs ss H1 s1 fT fl PN NP no lss=>?_⟩
 ·refine hN0 _ _ ?_;refine ⟨_,rfl,_,rfl,_,_,rfl,rfl,_,rfl,?_⟩;refine ite2 (fun _=>?_) (fun c=>?_)
  ·exact ⟨_,rfl,q _ s1⟩
  ·have c:¬ least<=Aa:=of_decide_eq_false (E8.mpr c);exact absurd dn (LR.2.2 Aa r1 (by lia))
 refine hN0 _ _ (cut fun N1 hN1=>?_);refine ⟨_,rfl,_,rfl,_,_,rfl,rfl,_,rfl,?_⟩;have c:¬ least<=Aa:=fun c=>nd (LR.2.1.mono c);rw [decide_eq_false c];refine iteF ?_;have NV:=NP.nev (by lia) no
 refine hN1 _ _ (cut fun N2 hN2=>?_);refine ⟨_,rfl,_,rfl,_,rfl,_,rfl,a,t,T,tw,l,Ae,Ad,ws,Aa,rs,ss,rfl,hN.same s1,wf,n12,⟨s1 _ _ hT,rA⟩,PN,N.1,wne,by lia,NV,fun H2 s2=>⟨_,rfl,?_⟩⟩
 have PNs:∀ {H':Hp},Same H1 H'->PapN H' T tw l ws rs ss:=fun k=>⟨k _ _ PN.tup,PN.works.same k,k _ _ PN.lst,PN.at_.same k⟩;have S2:=s1.trans s2;refine ⟨_,rfl,_,rfl,_,rfl,_,rfl,a,t,T,tw,l,Ae,Ad,ws,Aa,rs,ss,rfl,hN.same S2,wf,n12,⟨S2 _ _ hT,rA⟩,PNs s2,N.1,wne,by lia,NV,fun H3 s3=>?_⟩
 refine ⟨_,_,rfl,rfl,_,rfl,?_⟩;have S3:=S2.trans s3;have P3:=PNs (s2.trans s3);clear PNs;have lrs:rs.length=ss.length:=B7 P3.at_;refine hN2 _ _ (cut fun N3 hN3=>?_);refine ⟨_,rfl,T,_,_,_,rfl,rfl,Ac0 P3.tup,rfl,l,_,rfl,.inl (Ab2 P3.lst),fun lk hlk=>?_⟩;have s4:=qA2 hlk (.lst (rs.map V.ref));have gk:(Ag H3 lk (.lst (rs.map V.ref))) lk=some (.lst (rs.map V.ref)):=qA1;have nkl:lk ≠ l:=(qA6 P3.lst hlk).symm;have P4:PapN (Ag H3 lk (.lst (rs.map V.ref))) T tw l ws rs ss:=⟨s4 _ _ P3.tup,P3.works.same s4,s4 _ _ P3.lst,P3.at_.same s4⟩;have S4:=S3.trans s4;generalize Ag H3 lk (.lst (rs.map V.ref))=H4 at S4 gk P4 ⊢;refine hN3 _ _ (cut fun N4 hN4=>?_);refine ⟨_,rfl,T,_,_,_,rfl,rfl,Ac0 P4.tup,rfl,.inl ⟨rfl,_,Ab2 P4.lst⟩,l,_,rfl,rfl,P4.lst,?_⟩;rw [<- List.map_reverse];obtain ⟨gT5,gw5,st5⟩:=P4.keepT (xs:=rs.reverse.map V.ref);have S5:Same H (Ag H4 l (.lst (rs.reverse.map V.ref))):=qAC S4 fl;have gl5:(Ag H4 l (.lst (rs.reverse.map V.ref))) l=some (.lst (rs.reverse.map V.ref)):=qA1;have gk5:(Ag H4 l (.lst (rs.reverse.map V.ref))) lk=some (.lst (rs.map V.ref)):=by rw [qA9 nkl];exact gk
 have hN5':NetAt (Ag H4 l (.lst (rs.reverse.map V.ref))) a Ae:=hN.same S5;generalize Ag H4 l (.lst (rs.reverse.map V.ref))=H5 at S5 gT5 gw5 st5 gl5 gk5 hN5' ⊢;refine hN4 _ _ (cut fun N5 hN5=>?_);refine ⟨_,rfl,_,rfl,_,rfl,_,rfl,T,_,_,_,rfl,rfl,Ac0 gT5,rfl,_,rfl,T,_,_,_,rfl,rfl,Ac0 gT5,rfl,_,rfl,T,_,_,_,rfl,rfl,Ac0 gT5,rfl,_,rfl,l,_,rfl,Ab2 gl5,fun l2 hl2=>?_⟩;rw [show (2:Int)=((2:Nat):Int) from rfl,qXZ,<- B16];have s6:=qA2 hl2 (.lst ((rs.reverse.take 2).map V.ref));refine ⟨l,l2,_,_,rfl,rfl,s6 _ _ gl5,qA1,by rw [B39,A0,A0,C5,m7];lia,fun l3 hl3=>?_⟩
 rw [<- B1];have s7:=s6.trans (qA2 hl3 (.lst ((rs.reverse++rs.reverse.take 2).map V.ref)));have gl7:(Ag (Ag H5 l2 (.lst ((rs.reverse.take 2).map V.ref))) l3 (.lst ((rs.reverse++rs.reverse.take 2).map V.ref))) l3=some (.lst ((rs.reverse++rs.reverse.take 2).map V.ref)):=qA1;generalize Ag (Ag H5 l2 (.lst ((rs.reverse.take 2).map V.ref))) l3 (.lst ((rs.reverse++rs.reverse.take 2).map V.ref))=H7 at s7 gl7 ⊢;refine ⟨(by show 2<=B28;decide),fun T2 hT2=>?_⟩
 have s8:=qA2 hT2 (.tup [.ref tw,.ref l3]);have s58:=s7.trans s8;have S8:=S5.trans s58;obtain ⟨tt,TT,tm⟩:=qT3 st5 (rs.reverse.take 2) fun r hr=>V9.mp (O1 hr);have ltt:tt.length<=2:=by have:=B7 TT;rw [C5] at this;lia
 have P8:PapN (Ag H7 T2 (.tup [.ref tw,.ref l3])) T2 tw l3 ws (rs.reverse++rs.reverse.take 2) (ss.reverse++tt):=⟨qA1,gw5.same s58,s8 _ _ gl7,(qZM (qT2 st5) TT).same s58⟩;have NV2:Nev (qCJ Ae ws) Aa (qC8 ws Ad) (ss.reverse++tt):=NV.mem fun z=>by
  rw [B3,V9];exact ⟨fun h=>h.elim id (tm z),.inl⟩
 refine ⟨a,t,T2,tw,l3,Ae,Ad,ws,Aa,_,_,rfl,hN.same S8,wf,n12,⟨S8 _ _ hT,rA⟩,P8,N.1,wne,by rw [B0,m7];lia,NV2,fun H9 s9=>⟨_,_,rfl,rfl,_,rfl,?_⟩⟩
 have s59:=s58.trans s9;have S9:=S5.trans s59;have gl9:=s59 _ _ gl5;have gT9:=s59 _ _ gT5;have gw9:=gw5.same s59;have st9:=st5.same s59;have gk9:=s59 _ _ gk5;refine hN5 _ _ (cut fun N6 hN6=>?_);refine ⟨_,rfl,T,_,_,_,rfl,rfl,Ac0 gT9,rfl,.inl ⟨rfl,_,Ab2 gl9⟩,l,_,rfl,rfl,gl9,?_⟩;have P9:PapN H9 T tw l ws rs.reverse ss.reverse:=⟨gT9,gw9,gl9,qT2 st9⟩;obtain ⟨gTa,gwa,_⟩:=P9.keepT (xs:=[]);have Sa:Same H (Ag H9 l (.lst [])):=qAC S9 fl;have gka:(Ag H9 l (.lst [])) lk=some (.lst (rs.map V.ref)):=by rw [qA9 nkl];exact gk9
 have sta:StL (Ag H9 l (.lst [])) rs ss:=Paired.mapP st9 fun r z e=>by rw [qA9 (qCF e gl9 (fun z=>nomatch z))];exact e
 generalize Ag H9 l (.lst [])=Ha at Sa gTa gwa gka sta ⊢;refine hN6 _ _ ?_;refine ⟨_,rfl,_,rfl,_,rfl,a,t,Ae,Ad,ws,Aa,rfl,Sa _ _ hTab,hN.same Sa,wf,n12,⟨Sa _ _ hT,rA⟩,a1,N,fun dn=>absurd dn nd,fun _ T3 tw3 l4 rs3 ss3 Hb sb fT3 fl4 P3b NP3 no3 ls3=>?_⟩;have ess:=NP3.one NP;subst ess;refine ⟨_,rfl,T,_,_,_,rfl,rfl,Ac0 (sb _ _ gTa),rfl,_,rfl,(by show 2<=B28;decide),fun T4 hT4=>?_⟩
 have s4':=qA2 hT4 (.tup [.ref tw,.ref lk]);have s5':=sb.trans s4';have rd1:∀ {Hx:Hp} {y:Addr},BareT Hx y (ws.map V.int)->Rd Hx y (.tup (ws.map V.int)):=fun {Hx y} h=>let ⟨o,e,_⟩:=h;.inr ⟨o,e⟩
 have lws:=N.1.len;refine ⟨.ref T3,.ref T4,rfl,.inr ⟨true,T3,T4,[.ref tw3,.ref l4],[.ref tw,.ref lk],rfl,rfl,.inl (s4' _ _ P3b.tup),.inl qA1,rfl,(by show 2<=100000;decide),fun i x y ex ey=>?_⟩,fun Hc sc=>q _ (Sa.trans (s5'.trans sc))⟩
 rcases i with _ | _ | i
 ·cases ex;cases ey;refine .inr ⟨true,tw3,tw,_,_,rfl,rfl,rd1 (P3b.works.same s4'),rd1 (gwa.same s5'),rfl,by rw [A0];lia,fun i x y ex ey=>?_⟩
  rw [ex] at ey;cases ey;obtain ⟨z,_,rfl⟩:=qAX ex;exact .inl ⟨rfl,.inr (.inl ⟨_,rfl⟩)⟩
 ·cases ex;cases ey;exact (qY3 ⟨_,s4' _ _ P3b.lst,P3b.at_.same s4'⟩ ⟨_,s5' _ _ gka,sta.same s5'⟩ (by lia) fun z hz=>by have:=(NV.rise z hz).len;rw [qBX] at this;lia).r
 ·simp at ex
theorem qJ7 (m j:Nat):(2 ^ m - 1).testBit j=decide (j<m):=Nat.testBit_two_pow_sub_one m j
theorem qZ9 {Ae:Aa0} (wf:WFn Ae):∀ m,m<=Ae.length->Rm Ae (Ae.length:Int) m (2 ^ m - 1)
 | 0,_=>.zero
 | m+1,h=>by
  have ih:=qZ9 wf m (by lia)
  have hz:=A5 (show m<Ae.length by lia)
  have rz:=wf m _ hz;have e:2 ^ (m+1) - 1=(2 ^ m - 1) ||| 2 ^ m:=P6 fun j=>by
   rw [A40,qJ7,qJ7,Z4];by_cases c:j<m
   ·rw [decide_eq_true c,decide_eq_true (by lia:j<m+1),Bool.true_or]
   ·by_cases d:m=j
    ·rw [decide_eq_true d,decide_eq_true (by lia:j<m+1),Bool.or_true]
    ·rw [decide_eq_false c,decide_eq_false d,decide_eq_false (by lia:¬ j<m+1)];rfl
  rw [e];refine .do_ ih ⟨?_,by lia,?_⟩
  ·have lt:cntN Ae.length (2 ^ m - 1)<=m:=by
    unfold cntN;rw [R3 (g:=fun k=>if (decide (k<m))=true then 1 else 0) fun k _=>by rw [qPO,qJ7],qIZ]
    have nd:((G2 Ae.length).filter fun k=>decide (k<m)).Nodup:=List.nodup_range.filter _;exact qE1 nd fun b hb=>of_decide_eq_true (E6.mp hb).2
   lia
  ·unfold nxt;rw [hz];refine P6 fun j=>?_;rw [n9,qJ7];show (decide (j<m) && (mskN Ae[m]).testBit j)=(mskN Ae[m]).testBit j;rw [qM0 rz.up (fun x hx=>(rz.in_ x hx).1)];by_cases c:(j:Int) ∈ Ae[m]
   ·have:=(rz.in_ _ c).2;rw [decide_eq_true (by lia:j<m),l8]
   ·rw [decide_eq_false c,i9]
theorem qUX {Ae:Aa0} {ws Ad:List Int} (wf:WFn Ae) (N:qBK Ae Ad ws):DoneIn Ae ws Ad (ws.length:Int):=by
 have wp:WFn (qCJ Ae ws):=qDV wf N.1;have R:=qZ9 wp _ (A6 _);rw [qBX] at R;refine ⟨_,_,R,P6 fun j=>?_⟩;rw [n9,qJ7];unfold qOB;rw [qM0 ((qF1 _ _).filter _) (fun x hx=>(mem_rangeI.mp (E6.mp hx).1).1)];by_cases c:(j:Int) ∈ (qBM 0 ws.length).filter fun p=>decide ((ws[p.toNat]?).getD 0 ∈ Ad)
 ·have:=mem_rangeI.mp (E6.mp c).1;rw [decide_eq_true (by lia:j<ws.length),l8]
 ·rw [decide_eq_false c,i9]
theorem qXA {Ae:Aa0} {ws Ad:List Int} (wf:WFn Ae) (N:qBK Ae Ad ws) (a1:1<=Ad.length):∃ r,qW6 Ae ws Ad r/\r<=(ws.length:Int):=by
 have dn:=qUX wf N;have w1:1<=ws.length:=by
  cases Ad with
  | nil=>simp at a1
  | cons x Ad=>exact f9 ((N.2 x).mpr (.ask F4))
 obtain ⟨k,h1,h2⟩:=qQV (P:=fun k=>DoneIn Ae ws Ad ((k:Int)+1)) (ws.length - 1) (by rw [show (((ws.length - 1:Nat):Int)+1)=(ws.length:Int) by lia];exact dn)
 have kl:=h2 (ws.length - 1) (by rw [show (((ws.length - 1:Nat):Int)+1)=(ws.length:Int) by lia];exact dn)
 refine ⟨(k:Int)+1,⟨by lia,h1,fun r' r1 r2 d=>?_⟩,by lia⟩
 have:=h2 (r' - 1).toNat (by rw [show (((r' - 1).toNat:Nat):Int)+1=r' by lia];exact d)
 lia
theorem sc_law:FnScope ["_law_script","_law_state","_law_net_here","_law_asked_here","_law_least_here","_law_counts"] ["_law_script"] (qAB qKD):=qBL
theorem ok_law (F:Fun K "law" "law" qKD f fd) (qIU:Clb P w K mg base 1 qMC qV3 "_law_begin" ["_law_script"] (qT7 K)) (qBI:Clb P w K mg base 1 qFE qFY "_law_take" ["_law_state","_law_many"] qJ0) (qRF:Clb P w K mg base 4 qV6 qaM "_law_few" ["_law_state"] qYD) (qIV:Clb P w K mg base 2 qMD qV4 "_law_asked" ["_law_state","_law_net_here"] qT8) (qIT:Clb P w K mg base 3 qMB qV2 "_law_least" ["_law_net_here","_law_asked_here"] qQ3) (qIS:Clb P w K mg base 7 qM9 qV1 "_law_right" ["_law_net_here","_law_asked_here","_law_rooms","_law_least_here"] (qPX Pt)) (qB2:mg "len" = none) (qEU:mg "all" = none):FnOk P w K mg base CX0 8 f fd ["_law_script"] (qQ4 K Pt):=by
 refine F.okA sc_law fun cdv A outer s H vs Q E hr h=>?_;obtain ⟨hTab,sc,ns,rfl,hS,h63,q⟩:=h;refine ⟨_,(qA4 (qAM (i:=1) sc_law.nd rfl (E9 rfl) (qAV qIU hr rfl (qA0 (pv 0) qA3))) (qA4 (qAM (i:=2) sc_law.nd rfl (l7 rfl) (qAV qRF hr rfl (qA0 (pv 1) qA3))) (qA4 (qAM (i:=3) sc_law.nd rfl (l7 rfl) (qAV qIV hr rfl (qA0 (pv 1) (qA0 (pv 2) qA3)))) (qA4 (qAM (i:=4) sc_law.nd rfl (l7 rfl) (qAV qIT hr rfl (qA0 (pv 2) (qA0 (pv 3) qA3)))) (qA4 (qAM (i:=5) sc_law.nd rfl (E9 rfl) (qBV (qA0 (pv 4) (qA0 (qAP qCY (pv 4) qA8) (qA0 (qAP qCY (pv 4) qA8) (qA0 (qAP qD6 (pv 4) qA8) qA3)))))) (qA4 (qB5 (qAN qLZ (qA7 qAA rfl qB2 qB4 (qA0 (pv 2) qA3)) qA8 (qAS _)) (qA5 (qAM (i:=5) sc_law.nd rfl (E9 rfl) (qAP qKW (pv 5) (qBV (qA0 qA8 (qA0 (qAP qD6 (qA7 qAA rfl qB2 qB4 (qA0 (pv 2) qA3)) (qAV qBI hr rfl (qA0 (pv 1) (qA0 qA8 qA3)))) qA3)))))) qAI) (qA5 (qAE (qA7 (qEJ rfl) rfl qEU qK6 (qA0 (qCB rfl (lcs (own:=["_law_rooms"]) (fv:=[2,3,4]) (by kernel_rfl)) (qCA (pv 5)) (fun z1=>qBG 0) (fun z1=>(qD5 (qAN qTX (pv 0) qA8 (qAS _)))) (fun z1=>(qAV qIS hr rfl (qA0 (pv 1) (qA0 (pv 2) (qA0 (pv 0) (qA0 (pv 3) qA3))))))) qA3)))))))))),?_⟩
 try dsimp only [Cx.nox,Cx.wish,cxOf]
 refine cut fun N0 hN0=>?_;refine ⟨_,rfl,sc,ns,rfl,hS,h63,fun d c ms H1 S1 sm0 hd0 hc0=>?_⟩;have hTb:TabB H1 Pt:=sm0 _ _ hTab;have nPd:Pt ≠ d:=qCF hTb S1.dict (by intro z;cases z)
 have nPc:Pt ≠ c:=qCF hTb S1.list (by intro z;cases z)
 refine hN0 _ _ (cut fun N1 hN1=>?_);refine ⟨_,rfl,d,c,0,ms,rfl,S1,(by show (0:Int)<=1000000000 - 20000;decide),fun a Ae t2 ms2 H2 S2 g1 g2 K2 hN wf n1 n10=>?_⟩
 have tb2:TabB H2 Pt:=K2 _ _ hTb nPd nPc;refine hN1 _ _ (cut fun N2 hN2=>?_);refine ⟨_,rfl,_,rfl,d,c,t2,ms2,a,Ae,rfl,S2,(by show t2<=1000000000 - 100;lia),hN,wf,n1,by lia,fun ta Ad t3 ms3 H3 S3 g5 g6 K3 hW rA a1=>?_⟩
 have hN3:=hN.keep S2 K3;have tb3:TabB H3 Pt:=K3 _ _ tb2 nPd nPc;obtain ⟨ws,N⟩:=qU2 wf rA;obtain ⟨r,LR,rle⟩:=qXA wf N a1;have lw:=N.1.len;have r1:=LR.1;refine hN2 _ _ (cut fun N3 hN3'=>?_);refine ⟨_,rfl,_,rfl,a,ta,Ae,Ad,ws,r,rfl,hN3,wf,by lia,⟨hW,rA⟩,N,LR,fun H4 s4=>?_⟩
 refine hN3' _ _ (cut fun N4 hN4=>?_);refine ⟨_,rfl,_,rfl,_,_,rfl,rfl,_,rfl,_,_,rfl,rfl,_,rfl,_,_,rfl,rfl,(by show 4<=B28;decide),fun lc hlc=>?_⟩
 have s5:=s4.trans (qA2 hlc (.lst [.int r,.int (r - 1),.int (r - 2),.int (r+1)]));have g5':(Ag H4 lc (.lst [.int r,.int (r - 1),.int (r - 2),.int (r+1)])) lc=some (.lst ([r,r - 1,r - 2,r+1].map V.int)):=qA1;have nlc:H3 lc=none:=s4.free hlc;generalize Ag H4 lc (.lst [.int r,.int (r - 1),.int (r - 2),.int (r+1)])=H5 at s5 g5' ⊢;refine hN4 _ _ (cut fun N5 hN5=>?_);obtain ⟨ra,hA,NL⟩:=id hN3;have lra:=B7 NL;have rest:∀ (lx:Addr) (zs:List Int) (t5:Int) (ms5:List Int) (H6:Hp),StAt H6 d c t5 ms5->Keep d c H3 H6->H6 lx=some (.lst (zs.map V.int))->zs.length<=10->(∀ z ∈ zs,z<=100)->N5 [some (.ref sc),some (.ref d),some (.ref a),some (.ref ta),some (.int r),some (.ref lx)] H6:=fun lx zs t5 ms5 H6 S6 K6 gx lz bz=>by
  have hN6:=hN3.keep S3 K6;have hW6:=K6 _ _ hW (S3.tup hW).1 (S3.tup hW).2;have tb6:TabB H6 Pt:=K6 _ _ tb3 nPd nPc;refine hN5 _ _ ?_;refine ⟨_,rfl,lx,rfl,⟨_,Ab2 gx⟩,fun p hp=>?_⟩;refine qE9 (p:=p) (a:=lx) (xs:=zs.map V.int) (fun i σ Hc=>∃ (v:Option V) (k:Nat),σ=[v,some (.ref a),some (.ref ta),some (.int r)]/\Same H6 Hc/\Hc p=some (.lst ((D2 k true).map V.bl))/\k<=i) ?_ ?_ ?_ ?_
  ·exact ⟨none,0,rfl,qA2 hp _,qA1,A6 _⟩
  ·rintro i σ Hc hi ⟨v,k,rfl,sm,_⟩;exact Ab2 (sm _ _ gx)
  ·refine fun i x σ Hc hx hI_2=>opq fun G_2 hG_2=>?_;obtain ⟨v,k,rfl,sm,hpc,lk⟩:=hI_2;obtain ⟨z,ez,rfl⟩:=qAX hx;refine hG_2 ?_;have hi:=(A4.mp ez).1;have zb:=bz z (B5 ez);refine ⟨_,rfl,_,_,rfl,rfl,_,rfl,?_⟩;refine ite2 (fun c0=>?_) (fun c0=>?_)
   ·have c0:z > 0:=of_decide_eq_true c0;refine ⟨_,rfl,_,rfl,_,rfl,_,rfl,a,ta,Ae,Ad,ws,z,r,rfl,sm _ _ tb6,hN6.same sm,wf,by lia,⟨sm _ _ hW6,rA⟩,a1,N,LR,by lia,by lia,fun Hd sd=>?_⟩
    refine ⟨_,sd _ _ hpc,qBF (by rw [A0,L8];lia),_,k+1,rfl,qAC (sm.trans sd) hp,?_,by lia⟩
    rw [qA1,U5,B1]
    rfl
   ·exact ⟨_,k,rfl,sm,hpc,by lia⟩
  refine fun σ Hc hI_3=>opq fun G_3 hG_3=>?_;obtain ⟨v,k,rfl,sm,hpc,lk⟩:=hI_3;refine hG_3 ?_;refine ⟨p,_,rfl,Ab2 hpc,?_⟩;have al:((D2 k true).all id)=true:=G1.mpr fun x hx=>by rw [(c5.mp hx).2];rfl
  rw [al];exact q Hc
 refine ⟨_,rfl,a,_,rfl,.inr (Ac0 (s5 _ _ hA)),_,_,rfl,rfl,_,rfl,?_⟩;refine ite2 (fun c8=>?_) (fun c8=>?_)
 ·have nl:lc ≠ d/\lc ≠ c:=⟨(qA6 S3.dict nlc).symm,(qA6 S3.list nlc).symm⟩;refine ⟨_,rfl,_,rfl,a,_,rfl,.inr (Ac0 (s5 _ _ hA)),_,rfl,d,c,t3,ms3,3,rfl,S3.same s5,(by show t3<=1000000000;lia),by decide,by decide,fun k ms6 H6 k0 k1 S6 K6=>⟨_,_,rfl,rfl,(by show 2<=B28;decide),fun l2 hl2=>?_⟩⟩
  dsimp only;rw [A0,lra];have s7:=qA2 hl2 (.lst [.int 1,.int ((Ae.length:Int)+k)]);have gl6:=K6 _ _ g5' nl.1 nl.2;refine ⟨lc,l2,_,_,rfl,rfl,s7 _ _ gl6,qA1,(by show 6<=B28;decide),fun l3 hl3=>?_⟩
  have s8:=s7.trans (qA2 hl3 (.lst ([r,r - 1,r - 2,r+1].map V.int++[.int 1,.int ((Ae.length:Int)+k)])));exact rest l3 [r,r - 1,r - 2,r+1,1,(Ae.length:Int)+k] (t3+1) ms6 _ (S6.same s8) ((Keep.of_same s5).trans (K6.trans (.of_same s8))) qA1 (by show 6<=10;decide) (fun z hz=>by simp at hz;lia)
 ·exact rest lc [r,r - 1,r - 2,r+1] t3 ms3 H5 (S3.same s5) (.of_same s5) g5' (by show 4<=10;decide) (fun z hz=>by simp at hz;lia)
end
theorem all_mk {l:PySem.W.OpenLaw} {K:Ab1} {h:Heap} {mg:Ab0} {fa qGG qHS qEE qJY qHR qFD qFB qFZ qEF qHT qCP qHC qG0 qCV qDY qDP qED qFC qDB qEC qMC qFE qGI qEG qGH qV5 qMD qK0 qPD qK1 qPE qMA qPF qHU qMB qJZ qM8 qGJ qV6 qM9 qaN:Addr} (X:K.In h) (G:h.Ns B40 mg) (hfa:mg "law" = some (.ref fa))
  {qOU qPR qc1 qZ8:Option Addr} {qOJ qbJ:Array (Option Value)} {qOV qP6 qPH qOQ qPI qc2 qYX qZ3 qYJ qVM qZ4:Value}
  {qEI qGM:Addr}
  (T_is_number:Tf K "is_number" qE4 qGG)
  (T_is_below:Tf K "is_below" qFO qHS)
  (T_is_rising:Tf K "is_rising" qE3 qEE)
  (T_is_pair:Tf K "is_pair" qGP qJY)
  (T_is_stand:Tf K "is_stand" qFN qHR)
  (T_all_needed:Tf K "all_needed" qDH qFD)
  (T_renumbered:Tf K "renumbered" qDF qFB)
  (T_part_net:Tf K "part_net" qFL qFZ)
  (T_fault_of_do:Tf K "fault_of_do" qD1 qEF)
  (T_fault_of:Tf K "fault_of" qFP qHT)
  (T_stand_behind:Tf K "stand_behind" qCM qCP)
  (T_has_all:Tf K "has_all" qGQ qHC)
  (T_moves_of:Tf K "moves_of" qFM qG0)
  (T_stands_reached:Tf K "stands_reached" qAJ qCV)
  (qSP:r8 K B40 "best_end" = some (some (.ref qDY))) (qS4:K.lookup qDY=some ⟨qOV,qOU,.func (Q2 "best_end" "best_end" (qEH qCI) (qBB qCI) (qAB qCI) .none qP6 qPH qOQ qPR (.ref qEI) qPI),qOJ⟩) (qSM:i8 K (.ref qEI) "best_end" = true) (qS7:N9 K (.ref qDY)=true)
  (T_part_numbers:Tf K "part_numbers" qCN qDP)
  (T_never_paper:Tf K "never_paper" qD0 qED)
  (T_are_closed:Tf K "are_closed" qDG qFC)
  (T_never_come_to:Tf K "never_come_to" qC9 qDB)
  (T_shows_never:Tf K "shows_never" qCZ qEC)
  (T_Lbegin:Tf K "_law_begin" qIN qMC)
  (T_Ltake:Tf K "_law_take" qLR qFE)
  (T_Lsame:Tf K "_law_same" qJ4 qGI)
  (T_Lsome_needs:Tf K "_law_some_needs" qD2 qEG)
  (T_Ltree_net:Tf K "_law_tree_net" qE5 qGH)
  (T_Lnet:Tf K "_law_net" qQA qV5)
  (T_Lasked:Tf K "_law_asked" qIO qMD)
  (T_Lneeded:Tf K "_law_needed" qGS qK0)
  (T_Lword:Tf K "_law_word" qLQ qPD)
  (T_Lbehind:Tf K "_law_behind" qGT qK1)
  (T_Lcome:Tf K "_law_come" qLT qPE)
  (T_Lpart:Tf K "_law_part" qLS qMA)
  (T_Lbits:Tf K "_law_bits" qLU qPF)
  (T_Ldone_in:Tf K "_law_done_in" qFQ qHU)
  (T_Lleast:Tf K "_law_least" qIM qMB)
  (T_Lrising:Tf K "_law_rising" qGR qJZ)
  (T_Lstays:Tf K "_law_stays" qIK qM8)
  (T_Lis_never:Tf K "_law_is_never" qE6 qGJ)
  (T_Lfew:Tf K "_law_few" qQB qV6)
  (T_Lright:Tf K "_law_right" qIL qM9)
  (qe3:r8 K B40 "law" = some (some (.ref qaN))) (qdQ:K.lookup qaN=some ⟨qc2,qc1,.func (Q2 "law" "law" (qEH qKD) (qBB qKD) (qAB qKD) .none qYX qZ3 qYJ qZ8 qVM qZ4),qbJ⟩) (qe2:i8 K qVM "law" = true) (qdT:N9 K (.ref qaN)=true)
  (qEA:hdIn K qEI qGM=true)
  (Z:Zs K ["all","any","bool","dict","divmod","enumerate","int","isinstance","len","list","max","min","range","set","sorted","str","sum","tuple","zip"])
  : ∃ fd:B49,(∀ (s:Shared) (v:Value),BindsTo s fd ⟨[v],[]⟩ [("_law_script",v)])/\∀ base:Heap,K.In base->base.Ns B40 mg->BM mg base->FnOk l.prog w K mg base CX0 8 fa fd ["_law_script"] (qQ4 K qGM):=by
 have e:=hfa.symm.trans (A57 X G qe3);cases e;have F_best_end:=fun_mk (st:=qCI) qS4 qSM qS7;have qSN:=F_best_end.binds (ps:=["reached","asked"]) fun _ _ _ _ _ _ us hl=>us2 us hl (fun _ _=>rfl);have qS3:=A57 X G qSP;obtain ⟨qHB,F_Lsame,qGC⟩:=T_Lsame.use X G;have qGL:=F_Lsame.binds (ps:=["_law_found","_law_due"]) fun _ _ _ _ _ _ us hl=>us2 us hl (fun _ _=>rfl);have qe4:=fun_mk (st:=qKD) qdQ qe2 qdT;obtain ⟨qY8,qe8,qZD,qcW,qb6,qY7,qb5,qLI,qY6,qZC,qe7,qb4,qcU,qe6,qb3,qb2,qe5,qWD,qb1,_⟩:=Z.mg X G;refine ⟨Q2 "law" "law" (qEH qKD) (qBB qKD) (qAB qKD) .none qYX qZ3 qYJ qZ8 qVM qZ4,fun s v=>.of_eq rfl,fun base _ _ hBM=>?_⟩;have B:Bs l.prog w base:=⟨rfl,rfl,rfl⟩;obtain ⟨_,qK8⟩:=T_is_number.c X G B fun _ F=>by apply ok_is_number <;> assumption
 obtain ⟨_,qLE⟩:=T_is_below.c X G B fun _ F=>by apply ok_is_below <;> assumption
 obtain ⟨_,qEM⟩:=T_is_rising.c X G B fun _ F=>by apply ok_is_rising <;> assumption
 obtain ⟨_,qO8⟩:=T_is_pair.c X G B fun _ F=>by apply ok_is_pair <;> assumption
 obtain ⟨_,qLD⟩:=T_is_stand.c X G B fun _ F=>by apply ok_is_stand <;> assumption
 obtain ⟨_,qI9⟩:=T_all_needed.c X G B fun _ F=>by apply ok_all_needed <;> assumption
 obtain ⟨_,qI7⟩:=T_renumbered.c X G B fun _ F=>by apply ok_renumbered <;> assumption
 obtain ⟨_,qG1⟩:=T_part_net.c X G B fun _ F=>by apply ok_part_net <;> assumption
 obtain ⟨_,qHH⟩:=T_fault_of_do.c X G B fun _ F=>by apply ok_fault_of_do <;> assumption
 obtain ⟨_,qLF⟩:=T_fault_of.c X G B fun _ F=>by apply ok_fault_of <;> assumption
 obtain ⟨_,qCQ⟩:=T_stand_behind.c X G B fun _ F=>by apply ok_stand_behind <;> assumption
 obtain ⟨_,qE2⟩:=T_has_all.c X G B fun _ F=>by apply ok_has_all <;> assumption
 obtain ⟨_,qG2⟩:=T_moves_of.c X G B fun _ F=>by apply ok_moves_of <;> assumption
 obtain ⟨_,qES⟩:=T_stands_reached.c X G B fun _ F=>by apply ok_stands_reached <;> assumption
 have qLG:=Clb.mk (ok_best_end (P:=l.prog) (w:=w) (mg:=mg) (base:=base) (F:=F_best_end) (qE2:=qE2) (qMP:=qb4) (hcd:=rfl) (hBM:=hBM) (qEA:=qEA)) qSN F_best_end.kp qS3;obtain ⟨_,qG7⟩:=T_part_numbers.c X G B fun _ F=>by apply ok_part_numbers <;> assumption
 obtain ⟨_,qEL⟩:=T_never_paper.c X G B fun _ F=>by apply ok_never_paper <;> assumption
 obtain ⟨_,qI8⟩:=T_are_closed.c X G B fun _ F=>by apply ok_are_closed <;> assumption
 obtain ⟨_,qFJ⟩:=T_never_come_to.c X G B fun _ F=>by apply ok_never_come_to <;> assumption
 obtain ⟨_,qEK⟩:=T_shows_never.c X G B fun _ F=>by apply ok_shows_never <;> assumption
 obtain ⟨_,qIU⟩:=T_Lbegin.c X G B fun _ F=>by apply ok_Lbegin <;> assumption
 obtain ⟨_,qBI⟩:=T_Ltake.c X G B fun _ F=>by apply ok_Ltake <;> assumption
 have qW8:=Clb.mk (ok_Lsame (P:=l.prog) (w:=w) (mg:=mg) (base:=base) (F:=F_Lsame) (qGL:=qGL) (qM3:=F_Lsame.kp) (qGC:=qGC) (n:=4) (qEU:=qY8) (qHY:=qZD) (qG8:=qb5) (qAD:=qLI) (qB2:=qY6) (qCW:=qZC) (qST:=qb2) (qAK:=qWD) (qRG:=qb1)) qGL F_Lsame.kp qGC;obtain ⟨_,qEN⟩:=T_Lsome_needs.c X G B fun _ F=>by apply ok_Lsome_needs <;> assumption
 obtain ⟨_,qK9⟩:=T_Ltree_net.c X G B fun _ F=>by apply ok_Ltree_net <;> assumption
 obtain ⟨_,qZB⟩:=T_Lnet.c X G B fun _ F=>by apply ok_Lnet <;> assumption
 obtain ⟨_,qIV⟩:=T_Lasked.c X G B fun _ F=>by apply ok_Lasked <;> assumption
 obtain ⟨_,qO9⟩:=T_Lneeded.c X G B fun _ F=>by apply ok_Lneeded <;> assumption
 obtain ⟨_,qW7⟩:=T_Lword.c X G B fun _ F=>by apply ok_Lword <;> assumption
 obtain ⟨_,qOA⟩:=T_Lbehind.c X G B fun _ F=>by apply ok_Lbehind <;> assumption
 obtain ⟨_,qW9⟩:=T_Lcome.c X G B fun _ F=>by apply ok_Lcome <;> assumption
 obtain ⟨_,qMO⟩:=T_Lpart.c X G B fun _ F=>by apply ok_Lpart <;> assumption
 obtain ⟨_,qWA⟩:=T_Lbits.c X G B fun _ F=>by apply ok_Lbits <;> assumption
 obtain ⟨_,qLH⟩:=T_Ldone_in.c X G B fun _ F=>by apply ok_Ldone_in <;> assumption
 obtain ⟨_,qIT⟩:=T_Lleast.c X G B fun _ F=>by apply ok_Lleast <;> assumption
 obtain ⟨_,qKA⟩:=T_Lrising.c X G B fun _ F=>by apply ok_Lrising <;> assumption
 obtain ⟨_,qRE⟩:=T_Lstays.c X G B fun _ F=>by apply ok_Lstays <;> assumption
 obtain ⟨_,qKB⟩:=T_Lis_never.c X G B fun _ F=>by apply ok_Lis_never <;> assumption
 obtain ⟨_,qRF⟩:=T_Lfew.c X G B fun _ F=>by apply ok_Lfew <;> assumption
 obtain ⟨_,qIS⟩:=T_Lright.c X G B fun _ F=>by apply ok_Lright <;> assumption
 exact ok_law (P:=l.prog) (w:=w) (mg:=mg) (base:=base) (F:=qe4) (qIU:=qIU) (qRF:=qRF) (qIV:=qIV) (qIT:=qIT) (qBI:=qBI) (qIS:=qIS) (qEU:=qY8) (qB2:=qY6)
def qZH:List LTab:=[⟨"best_end",106,104,"best_end.<locals>.<lambda>"⟩]
theorem walk {l:PySem.W.OpenLaw} {loose:List Str} {XP:(Ab0)->Heap->Prop} {YP:World->Heap->Prop} {d:DefRec} {K:Params->Ab1} (hn:l.most=some 63) (hdf:d.params.defaults=[])
  (hY:∀ (w:World) (h:Heap),YP w h->(K w.params).In h)
  (hrec:∀ t ∈ qZH,((PyProof.Rows.recsOf q).find? fun e=>e.name == t.x).isSome=true) (htab:∀ (w:World),∀ t ∈ qZH,B14 (K w.params) t.x=some (t.c,t.P)) (hK:∀ w:World,A39 (K w.params)=true)
  (F:∀ (w:World) (mg:Ab0) (fa:Addr) (h:Heap),(K w.params).In h->h.Ns B40 mg->mg d.name=some (.ref fa)->
   ∃ fd:B49,(∀ (s:Shared) (u:Value),BindsTo s fd ⟨[u],[]⟩ [("_law_script",u)])/\∀ base:Heap,(K w.params).In base->base.Ns B40 mg->BM mg base->FnOk l.prog w (K w.params) mg base CX0 8 fa fd ["_law_script"] (qQ4 (K w.params) 104)) :
  PySem.W.WalkO q loose XP YP l.row.toRowW d [] (fun f vs=>B02 f vs):=
 L2.walk_ofT (n:=63) (k:=8) (x:="_law_script") (sp:=fun w=>qQ4 (K w.params) 104) qZH hn (by decide) hdf ⟨rfl,by decide,by decide,rfl⟩ hY hrec htab hK (fun t h t' h' _=>by rw [A7.mp h,A7.mp h']) F fun _ _ a ns hl hO hS=>⟨hO _ F4,a,ns,rfl,hS,hl,fun _=>rfl⟩
end Fw
open PySem PySem.W PyProof.Rows
set_option maxRecDepth 100000 in
set_option maxHeartbeats 0 in
theorem PySem.Challenge.cw_fewrooms_k31_never_papers_holds : PySem.Challenge.rw_fewrooms_k31_never_papers.Holds := by
 w_on;refine holds_law Fw.hpSaid fun said=>?_
 refine holds_open (q:=Fw.hpQ) (Xt:=Fw.hpX) (XP:=XL Fw.hpQ []) (YP:=(kHook Fw.hpK Fw.hpA Fw.hpE).says)
  Fw.hpLeft (kHook Fw.hpK Fw.hpA Fw.hpE).of (kHook Fw.hpK Fw.hpA Fw.hpE).keeps (fun s e=>xl_of s (A35.mp e).1) XL.keeps
  (by rfl) (by rfl) (by rfl) (fun s e=>recFacts_of (A35.mp e).2) (by rfl)
  (by first | assumption | decide +kernel) (by decide +kernel) ⟨rfl,rfl,rfl,rfl,rfl,by decide +kernel⟩ ?hw ?hc
 case hw=>w_witness2
 k_fill
 refine Fw.walk (l:=PySem.Challenge.rw_fewrooms_k31_never_papers) rfl rfl (fun w h Y=>PySem.W.kIn_of Y) ?hrec ?htab ?hK ?F
 case hrec=>intro t ht;rw [A7.mp ht];kernel_rfl
 case htab=>intro w t ht;rw [A7.mp ht];kernel_rfl
 case hK=>intro w;kernel_rfl
 case F=>
  intro w mg fa h KX G hmg;refine' Fw.all_mk (qEI:=106) (qGM:=104) KX G hmg ?_ ?_ ?_ ?_ ?_ ?_ ?_ ?_ ?_ ?_ ?_ ?_ ?_ ?_ ?_ ?_ ?_ ?_ ?_ ?_ ?_ ?_ ?_ ?_ ?_ ?_ ?_ ?_ ?_ ?_ ?_ ?_ ?_ ?_ ?_ ?_ ?_ ?_ ?_ ?_ ?_ ?_ ?_ ?_ ?_ ?_ ?_ ?_ ?_
  any_goals first | exact ⟨by k_is,_,L2.fun_mk (by k_is) (by k_is) (by k_is)⟩ | k_is | kernel_rfl
  any_goals (repeat (refine ⟨by k_is,?_⟩))
  any_goals exact trivial

