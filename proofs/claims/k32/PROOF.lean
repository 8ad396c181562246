import PyProof.Rows.All
import Wide.All
import OpenK.AllK
import Wide.FinOn
import Lean
import PyProof.EqAt
import PyProof.EqKinds
import PyProof.TupleCall
import PySem.Challenge.RW_fewrooms_k32_never_shown
noncomputable section
open Array renaming length_toList→B2,getElem?_eq_getElem→B7,getD_eq_getD_getElem?→C5,getElem?_toList→F6,getElem?_setIfInBounds_ne→k9,getElem?_eq_some_iff→u9,getElem?_eq_none→A25,mem_of_getElem?→A32,size_map→A56,replicate→B31,mem_def→B47,toList→B51
open Bool renaming false_ne_true→C1,false_and→E2,false_eq_true→E9,eq_false_iff→F5,true_and→J5,and_eq_true→O1,eq_iff_iff→O7,and_false→Q1,not_true→V4,not_false→l7,or_eq_true→A30,and_eq_true_iff→A52,and_self→A81,false_or→B44
open Classical renaming byContradiction→P1,choose→B20
open False renaming elim→a9
open ForInStep renaming yield→P0,done→l8
open Int renaming toNat_natCast→F0,emod_lt_of_pos→P3,emod_nonneg→R7,le_refl→X9,natCast_nonneg→Z4,fdiv_eq_ediv_of_nonneg→c4,fmod_eq_emod_of_nonneg→u7,negSucc→A15,le_of_lt→A35,zero_add→B05,natCast_pow→B32
open List renaming length_map→A0,getElem?_eq_getElem→A3,getElem?_eq_some_iff→A5,length_append→A7,mem_singleton→A8,map_append→B0,mem_append→B1,length_singleton→B4,getElem?_map→B5,mem_cons→B6,length_take→B9,size_toArray→C0,mem_of_getElem?→C3,take_add_one→C7,mem_cons_self→C9,take_of_length_le→D3,mem_cons_of_mem→D4,length_cons→D5,mem_range→D6,mem_map→D7,replicate→E4,map_cons→E5,range→E6,length_drop→F1,all_eq_true→F2,not_mem_nil→F7,mem_append_right→J7,getElem?_eq_none→J9,take_length→K0,mem_filter→K9,getD_eq_getElem?_getD→O4,pairwise_cons→O6,getElem?_append_left→O9,mem_iff_getElem→P5,replicate_succ→P7,nodup_cons→Q3,lookup_cons_self→Q4,mem_filterMap→Q5,mem_of_mem_drop→Q8,filterMap_cons→R5,forIn_cons→R6,getElem?_append_right→T0,mem_of_mem_take→W3,getElem?_of_mem→W4,foldl_cons→W8,find?_cons→W9,length_filterMap_le→X2,length_eq_zero_iff→X8,map_congr_left→Y3,length_reverse→Y4,mem_map_of_mem→Y5,pairwise_lt_range→Z1,length_nil→Z6,length_filter_le→a8,take_sublist→b0,any_cons→b4,flatten_cons→b5,pairwise_map→b9,pairwise_append→c5,pairwise_iff_getElem→c7,drop_eq_getElem_cons→c9,lookup_cons→d7,getElem_mem→d8,any_eq_true→d9,all_cons→i6,pairwise_filterMap→i8,getElem?_set_self→j3,length_pos_of_mem→j7,append_assoc→j8,map_map→m5,filterMap_append→m8,nodup_range→n0,mem_append_left→n9,getElem?_set_ne→o5,sum_cons→p9,getElem_of_mem→u0,perm_append_singleton→u8,nodup_iff_pairwise_ne→w5,map_singleton→x5,drop_zero→y4,getElem?_take_of_lt→z9,drop_sublist→A00,foldl_append→A01,ext_getElem?→A08,length_range→A09,pairwise_singleton→A14,perm_middle→A18,range_succ_eq_map→A23,drop_of_length_le→A24,of_mem_zip→A27,map_nil→A28,length_set→A29,take_append_drop→A34,range_succ→A43,getElem_toArray→A50,foldl_nil→A54,length→A58,toList_toArray→A64,getElem?_range→A65,map_eq_nil_iff→A67,filterMap_map→A72,findIdx?→A76,map_take→A82,any_eq_false→A85,reverse_cons→A89,getElem_take→A91,getElem_drop→A92,map_set→B06,all_map→B07,mem_reverse→B22,append_nil→B25,all_append→B33,forIn_nil→B37,foldl→B39,map_drop→B49
open List.Nodup renaming length_le_of_subset→O5
open List.Perm renaming append_left→l9
open Nat renaming le_refl→A6,ne_of_lt→C2,zero_le→D8,lt_of_lt_of_le→E7,le_trans→J6,not_lt_zero→O0,lt_succ_of_lt→P8,lt_trans→R1,pow_succ→R3,le_succ→R8,le_of_not_lt→T5,le_of_lt→T6,lt_of_le_of_lt→T9,pow_le_pow_right→W5,mod_lt→X1,ne_of_gt→X3,mul_comm→X4,lt_irrefl→X5,mul_assoc→Y1,min_eq_left→i9,mul_add→k8,succ_ne_self→m9,eq_of_testBit_eq→o7,add_comm→x4,mul_left_comm→A06,lt_trichotomy→A07,le_add_right→A16,succ_le_succ→A19,eq_zero_of_not_pos→A22,zero_add→A33,two_pow_pos→A36,zero_div→A37,add_zero→A38,sub_zero→A42,pow_lt_pow_right→A51,add_mod→A62,mul_mod→A63,testBit_two_pow→A66,lt_or_eq_of_le→A74,add_sub_cancel→A79,sub_self→B02,lt_or_ge→B04,lt_succ_self→B14,mod_eq_of_lt→B16,min_eq_right→B19,le_antisymm→B28,add_mul→B29,one_mul→B30,testBit_and→B34
open Ne renaming symm→J4
open Option renaming toList_some→C8,map_some→X0,getD_some→Y6,map_eq_some_iff→j6,isSome_map→j9,isSome_iff_exists→z8,getD_none→B09,none→B57
open Option.some renaming inj→I0
open Or renaming inl→E8,inr→o6
open PyProof renaming noPylong_small→j4
open PyProof.Rows renaming slot_tuple_getitem→E3,callWith_type1→L4
open PyProof.Rows.IntsAre renaming int_at→r8
open PySem renaming mem_of_lookup→P6,call→B40
open PySem.Around renaming under_plainId→J3,under_plain→A78
open PySem.Builtin renaming bitAnd→R0,bitNot→W2,bitOr→A70
open PySem.Builtin.Dict renaming updateFrom→Y0,pairItems→Z0,addKeywords→A04,selfAndRest→A05
open PySem.Builtin.Dict_items renaming ownsTuple→p8
open PySem.Builtin.Frozenset renaming updateFrom→o8,sizeOf→A02,slot0→A12,newClass→B35
open PySem.Builtin.List renaming listTooLong→i4,listLengthHint→t5
open PySem.Builtin.Range renaming rangeSize→Q9,small→A60
open PySem.Builtin.Slice renaming slicePlaces→L9,sliceApplied→T1,sliceAdjust→c6,sliceFields→x8
open PySem.Builtin.SmallTypes renaming ownedTupleIsFree→R9,nextOf→V9,newRecord→Z5,calledThroughType→c8,ownedTupleFields→A61
open PySem.Builtin.Tuple renaming tupleExact→J8,tupleItemsOf→T3
open PySem.Calls renaming call_function_entry→x9,callWith_builtin→A21,evalArgs_plain→A47
open PySem.Code renaming quiet_builtin→A77
open PySem.Data renaming cell→y8,fields→A11,seq→B58
open PySem.F renaming called_set→M9,slot_dict_keyiterator_next→P2,plainAttrs_list→P4,slot_list_append→Q6,type_list_append→Q7,slot_tuple_iterator_next→T4,args_tuple_add_2→W7,entry_tuple_add→X6,slot_tuple_add→Y9,slot_zip_next→Z9,slot_list_getattribute→i5,args_dict_keyiterator_next_1→m7,entry_dict_keyiterator_next→n8,args_tuple_iterator_next_1→o9,slot_set_iter→t0,entry_tuple_iterator_next→t9,args_zip_next_1→A03,plain_list_iadd→A13,entry_zip_next→A17,args_object_init_2→A48,kt_typeCall_dict_1→A49,called_tuple→A55,args_dict_init_2→A80,entry_type_call→A95,args_set_iter_1→A96,plain_tuple_new→A97,entry_dict_init→A98,typeCall_set_1→B12,entry_set_init→B13,kt_called_dict→B15,slot_dict_iter→B17
open PySem.Heap renaming get?_push_of_some→A4,get?_push_size→A9,lt_size→B3,get?_update_other→J1,get?_update_self→L5,size_push→M6,get?_push_ne→B00,size_update→B18
open PySem.Heap.DictOf renaming new→B27
open PySem.Heap.IsSliceOf renaming new→A73
open PySem.Heap.SameBut renaming update→M8,refl→A93
open PySem.IsRange renaming new→B56
open PySem.NameKind renaming free→O3,cell→B45
open PySem.Obj renaming data_mapFields→M7,isFreed_of_fields→V7,mapFields→b7,cls_mapFields→b8,mapSeq→i0,putSet→A94
open PySem.Paired renaming length→C6,snoc→Z8
open PySem.PassesOwn renaming never→E1
open PySem.PyData renaming int→Y8,depthAll→u6,leavesShortAll→A44,showableAll→A83,hasDictAll→B01,weightAll→B21
open PySem.SeqAt.EqAt renaming int_int→w6,int_str→A68,str_int→A69,same→B26
open PySem.SeqAt.RcNeAt renaming tuples→d6,lists_lengths→A84,lists→B41
open PySem.SetTable renaming below→B8,insertAt→C4,bits→F4,runEnd→L6,turns→R4,fits→X7,fill→b6,sizeAbove→i7,has→A31,grown→A57,orStandIn→A75,freeSlot→A90,layClean→A99,advance→B10,tooFull→B11,probe→B36,slot→B46,put→B53
open PySem.SetTable.below renaming go→k7
open PySem.SetTable.layClean renaming free→J2
open PySem.SetTable.probe renaming go→D9
open PySem.SetTable.sizeAbove renaming go→A39
open PySem.Str renaming ofString→D2,empty→Z7
open PySem.Value renaming ref→F3,none→L7,int→Q2,bool→W6,type→f9,isInt→A10,str→B23,isStrOf→B43
open PySem.W renaming kia_one→O8,findIn→P9,kitOne→Q0,fnOf→T8,keepIn→V8,codeIn→x6,methodObj→y7,specialIn→y9,cellsFrom_some→A20,instObj→A26,nsIn→A40,lookIn→A53,kdu_collect→A59,mroIn→A71,hasDictIn→A86,kitx_list→A87,kitx_dict→A88,plainGet→B08,takesIn→B24,kHook→B42,mg_of→B48,isFn→B52
open PySem.W.OpenLaw renaming wellSaid→B38,row→B54
open PySem.W.OpenRow renaming toRowW→B50
open PySem.Walks renaming list→A45
open PySem.pickOrder renaming go→B03
open Std.Legacy.Range renaming size→A41,forIn_eq_forIn_range'→A46
open Sum renaming inl→F9,inr→O2
open Sum.inl renaming inj→q9
open Sum.inr renaming inj→B55
open True renaming intro→Y7
set_option Elab.async false
set_option linter.all false
set_option maxRecDepth 100000
set_option maxHeartbeats 0
namespace Fw
open PySem
noncomputable def top (i:Nat):Stmt:=PySem.Challenge.pw_fewrooms_k32_never_shown.main.body.getD i (.Pass ⟨0,0,0,0⟩)
abbrev qE0:Stmt:=top 1
abbrev qF4:Stmt:=top 2
abbrev qDZ:Stmt:=top 3
abbrev qFR:Stmt:=top 4
abbrev qF3:Stmt:=top 5
noncomputable abbrev qCO:Stmt:=top 7
noncomputable abbrev qF5:Stmt:=top 8
noncomputable abbrev qCG:Stmt:=top 9
noncomputable abbrev qFS:Stmt:=top 10
noncomputable abbrev qF2:Stmt:=top 11
noncomputable abbrev qD9:Stmt:=top 13
noncomputable abbrev qF1:Stmt:=top 14
abbrev qDA:Stmt:=top 16
abbrev qC5:Stmt:=top 17
abbrev qCN:Stmt:=top 18
noncomputable abbrev qHE:Stmt:=top 20
noncomputable abbrev qK5:Stmt:=top 21
noncomputable abbrev qCP:Stmt:=top 23
noncomputable abbrev qE1:Stmt:=top 24
noncomputable abbrev qO9:Stmt:=top 25
noncomputable abbrev qHF:Stmt:=top 26
abbrev qFU:Stmt:=top 27
noncomputable abbrev qK4:Stmt:=top 28
noncomputable abbrev qFV:Stmt:=top 29
noncomputable abbrev qK7:Stmt:=top 30
noncomputable abbrev qK6:Stmt:=top 31
noncomputable abbrev qK8:Stmt:=top 32
abbrev qF6:Stmt:=top 33
noncomputable abbrev qHD:Stmt:=top 34
abbrev qFT:Stmt:=top 35
abbrev qHC:Stmt:=top 36
abbrev qE2:Stmt:=top 37
abbrev qDB:Stmt:=top 38
abbrev qCQ:Stmt:=top 39
abbrev qK9:Stmt:=top 40
noncomputable abbrev qIT:Stmt:=top 41
end Fw
namespace Fw
open PySem
noncomputable def dA (s:Stmt):Arguments:=match s with
 | .FunctionDef _ a _ _ _ _ _ _ _ _=>a
 | _=>{ posonlyargs:=[],args:=[],vararg:=none,kwonlyargs:=[],kw_defaults:=[],kwarg:=none,defaults:=[] }
noncomputable def dB (s:Stmt):List Stmt:=match s with
 | .FunctionDef _ _ b _ _ _ _ _ _ _=>b
 | _=>[]
noncomputable def dS (s:Stmt):Scope:=match s with
 | .FunctionDef _ _ _ _ _ _ sc _ _ _=>sc
 | _=>{ kind:=.function,names:=[],isGenerator:=false,isCoroutine:=false }
noncomputable abbrev so (s:String):Str:=PySem.Str.ofString s
noncomputable abbrev kh (P:Params) (s:Str):Int:=PySem.PyData.keyHash P s
noncomputable abbrev hde (P:Params) (s:String) (n:Nat) (v:Value):DictEntry:=⟨kh P (so s),.str (so s) n,v⟩
noncomputable abbrev hvs (s:String) (n:Nat):Value:=.str (so s) n
noncomputable abbrev hcut (n:Nat):Value:=hvs "/claim/cut.py" n
noncomputable abbrev hfd (x q:String) (s:Stmt) (a b c d:Value) (e:Option Addr) (f g:Value) (i:Addr):FuncData:=⟨so x,so q,dA s,.stmts (dB s),dS s,3,[],a,b,c,d,e,f,g,i⟩
noncomputable abbrev htp (d:Data) (s:Array (Option Value)):Obj:=⟨.type "tuple",none,d,s⟩
noncomputable abbrev hcd (d:Data) (s:Array (Option Value)):Obj:=⟨.type "code",none,d,s⟩
noncomputable abbrev hfn (d:Data) (s:Array (Option Value)):Obj:=⟨.type "function",none,d,s⟩
noncomputable abbrev ht0:Obj:=htp (.seq #[]) #[]
noncomputable def hvl:List String->Nat->List Value
 | [],_=>[]
 | x::r,n=>hvs x n::hvl r (n+1)
noncomputable abbrev hts (l:List String) (n:Nat):Obj:=htp (.seq (hvl l n).toArray) #[]
noncomputable abbrev hco (x:String) (t:Nat) (ln ac fl:Int) (b:Nat) (md e:Int) (n:Nat):Obj:=hcd (.fields #[hvs x t,hvs x (t+1),hcut (t+2),.int ln 0,.int ac 0,.int 0 0,.int 0 0,.int fl 0,.ref b,.bool .true,.int md 0,.ref (b+1),.none,.ref (b+2),.ref (b+3),.ref (b+4),.int e 0,.int ln 0,hcut n]) #[]
noncomputable abbrev hcp (x:String) (t:Nat) (ln ac:Int) (b:Nat) (md e:Int):Obj:=hcd (.fields #[hvs x t,hvs x (t+1),hcut (t+2),.int ln 0,.int ac 0,.int 0 0,.int 0 0,.int 3 0,.ref b,.bool .true,.int md 0,.ref (b+1),.none,.none,.none,.ref (b+2),.int e 0,.int ln 0,hcut (t+4)]) #[]
noncomputable abbrev hfo (x:String) (s:Stmt) (m:String) (t c:Nat):Obj:=hfn (.func (hfd x x s .none .none .none (hvs m t) .none (.ref c) .none 0)) #[]
noncomputable def hpK:Params->PySem.W.Frag:=fun P=>
 (nat_lit 2,Obj.mk .none .none (.dict #[]) #[]) ::
 (nat_lit 3,Obj.mk (.type "dict") .none (.dict #[hde P "__name__" 165 (hvs "law_fewrooms_k32_never_shown" 313),hde P "__doc__" 166 .none,hde P "__package__" 167 .none,hde P "__loader__" 168 (.builtin "__main__.__loader__#opaque"),hde P "__spec__" 169 .none,hde P "__annotations__" 170 (.ref 6),hde P "__builtins__" 171 (.ref 4),hde P "__file__" 173 (hcut 172),hde P "__cached__" 174 .none,hde P "is_number" 195 (.ref 21),hde P "is_below" 203 (.ref 28),hde P "is_rising" 213 (.ref 35),hde P "is_pair" 220 (.ref 42),hde P "is_stand" 229 (.ref 49),hde P "fault_of_do" 244 (.ref 56),hde P "fault_of" 254 (.ref 63),hde P "stand_behind" 260 (.ref 68),hde P "has_all" 266 (.ref 73),hde P "moves_of" 272 (.ref 78),hde P "renumbered" 280 (.ref 83),hde P "part_net" 286 (.ref 88),hde P "are_closed" 300 (.ref 95),hde P "never_come_to" 306 (.ref 100),hde P "shows_never" 312 (.ref 105),hde P "_law_begin" 322 (.ref 112),hde P "_law_take" 335 (.ref 119),hde P "_law_same" 341 (.ref 124),hde P "_law_some_needs" 352 (.ref 131),hde P "_law_tree_net" 364 (.ref 138),hde P "_law_net" 370 (.ref 143),hde P "_law_asked" 380 (.ref 150),hde P "_law_needed" 386 (.ref 155),hde P "_law_word" 392 (.ref 160),hde P "_law_behind" 398 (.ref 165),hde P "_law_come" 404 (.ref 170),hde P "_law_part" 410 (.ref 175),hde P "_law_bits" 416 (.ref 180),hde P "_law_done_in" 422 (.ref 185),hde P "_law_least" 431 (.ref 192),hde P "_law_rising" 437 (.ref 197),hde P "_law_stays" 449 (.ref 204),hde P "_law_is_never" 455 (.ref 209),hde P "_law_own_paper" 461 (.ref 214),hde P "_law_bent_stand" 472 (.ref 221),hde P "_law_bent" 478 (.ref 226),hde P "law" 494 (.ref 233)] 46) #[]) ::
 (nat_lit 15,ht0) ::
 (nat_lit 17,hts ["thing"] 192) ::
 (nat_lit 18,ht0) ::
 (nat_lit 20,hco "is_number" 189 2 1 3 15 181 193 194) ::
 (nat_lit 21,hfo "is_number" qE0 "fewrooms.kinds" 187 20) ::
 (nat_lit 22,ht0) ::
 (nat_lit 24,hts ["thing","end"] 199) ::
 (nat_lit 25,ht0) ::
 (nat_lit 27,hco "is_below" 196 4 2 3 22 181 201 202) ::
 (nat_lit 28,hfo "is_below" qF4 "fewrooms.kinds" 187 27) ::
 (nat_lit 29,ht0) ::
 (nat_lit 31,hts ["thing","end","least","number"] 207) ::
 (nat_lit 32,ht0) ::
 (nat_lit 34,hco "is_rising" 204 6 2 3 29 181 211 212) ::
 (nat_lit 35,hfo "is_rising" qDZ "fewrooms.kinds" 187 34) ::
 (nat_lit 36,ht0) ::
 (nat_lit 38,hts ["thing"] 217) ::
 (nat_lit 39,ht0) ::
 (nat_lit 41,hco "is_pair" 214 15 1 3 36 181 218 219) ::
 (nat_lit 42,hfo "is_pair" qFR "fewrooms.kinds" 187 41) ::
 (nat_lit 43,ht0) ::
 (nat_lit 45,hts ["net","rooms","thing"] 224) ::
 (nat_lit 46,ht0) ::
 (nat_lit 48,hco "is_stand" 221 17 3 3 43 181 227 228) ::
 (nat_lit 49,hfo "is_stand" qF3 "fewrooms.kinds" 187 48) ::
 (nat_lit 50,ht0) ::
 (nat_lit 52,hts ["net","rooms","stand","work","there","result","need"] 235) ::
 (nat_lit 53,ht0) ::
 (nat_lit 55,hco "fault_of_do" 232 20 4 3 50 181 242 243) ::
 (nat_lit 56,hfo "fault_of_do" qCO "fewrooms.moves" 230 55) ::
 (nat_lit 57,ht0) ::
 (nat_lit 59,hts ["net","rooms","stand","move"] 248) ::
 (nat_lit 60,ht0) ::
 (nat_lit 62,hco "fault_of" 245 32 4 3 57 181 252 253) ::
 (nat_lit 63,hfo "fault_of" qF5 "fewrooms.moves" 230 62) ::
 (nat_lit 64,ht0) ::
 (nat_lit 67,hcp "stand_behind" 255 38 2 64 181 258) ::
 (nat_lit 68,hfo "stand_behind" qCG "fewrooms.moves" 230 67) ::
 (nat_lit 69,ht0) ::
 (nat_lit 72,hcp "has_all" 261 42 2 69 181 264) ::
 (nat_lit 73,hfo "has_all" qFS "fewrooms.moves" 230 72) ::
 (nat_lit 74,ht0) ::
 (nat_lit 77,hcp "moves_of" 267 44 3 74 181 270) ::
 (nat_lit 78,hfo "moves_of" qF2 "fewrooms.moves" 230 77) ::
 (nat_lit 79,ht0) ::
 (nat_lit 82,hcp "renumbered" 275 49 2 79 181 278) ::
 (nat_lit 83,hfo "renumbered" qD9 "fewrooms.nets" 273 82) ::
 (nat_lit 84,ht0) ::
 (nat_lit 87,hcp "part_net" 281 51 2 84 181 284) ::
 (nat_lit 88,hfo "part_net" qF1 "fewrooms.nets" 273 87) ::
 (nat_lit 89,ht0) ::
 (nat_lit 91,hts ["net","rooms","stands","known","stand","move"] 292) ::
 (nat_lit 92,ht0) ::
 (nat_lit 94,hco "are_closed" 289 57 3 3 89 181 298 299) ::
 (nat_lit 95,hfo "are_closed" qDA "fewrooms.nevercheck" 287 94) ::
 (nat_lit 96,ht0) ::
 (nat_lit 99,hcp "never_come_to" 301 66 4 96 181 304) ::
 (nat_lit 100,hfo "never_come_to" qC5 "fewrooms.nevercheck" 287 99) ::
 (nat_lit 101,ht0) ::
 (nat_lit 104,hcp "shows_never" 307 72 4 101 181 310) ::
 (nat_lit 105,hfo "shows_never" qCN "fewrooms.nevercheck" 287 104) ::
 (nat_lit 106,ht0) ::
 (nat_lit 108,hts ["_law_script","_law_cells"] 318) ::
 (nat_lit 109,ht0) ::
 (nat_lit 111,hco "_law_begin" 315 79 1 3 106 181 320 321) ::
 (nat_lit 112,hfo "_law_begin" qHE "law_fewrooms_k32_never_shown" 313 111) ::
 (nat_lit 113,ht0) ::
 (nat_lit 115,hts ["_law_state","_law_many","_law_turn","_law_place","_law_cell","_law_digit","_law_mixed"] 326) ::
 (nat_lit 116,ht0) ::
 (nat_lit 118,hco "_law_take" 323 84 2 3 113 181 333 334) ::
 (nat_lit 119,hfo "_law_take" qK5 "law_fewrooms_k32_never_shown" 313 118) ::
 (nat_lit 125,ht0) ::
 (nat_lit 127,hts ["_law_state","_law_k","_law_found","_law_turn","_law_far"] 345) ::
 (nat_lit 128,ht0) ::
 (nat_lit 130,hco "_law_some_needs" 342 107 2 3 125 181 350 351) ::
 (nat_lit 131,hfo "_law_some_needs" qCP "law_fewrooms_k32_never_shown" 313 130) ::
 (nat_lit 132,ht0) ::
 (nat_lit 134,hts ["_law_state","_law_many","_law_open_ones","_law_found","_law_k","_law_so_many"] 356) ::
 (nat_lit 135,ht0) ::
 (nat_lit 137,hco "_law_tree_net" 353 114 2 3 132 181 362 363) ::
 (nat_lit 138,hfo "_law_tree_net" qE1 "law_fewrooms_k32_never_shown" 313 137) ::
 (nat_lit 139,ht0) ::
 (nat_lit 142,hcp "_law_net" 365 122 2 139 181 368) ::
 (nat_lit 143,hfo "_law_net" qO9 "law_fewrooms_k32_never_shown" 313 142) ::
 (nat_lit 144,ht0) ::
 (nat_lit 146,hts ["_law_state","_law_net_here","_law_found","_law_turn"] 374) ::
 (nat_lit 147,ht0) ::
 (nat_lit 149,hco "_law_asked" 371 137 2 3 144 181 378 379) ::
 (nat_lit 150,hfo "_law_asked" qHF "law_fewrooms_k32_never_shown" 313 149) ::
 (nat_lit 151,ht0) ::
 (nat_lit 154,hcp "_law_needed" 381 142 2 151 181 384) ::
 (nat_lit 155,hfo "_law_needed" qFU "law_fewrooms_k32_never_shown" 313 154) ::
 (nat_lit 156,ht0) ::
 (nat_lit 159,hcp "_law_word" 387 151 4 156 181 390) ::
 (nat_lit 160,hfo "_law_word" qK4 "law_fewrooms_k32_never_shown" 313 159) ::
 (nat_lit 161,ht0) ::
 (nat_lit 164,hcp "_law_behind" 393 159 2 161 181 396) ::
 (nat_lit 165,hfo "_law_behind" qFV "law_fewrooms_k32_never_shown" 313 164) ::
 (nat_lit 166,ht0) ::
 (nat_lit 169,hcp "_law_come" 399 163 2 166 181 402) ::
 (nat_lit 170,hfo "_law_come" qK7 "law_fewrooms_k32_never_shown" 313 169) ::
 (nat_lit 171,ht0) ::
 (nat_lit 174,hcp "_law_part" 405 188 2 171 181 408) ::
 (nat_lit 175,hfo "_law_part" qK6 "law_fewrooms_k32_never_shown" 313 174) ::
 (nat_lit 176,ht0) ::
 (nat_lit 179,hcp "_law_bits" 411 191 1 176 181 414) ::
 (nat_lit 180,hfo "_law_bits" qK8 "law_fewrooms_k32_never_shown" 313 179) ::
 (nat_lit 181,ht0) ::
 (nat_lit 184,hcp "_law_done_in" 417 193 3 181 181 420) ::
 (nat_lit 185,hfo "_law_done_in" qF6 "law_fewrooms_k32_never_shown" 313 184) ::
 (nat_lit 186,ht0) ::
 (nat_lit 188,hts ["_law_net_here","_law_asked_here","_law_rooms"] 426) ::
 (nat_lit 189,ht0) ::
 (nat_lit 191,hco "_law_least" 423 197 2 3 186 181 429 430) ::
 (nat_lit 192,hfo "_law_least" qHD "law_fewrooms_k32_never_shown" 313 191) ::
 (nat_lit 193,ht0) ::
 (nat_lit 196,hcp "_law_rising" 432 202 2 193 181 435) ::
 (nat_lit 197,hfo "_law_rising" qFT "law_fewrooms_k32_never_shown" 313 196) ::
 (nat_lit 198,ht0) ::
 (nat_lit 200,hts ["_law_part_here","_law_rooms","_law_stand","_law_there","_law_work","_law_move"] 441) ::
 (nat_lit 201,ht0) ::
 (nat_lit 203,hco "_law_stays" 438 209 4 3 198 181 447 448) ::
 (nat_lit 204,hfo "_law_stays" qHC "law_fewrooms_k32_never_shown" 313 203) ::
 (nat_lit 205,ht0) ::
 (nat_lit 208,hcp "_law_is_never" 450 215 4 205 181 453) ::
 (nat_lit 209,hfo "_law_is_never" qE2 "law_fewrooms_k32_never_shown" 313 208) ::
 (nat_lit 210,ht0) ::
 (nat_lit 213,hcp "_law_own_paper" 456 233 4 210 181 459) ::
 (nat_lit 214,hfo "_law_own_paper" qDB "law_fewrooms_k32_never_shown" 313 213) ::
 (nat_lit 215,ht0) ::
 (nat_lit 217,hts ["_law_state","_law_stand","_law_many","_law_more","_law_some"] 465) ::
 (nat_lit 218,ht0) ::
 (nat_lit 220,hco "_law_bent_stand" 462 245 3 3 215 181 470 471) ::
 (nat_lit 221,hfo "_law_bent_stand" qCQ "law_fewrooms_k32_never_shown" 313 220) ::
 (nat_lit 222,ht0) ::
 (nat_lit 225,hcp "_law_bent" 473 250 3 222 181 476) ::
 (nat_lit 226,hfo "_law_bent" qK9 "law_fewrooms_k32_never_shown" 313 225) ::
 (nat_lit 227,ht0) ::
 (nat_lit 229,hts ["_law_script","_law_state","_law_net_here","_law_asked_here","_law_least_here","_law_turn","_law_rooms","_law_thing","_law_seen","_law_told"] 482) ::
 (nat_lit 230,ht0) ::
 (nat_lit 232,hco "law" 479 263 1 3 227 181 492 493) ::
 (nat_lit 233,hfo "law" qIT "law_fewrooms_k32_never_shown" 313 232) ::
 []
noncomputable def hpA:List Addr:=[2,3,15,17,18,20,21,22,24,25,27,28,29,31,32,34,35,36,38,39,41,42,43,45,46,48,49,50,52,53,55,56,57,59,60,62,63,64,67,68,69,72,73,74,77,78,79,82,83,84,87,88,89,91,92,94,95,96,99,100,101,104,105,106,108,109,111,112,113,115,116,118,119,125,127,128,130,131,132,134,135,137,138,139,142,143,144,146,147,149,150,151,154,155,156,159,160,161,164,165,166,169,170,171,174,175,176,179,180,181,184,185,186,188,189,191,192,193,196,197,198,200,201,203,204,205,208,209,210,213,214,215,217,218,220,221,222,225,226,227,229,230,232,233]
noncomputable def hpQ:Program:=PySem.W.view PySem.Challenge.pw_fewrooms_k32_never_shown [1,2,3,4,5,7,8,9,10,11,13,14,16,17,18,20,21,22,23,24,25,26,27,28,29,30,31,32,33,34,35,36,37,38,39,40,41]
def hpN:Nat:=2360
theorem hpE (P:Params):hpA=(hpK P).map (·.1):=by kernel_rfl
noncomputable def hpX (s:Shared):Bool:=PySem.W.xlAt hpQ [] s && PySem.W.recOk (PySem.W.RowW.records (B50 (B54 PySem.Challenge.rw_fewrooms_k32_never_shown))) s
theorem hpLeft:PySem.W.LeftO PySem.Challenge.pw_fewrooms_k32_never_shown hpQ [] hpX (B42 hpK hpA hpE).obs (B42 hpK hpA hpE).val hpN:=fun w=>by kernel_rfl
theorem hpSaid:B38 PySem.Challenge.rw_fewrooms_k32_never_shown=true:=by kernel_rfl
end Fw
namespace L2
open PySem PySem.Spec PyProof.Rows
abbrev Key:=Sum Int Str
noncomputable def qM7:Key->Value->Bool
 | .inl k,v=>A10 k v
 | .inr x,v=>B43 x v
noncomputable def keyH (w:World):Key->Int
 | .inl k=>hashInt k
 | .inr x=>hashStr w x
theorem qBD:∀ {k:Key} {v:Value},qM7 k v=true->(∃ i t,k=F9 i/\v=Q2 i t)\/(∃ x t,k=O2 x/\v=B23 x t)
 | .inl i,v,h=>by
  obtain ⟨t,e⟩:=Value.isInt_shape (k:=i) (v:=v) h;exact .inl ⟨i,t,rfl,e⟩
 | .inr x,v,h=>by
  obtain ⟨t,e⟩:=Value.isStrOf_shape (x:=x) (v:=v) h;exact .inr ⟨x,t,rfl,e⟩
theorem qM6 (i:Int) (t:Tok):qM7 (.inl i) (.int i t)=true:=by simp [qM7,A10]
theorem qS3 (x:Str) (t:Tok):qM7 (.inr x) (.str x t)=true:=by simp [qM7,B43]
theorem qZC (a b:Int):decide ((F9 a:Key)=F9 b)=(a == b):=by
 by_cases e:a=b
 ·subst e;simp
 ·have h:¬ (F9 a:Key)=F9 b:=fun q=>e (q9 q);rw [decide_eq_false h];exact (beq_eq_false_iff_ne.mpr e).symm
theorem qZ9 (a b:Str):decide ((O2 a:Key)=O2 b)=decide (a=b):=by
 by_cases e:a=b
 ·subst e;simp
 ·have h:¬ (O2 a:Key)=O2 b:=fun q=>e (B55 q);rw [decide_eq_false h,decide_eq_false e]
theorem qZB (a:Int) (b:Str):decide ((F9 a:Key)=O2 b)=false:=decide_eq_false (fun q=>nomatch q)
theorem qZA (a:Str) (b:Int):decide ((O2 a:Key)=F9 b)=false:=decide_eq_false (fun q=>nomatch q)
noncomputable def qB3 (prog:Program) (w:World):PySem.KeyKind prog w Key where
 is:=qM7
 hash:=keyH w
 inj:=fun v a b ha hb=>by
  rcases qBD ha with ⟨i,t,rfl,rfl⟩ | ⟨x,t,rfl,rfl⟩
  ·rcases qBD hb with ⟨j,u,rfl,e⟩ | ⟨y,u,rfl,e⟩
   ·injection e with e1 _;rw [e1]
   ·exact nomatch e
  ·rcases qBD hb with ⟨j,u,rfl,e⟩ | ⟨y,u,rfl,e⟩
   ·exact nomatch e
   ·injection e with e1 _;rw [e1]
 byValue:=fun k v h=>by
  rcases qBD h with ⟨i,t,rfl,rfl⟩ | ⟨x,t,rfl,rfl⟩ <;> rfl
 pyHash:=fun hv h=>by
  rcases qBD hv with ⟨i,t,rfl,rfl⟩ | ⟨x,t,rfl,rfl⟩
  ·exact wpAny_pyHash_int h
  ·exact wpAny_pyHash_str h
 eqBool:=fun hu hv h=>by
  rcases qBD hu with ⟨i,t,rfl,rfl⟩ | ⟨x,t,rfl,rfl⟩
  ·rcases qBD hv with ⟨j,u,rfl,rfl⟩ | ⟨y,u,rfl,rfl⟩
   ·rw [qZC] at h;exact wpAny_eqBool_int h
   ·rw [qZB] at h;exact A68 i t y u _ _ _ _ h
  ·rcases qBD hv with ⟨j,u,rfl,rfl⟩ | ⟨y,u,rfl,rfl⟩
   ·rw [qZA] at h;exact A69 x t j u _ _ _ _ h
   ·rw [qZ9] at h;exact wpAny_eqBool_str h
 «strs»:=fun k x t v h=>by
  rcases qBD h with ⟨i,u,rfl,e⟩ | ⟨y,u,rfl,e⟩
  ·exact nomatch e
  ·injection e with e1 _
   subst e1;cases v <;> rfl
theorem qQ4 (prog:Program) (w:World) (k:Key) (v:Value):(qB3 prog w).is k v=qM7 k v:=rfl
theorem qNC (prog:Program) (w:World) (i:Int) (t:Tok):(qB3 prog w).is (.inl i) (.int i t)=true:=qM6 i t
theorem qNB (prog:Program) (w:World) (x:Str) (t:Tok):(qB3 prog w).is (.inr x) (.str x t)=true:=qS3 x t
end L2
namespace L2
open PySem PySem.Spec PyProof.Rows
inductive V where
 | non | bl (b:Bool) | int (i:Int) | str (x:Str) | byt (b:Array UInt8) | flt (b:UInt64) | ref (a:Addr) | ty (n:String)
 deriving DecidableEq
def RelV:V->Value->Prop
 | .non,u=>u=L7
 | .bl b,u=>u=W6 b
 | .int i,u=>∃ t,u=Q2 i t
 | .str x,u=>∃ t,u=B23 x t
 | .byt b,u=>∃ t,u=Value.bytes b t
 | .flt b,u=>∃ t,u=Value.float b t
 | .ref a,u=>u=F3 a
 | .ty n,u=>u=f9 n
abbrev Vals:List V->List Value->Prop:=Paired RelV
theorem Vals.length {xs:List V} {us:List Value} (r:Vals xs us):xs.length=us.length:=C6 r
theorem Vals.get:∀ {xs:List V} {us:List Value} {i:Nat} {x:V},Vals xs us->xs[i]?=some x->∃ u,us[i]?=some u/\RelV x u
 | _,_,_,_,.nil,e=>by simp at e
 | _,_,0,_,.cons r _,e=>by simp at e;subst e;exact ⟨_,rfl,r⟩
 | _,_,i+1,x,.cons _ t,e=>by
  obtain ⟨u,h1,h2⟩:=Vals.get (i:=i) (x:=x) t (by simpa using e)
  exact ⟨u,by simpa using h1,h2⟩
theorem Vals.set {x:V} {u:Value} (r:RelV x u):∀ {xs:List V} {us:List Value} (i:Nat),Vals xs us->Vals (xs.set i x) (us.set i u)
 | _,_,_,.nil=>.nil
 | _,_,0,.cons _ t=>.cons r t
 | _,_,i+1,.cons q t=>.cons q (Vals.set r i t)
theorem Vals.append:∀ {xs ys:List V} {us ws:List Value},Vals xs us->Vals ys ws->Vals (xs++ys) (us++ws)
 | _,_,_,_,.nil,s=>s
 | _,_,_,_,.cons r t,s=>.cons r (Vals.append t s)
theorem Vals.take:∀ {xs:List V} {us:List Value} (n:Nat),Vals xs us->Vals (xs.take n) (us.take n)
 | _,_,0,_=>.nil
 | _,_,_+1,.nil=>.nil
 | _,_,n+1,.cons r t=>.cons r (Vals.take n t)
theorem Vals.drop:∀ {xs:List V} {us:List Value} (n:Nat),Vals xs us->Vals (xs.drop n) (us.drop n)
 | _,_,0,r=>r
 | _,_,_+1,.nil=>.nil
 | _,_,n+1,.cons _ t=>Vals.drop n t
def RelO:Option V->Option Value->Prop
 | some v,some u=>RelV v u
 | none,none=>True
 | _,_=>False
def KV {κ:Type}:List (κ × V)->List (κ × Value)->Prop:=Paired fun (p:κ × V) (q:κ × Value)=>p.1=q.1/\RelV p.2 q.2
inductive CTb where
 | tab (q:Str)
 | cod (q:Str)
noncomputable def kV:Key->V
 | .inl i=>.int i
 | .inr x=>.str x
inductive HO where
 | lst (xs:List V)
 | tup (xs:List V)
 | dK (Af:List (Key × V)) | dT (Af:List (List Key × V))
 | set (S:Int->Bool) (n:Nat)
 | ins (C dx:Addr) (fs:List (Str × V))
 | own (x:Addr)
 | xd (fs:List (Str × V))
 | met (f x:Addr)
 | rng (lo hi:Int)
 | frz (o:Obj) (u:HO)
 | tbl (t:CTb)
 | ext (φ:Heap->Prop)
abbrev Hp:=Addr->Option HO
noncomputable def Ag (H:Hp) (a:Addr) (o:HO):Hp:=fun b=>if b=a then some o else H b
theorem qA1 {H:Hp} {a:Addr} {o:HO}:Ag H a o a=some o:=by unfold Ag;rw [if_pos rfl]
theorem qAC {H:Hp} {a b:Addr} {o:HO} (h:b ≠ a):Ag H a o b=H b:=by unfold Ag;rw [if_neg h]
theorem qHQ {H:Hp} {a:Addr} {o u:HO}:Ag (Ag H a o) a u=Ag H a u:=by
 funext b;unfold Ag;split <;> rfl
theorem qDV {H:Hp} {a b:Addr} {o u:HO} (h:H a=some o) (h':H b=some u) (d:o ≠ u):a ≠ b:=by
 intro e;subst e;rw [h] at h';exact d (I0 h')
theorem qA7 {H:Hp} {a b:Addr} {o:HO} (h:H a=some o) (h':H b=none):a ≠ b:=by
 intro e;subst e;rw [h] at h';cases h'
def TupB (h:Heap) (a:Addr) (items:Array Value):Prop:=∃ o,h.get? a=some o/\o.cls=.type "tuple"/\∃ n,o.data=.seq items n/\o.dict=none
theorem TupB.is {h:Heap} {a:Addr} {items:Array Value} (x:TupB h a items):IsTup h a items:=let ⟨o,e,c,n,q,_⟩:=x;⟨o,e,c,n,q⟩
theorem TupB.lt {h:Heap} {a:Addr} {items:Array Value} (x:TupB h a items):a<h.objs.size:=x.is.lt
theorem TupB.new (h:Heap) (items:Array Value):TupB (h.push { cls:=.type "tuple",data:=.seq items }) h.objs.size items:=⟨_,A9 _ rfl,rfl,_,rfl,rfl⟩
section
variable (P:Program) (w:World)
def ObjOk (H:Hp) (h:Heap) (a:Addr):HO->Prop
 | .lst xs=>xs.length<=sizeLine/\∃ (its:List Value) (n:Nat),Vals xs its/\h.get? a=some { cls:=.type "list",data:=.seq its.toArray n }
 | .tup xs=>xs.length<=sizeLine/\∃ its:List Value,Vals xs its/\TupB h a its.toArray
 | .dK Af=>Af.length<=sizeLine/\(a == sysModules)=false/\∃ vs,KV Af vs/\h.DictOf (qB3 P w) a vs
 | .dT Af=>Af.length<=sizeLine/\(a == sysModules)=false/\∃ xs:List (List Key × Addr × Value),
   Paired (fun (p:List Key × V) (q:List Key × Addr × Value)=>p.1=q.1/\H q.2.1=some (.tup (p.1.map kV))/\RelV p.2 q.2.2) Af xs/\
   ∃ o es ep,h.get? a=some o/\o.ExactDict/\o.data=.dict es ep/\es.toList=xs.map (entryOfKey (tupleKind (qB3 P w)))/\(xs.map (·.1)).Nodup
 | .set S n=>h.SetOf (intKind P w) a S n
 | .ins C dx fs=>H dx=some (.own a)/\fs.length<=1000/\dx ≠ a/\h.get? a=some (A26 C dx)/\
   ∃ mA,h.Ns1 dx mA/\(∀ f,RelO (fs.lookup f) (mA f))/\PySem.Within mA (fs.map (·.1))
 | .own _=>∃ o,h.get? a=some o
 | .xd fs=>∃ mA,h.Ns1 a mA/\∀ f,RelO (fs.lookup f) (mA f)
 | .rng lo hi=>∃ t u v,h.get? a=some { cls:=.type "range",data:=.fields #[.int lo t,.int hi u,.int 1 v] }
 | .frz o u=>h.get? a=some o/\ObjOk H h a u
 | .tbl (.tab q)=>∃ more:Array Value,h.get? a=some { cls:=.none,data:=.fields more }/\TriplesOk more.toList/\∀ pos cv,codeAmong pos more.toList=some cv->∃ c,cv=.ref c/\H c=some (.tbl (.cod q))
 | .tbl (.cod q)=>h.CodeRec (.ref a) q
 | .met f x=>h.get? a=some (y7 (.ref f) (.ref x))
 | .ext φ=>φ h/\(∃ o,h.get? a=some o)/\∀ h1 h2:Heap,φ h1->(∀ o,h1.get? a=some o->h2.get? a=some o)->φ h2
def HOk (H:Hp) (h:Heap):Prop:=∀ a o,H a=some o->ObjOk P w H h a o
end
section
variable {P:Program} {w:World} {H H':Hp} {h h':Heap} {a:Addr} {o:HO}
theorem ObjOk.lt (x:ObjOk P w H h a o):a<h.objs.size:=by
 cases o with
 | lst xs=>obtain ⟨_,_,_,_,e⟩:=x;exact B3 e
 | tup xs=>obtain ⟨_,_,_,p⟩:=x;exact p.lt
 | dK Af=>obtain ⟨_,_,_,_,o,_,_,e,_⟩:=x;exact B3 e
 | dT Af=>obtain ⟨_,_,_,_,o,_,_,e,_⟩:=x;exact B3 e
 | set S n=>obtain ⟨o,_,_,_,e,_⟩:=x;exact B3 e
 | ins C dx fs=>obtain ⟨_,_,_,e,_⟩:=x;exact B3 e
 | own y=>obtain ⟨_,e⟩:=x;exact B3 e
 | xd fs=>obtain ⟨_,⟨_,_,_,e,_⟩,_⟩:=x;exact B3 e
 | rng lo hi=>obtain ⟨_,_,_,e⟩:=x;exact B3 e
 | frz ob u=>obtain ⟨e,_⟩:=x;exact B3 e
 | tbl t=>
  cases t with
  | tab q=>obtain ⟨_,e,_⟩:=x;exact B3 e
  | cod q=>obtain ⟨c,o,_,_,e,g,_⟩:=x;cases e;exact B3 g
 | met f y=>exact B3 (show h.get? a=some _ from x)
 | ext φ=>obtain ⟨_,⟨_,e⟩,_⟩:=x;exact B3 e
theorem Paired.mapP {α β:Type} {F G:α->β->Prop}:∀ {l₁:List α} {l₂:List β},Paired F l₁ l₂->(∀ a b,F a b->G a b)->Paired G l₁ l₂
 | _,_,.nil,_=>.nil
 | _,_,.cons r t,f=>.cons (f _ _ r) (Paired.mapP t f)
theorem ObjOk.stay (x:ObjOk P w H h a o) (k:∀ b u,(b=a\/H b=some (.own a))->h.get? b=some u->h'.get? b=some u)
  (ho:∀ b,H b=some (.own a)->H' b=some (.own a)) (ht:∀ b xs,H b=some (.tup xs)->H' b=some (.tup xs)) (hb:∀ b t,H b=some (.tbl t)->H' b=some (.tbl t):=by exact fun _ _ q=>q):ObjOk P w H' h' a o:=by
 induction o with
 | lst xs=>obtain ⟨z,its,n,r,e⟩:=x;exact ⟨z,its,n,r,k _ _ (.inl rfl) e⟩
 | tup xs=>obtain ⟨z,its,r,ob,e,c⟩:=x;exact ⟨z,its,r,ob,k _ _ (.inl rfl) e,c⟩
 | dK Af=>obtain ⟨z,y,vs,r,ob,es,ep,e,c⟩:=x;exact ⟨z,y,vs,r,ob,es,ep,k _ _ (.inl rfl) e,c⟩
 | dT Af=>
  obtain ⟨z,y,xs,r,ob,es,ep,e,c⟩:=x;exact ⟨z,y,xs,Paired.mapP r fun p q z=>⟨z.1,ht _ _ z.2.1,z.2.2⟩,ob,es,ep,k _ _ (.inl rfl) e,c⟩
 | set S n=>obtain ⟨ob,es,ep,t,e,c⟩:=x;exact ⟨ob,es,ep,t,k _ _ (.inl rfl) e,c⟩
 | ins C dx fs=>
  obtain ⟨d,z,ne,e,mA,⟨od,es,ep,e2,c⟩,r⟩:=x;exact ⟨ho _ d,z,ne,k _ _ (.inl rfl) e,mA,⟨od,es,ep,k _ _ (.inr d) e2,c⟩,r⟩
 | own y=>obtain ⟨ob,e⟩:=x;exact ⟨ob,k _ _ (.inl rfl) e⟩
 | xd fs=>obtain ⟨mA,⟨od,es,ep,e,c⟩,r⟩:=x;exact ⟨mA,⟨od,es,ep,k _ _ (.inl rfl) e,c⟩,r⟩
 | rng lo hi=>obtain ⟨t,u,v,e⟩:=x;exact ⟨t,u,v,k _ _ (.inl rfl) e⟩
 | frz ob u ih=>obtain ⟨e,q⟩:=x;exact ⟨k _ _ (.inl rfl) e,ih q⟩
 | tbl t=>
  cases t with
  | tab q=>obtain ⟨m,e,tr,c⟩:=x;exact ⟨m,k a _ (.inl rfl) e,tr,fun pos cv z=>let ⟨c',e1,e2⟩:=c pos cv z;⟨c',e1,hb _ _ e2⟩⟩
  | cod q=>obtain ⟨c,o,vs,t,e,g,r⟩:=x;cases e;exact ⟨a,o,vs,t,rfl,k a _ (.inl rfl) g,r⟩
 | met f y=>
  have e:h.get? a=some (y7 (.ref f) (.ref y)):=x;show h'.get? a=some (y7 (.ref f) (.ref y));exact k a _ (.inl rfl) e
 | ext φ=>obtain ⟨p,⟨o,e⟩,st⟩:=x;exact ⟨st _ _ p fun o q=>k _ _ (.inl rfl) q,⟨o,k _ _ (.inl rfl) e⟩,st⟩
theorem HOk.lt (x:HOk P w H h) (e:H a=some o):a<h.objs.size:=(x a o e).lt
theorem HOk.fresh (x:HOk P w H h) (e:h.objs.size<=a):H a=none:=by
 cases q:H a with
 | none=>rfl
 | some u=>exact absurd (E7 (x.lt q) e) (X5 _)
theorem HOk.kept (x:HOk P w H h) (k:∀ b u,h.get? b=some u->h'.get? b=some u):HOk P w H h':=fun a o e=>
 (x a o e).stay (fun b u _ q=>k b u q) (fun _ q=>q) fun _ _ q=>q
theorem HOk.laid (x:HOk P w H h) (k:∀ b u,h.get? b=some u->h'.get? b=some u) (hp:h.objs.size<=a) (new:ObjOk P w (Ag H a o) h' a o):HOk P w (Ag H a o) h':=fun b u e=>by
 have hn:=x.fresh hp;by_cases hb:b=a
 ·subst hb;rw [qA1] at e;cases e;exact new
 ·rw [qAC hb] at e;exact (x b u e).stay (fun c v _ q=>k c v q) (fun c q=>by rw [qAC (qA7 q hn)];exact q) (fun c xs q=>by rw [qAC (qA7 q hn)];exact q) fun c t q=>by rw [qAC (qA7 q hn)];exact q
end
def Rd (H:Hp) (a:Addr) (u:HO):Prop:=H a=some u\/∃ o,H a=some (.frz o u)
theorem Rd.ok {P:Program} {w:World} {H:Hp} {h:Heap} {a:Addr} {u:HO} (r:Rd H a u) (x:HOk P w H h):ObjOk P w H h a u:=by
 rcases r with r | ⟨o,r⟩
 ·exact x a u r
 ·obtain ⟨_,q⟩:=x a _ r;exact q
def Mut:Option HO->Prop
 | some (.lst _)=>True
 | some (.dK _)=>True
 | some (.dT _)=>True
 | some (.set _ _)=>True
 | some (.ins _ _ _)=>True
 | some (.ext _)=>True
 | _=>False
section
variable {P:Program} {w:World} {H:Hp} {h h':Heap} {x e:Addr} {o':HO}
theorem HOk.write (ok:HOk P w H h) (mu:Mut (H x)) (he:e=x\/H e=some (.own x)) (k:∀ b u,b ≠ e->h.get? b=some u->h'.get? b=some u) (heo:∃ u,h'.get? e=some u)
  (new:ObjOk P w (Ag H x o') h' x o'):HOk P w (Ag H x o') h':=fun b u q=>by
 have nown:∀ c y,H c=some (.own y)->c ≠ x:=fun c y r z=>by subst z;rw [r] at mu;exact mu
 have ntup:∀ c xs,H c=some (.tup xs)->c ≠ x:=fun c xs r z=>by subst z;rw [r] at mu;exact mu
 by_cases hb:b=x
 ·subst hb;rw [qA1] at q;cases q;exact new
 ·rw [qAC hb] at q;by_cases hbe:b=e
  ·have q':H b=some (.own x):=by
    rcases he with z | z
    ·exact absurd (hbe.trans z) hb
    ·rw [hbe];exact z
   rw [q] at q';cases q';obtain ⟨v,hv⟩:=heo;exact ⟨v,by rw [hbe];exact hv⟩
  ·refine (ok b u q).stay (fun c v hc r=>k c v ?_ r) (fun c r=>by rw [qAC (nown c b r)];exact r) (fun c xs r=>by rw [qAC (ntup c xs r)];exact r) fun c t r=>by rw [qAC (fun z=>by subst z;rw [r] at mu;exact mu)];exact r
   rcases hc with rfl | hc
   ·exact hbe
   ·rintro rfl;rcases he with z | z
    ·exact nown c b hc z
    ·rw [hc] at z;cases z;exact hb rfl
end
structure Un (fs ex:List Addr) (H H':Hp) (h h':Heap):Prop where
 keep:∀ b o,h.get? b=some o->H b=none->b ∉ fs->b ∉ ex->h'.get? b=some o
 slot:∀ b o,h.get? b=some o->H b=none->b ∈ fs->b ∉ ex->∃ sl,h'.get? b=some { o with slots:=sl }
 free:∀ b o,h.get? b=some o->H b=none->b ∉ ex->H' b=none
 there:∀ b o,h.get? b=some o->b ∉ ex->∃ o',h'.get? b=some o'
 tups:∀ b xs,H b=some (.tup xs)->H' b=some (.tup xs)
 frzs:∀ b o u,H b=some (.frz o u)->H' b=some (.frz o u)
 tbls:∀ b ps,H b=some (.tbl ps)->H' b=some (.tbl ps)
section
variable {fs fs' ex ex':List Addr} {H H1 H2:Hp} {h h1 h2 h':Heap} {a x e:Addr} {o:HO}
theorem Un.any (u:Un fs ex H H1 h h1) {b:Addr} {ob:Obj} (q:h.get? b=some ob) (n:H b=none) (hx:b ∉ ex):∃ sl,h1.get? b=some { ob with slots:=sl }:=by
 by_cases hb:b ∈ fs
 ·exact u.slot b ob q n hb hx
 ·exact ⟨ob.slots,u.keep b ob q n hb hx⟩
theorem Un.kept (k:∀ b u,h.get? b=some u->h'.get? b=some u):Un fs ex H H h h':=
 ⟨fun b ob q _ _ _=>k b ob q,fun b ob q _ _ _=>⟨ob.slots,k b ob q⟩,fun _ _ _ n _=>n,fun b ob q _=>⟨ob,k b ob q⟩,fun _ _ q=>q,fun _ _ _ q=>q,fun _ _ q=>q⟩
theorem Un.refl:Un fs ex H H h h:=Un.kept fun _ _ q=>q
theorem Un.laid (k:∀ b u,h.get? b=some u->h'.get? b=some u) (hp:h.objs.size<=a) (hn:H a=none):Un fs ex H (Ag H a o) h h' where
 keep:=fun b u q _ _ _=>k b u q
 slot:=fun b u q _ _ _=>⟨u.slots,k b u q⟩
 free:=fun b u q n _=>by rw [qAC (C2 (E7 (B3 q) hp))];exact n
 there:=fun b u q _=>⟨u,k b u q⟩
 tups:=fun b xs q=>by rw [qAC (qA7 q hn)];exact q
 frzs:=fun b u xs q=>by rw [qAC (qA7 q hn)];exact q
 tbls:=fun b ps q=>by rw [qAC (qA7 q hn)];exact q
theorem Un.write (mu:Mut (H x)) (he:e=x\/H e=some (.own x)) (k:∀ b u,b ≠ e->h.get? b=some u->h'.get? b=some u) (heo:∃ u,h'.get? e=some u):Un fs ex H (Ag H x o) h h':=by
 have hx:∀ b,H b=none->b ≠ x:=fun b n z=>by subst z;rw [n] at mu;exact mu
 have hb:∀ b,H b=none->b ≠ e:=fun b n z=>by
  subst z;rcases he with r | r
  ·exact hx b n r
  ·rw [n] at r;cases r
 have hm:∀ b u,H b=some u->¬ Mut (some u)->b ≠ x:=fun b u q nm z=>by subst z;rw [q] at mu;exact nm mu
 refine ⟨fun b u q n _ _=>k b u (hb b n) q,fun b u q n _ _=>⟨u.slots,k b u (hb b n) q⟩,fun b u q n _=>by rw [qAC (hx b n)];exact n,fun b u q _=>?_,
  fun b xs q=>by rw [qAC (hm b _ q fun z=>z)];exact q,fun b u xs q=>by rw [qAC (hm b _ q fun z=>z)];exact q,fun b ps q=>by rw [qAC (hm b _ q fun z=>z)];exact q⟩
 by_cases hbe:b=e
 ·subst hbe;exact heo
 ·exact ⟨u,k b u hbe q⟩
end
noncomputable def trk (h:Heap) (H:Hp):List Addr:=(E6 h.objs.size).filter fun a=>(H a).isSome
noncomputable def hidT (h:Heap) (H:Hp):Heap:=PySem.W.hideAll h (trk h H)
theorem qSD (h:Heap) (H:Hp):(hidT h H).objs.size=h.objs.size:=PySem.W.hideAll_size _ _
theorem qV1 {h:Heap} {H:Hp} {b:Addr} {o:Obj} (e:h.get? b=some o) (n:H b=none):(hidT h H).get? b=some o:=
 PySem.W.hideAll_get _ e fun hm=>by
  have q:(H b).isSome=true:=(K9.mp hm).2;rw [n] at q;simp at q
theorem qXA {h:Heap} {H:Hp} {b:Addr} {o:Obj} (e:(hidT h H).get? b=some o):h.get? b=some o/\H b=none:=by
 have e':h.get? b=some o:=PySem.W.of_hideAll (trk h H) e;refine ⟨e',?_⟩;cases q:H b with
 | none=>rfl
 | some x=>
  have hm:b ∈ trk h H:=K9.mpr ⟨D6.mpr (B3 e'),by simp [q]⟩
  have z:(hidT h H).get? b=none:=PySem.W.hideAll_none (trk h H) hm;rw [z] at e;cases e
noncomputable def qY1 (g h:Heap) (L:Addr):List (Addr × Obj):=(E6 h.objs.size).filterMap fun a=>if a=L\/(g.get? a).isSome=true then none else (h.get? a).map fun o=>(a,o)
noncomputable def rest (g h:Heap) (L d:Addr):List (Addr × Obj):=(qY1 g h L).filter fun p=>decide (p.1 ≠ d)
end L2
namespace L2
open PySem PySem.Spec PyProof.Rows
structure Mod (K:PySem.W.Frag) (mg:Str->Option Value) (base:Heap):Prop where
 kin:K.In base
 glob:base.Ns mainGlobals mg
 blt:∃ mb,base.Ns builtinsNs mb/\∀ x:Str,x ≠ "__name__"->mb x=bootBuiltins x
 nolimit:base.NoLimit
structure Cx where
 prog:Program
 w:World
 K:PySem.W.Frag
 mg:Str->Option Value
 base:Heap
 A:Around
 N:List Str
 s₀:Shared
 H₀:Hp
 env:Env
 outer:List Env
 stack:List Env
 ex:List Addr
 fn:Str->Bool
 calm:Bool
 pn:List (Addr × Obj)
 xe:Value->Shared->Prop
noncomputable def frs (l:List Env):List Addr:=l.filterMap (·.frame)
noncomputable abbrev Cx.fs (X:Cx):List Addr:=frs X.outer
def Vis (sc:Scope) (x:Str):Prop:=sc.names.lookup x=some .local\/sc.names.lookup x=some .cell\/sc.names.lookup x=some .free
def Loc (sc:Scope) (x:Str):Prop:=sc.names.lookup x=some .local\/sc.names.lookup x=some .cell
def Look (env:Env) (h:Heap) (m:Str->Option Value) (x:Str) (u:Value):Prop:=
 (env.kindOf x=some .local/\m x=some u)\/((env.kindOf x=some .cell\/env.kindOf x=some .free)/\∃ c,env.cells.lookup x=some c/\h.IsCell c (some u))
structure Cx.Ok (X:Cx):Prop where
 mod:Mod X.K X.mg X.base
 kind:X.env.scope.kind=.function
 glob:X.env.globals=mainGlobals
 blt:X.env.builtins=builtinsNs
 above:X.s₀.heap.objs.size<=X.env.locals
 inj:∀ x y c,X.env.cells.lookup x=some c->X.env.cells.lookup y=some c->x=y
 has:∀ x,(X.env.kindOf x=some .cell\/X.env.kindOf x=some .free)->∃ c,X.env.cells.lookup x=some c
 cab:∀ x c,X.fn x=true->X.env.cells.lookup x=some c->X.s₀.heap.objs.size<=c
 hd:X.calm=true->X.A.handled=none
 frames:X.A.frames=some X.stack
 stk:X.stack=X.outer\/(X.stack=X.env::X.outer/\X.env.frame=some X.env.locals)
 exf:∀ b ∈ X.ex,b ≠ X.env.locals/\∀ x c,X.env.cells.lookup x=some c->c ≠ b
 bs:∀ b o,X.base.get? b=some o->X.s₀.heap.get? b=some o/\X.H₀ b=none
 bsz:X.base.objs.size<=X.s₀.heap.objs.size
 noex:∀ b o,X.base.get? b=some o->b ∉ X.ex
 exfs:∀ b ∈ X.ex,b ∉ X.fs
 funs:X.s₀.heap.FunFrames X.base X.outer
 frf:∀ b ∈ X.fs,X.H₀ b=none
structure Inv (X:Cx) (Ab:List (Addr × Obj)) (σ:List (Option V)) (H:Hp) (s:Shared):Prop where
 ok:X.Ok
 os:s.os=X.s₀.os
 bare:AllBare s.gens
 base:Un X.fs X.ex X.H₀ H X.s₀.heap s.heap
 loc:∃ m,s.heap.Ns X.env.locals m/\∀ (i:Nat) (x:Str) (v:V),X.N[i]?=some x->σ[i]?=some (some v)->Vis X.env.scope x->∃ u,RelV v u/\Look X.env s.heap m x u
 cell:∀ x c,X.env.cells.lookup x=some c->∃ v,s.heap.IsCell c v
 free:H X.env.locals=none
 freeC:∀ x c,X.env.cells.lookup x=some c->H c=none
 pin:∀ p ∈ X.pn++Ab,s.heap.get? p.1=some p.2/\H p.1=none/\p.1 ≠ X.env.locals/\p.1 ∉ X.fs/\∀ v,p.2.data ≠ .cell v
 hok:HOk X.prog X.w H s.heap
 len:σ.length=X.N.length
section
variable {X:Cx} {Ab:List (Addr × Obj)} {σ:List (Option V)} {H H':Hp} {s:Shared} {h':Heap}
theorem Cx.Ok.nofr (ok:X.Ok) {b:Addr} {o:Obj} (e:X.base.get? b=some o):b ∉ X.fs:=fun hb=>by
 have:=(ok.funs.mem hb).1;rw [e] at this;cases this
theorem Inv.bs (I:Inv X Ab σ H s):∀ b o,X.base.get? b=some o->s.heap.get? b=some o/\H b=none:=fun b o e=>
 ⟨I.base.keep b o (I.ok.bs b o e).1 (I.ok.bs b o e).2 (I.ok.nofr e) (I.ok.noex b o e),I.base.free b o (I.ok.bs b o e).1 (I.ok.bs b o e).2 (I.ok.noex b o e)⟩
theorem Inv.bk (I:Inv X Ab σ H s):∀ b o,X.base.get? b=some o->s.heap.get? b=some o:=fun b o e=>(I.bs b o e).1
theorem Inv.mod (I:Inv X Ab σ H s):Mod X.K X.mg X.base:=I.ok.mod
theorem Inv.kIn (I:Inv X Ab σ H s):X.K.In s.heap:=I.ok.mod.kin.keeps I.bk
theorem Inv.lt (I:Inv X Ab σ H s):X.env.locals<s.heap.objs.size:=let ⟨_,hn,_⟩:=I.loc;hn.lt
theorem Inv.sz (I:Inv X Ab σ H s):X.s₀.heap.objs.size<=s.heap.objs.size:=J6 I.ok.above (T6 I.lt)
theorem Inv.nofs (I:Inv X Ab σ H s) {a:Addr} (h:s.heap.objs.size<=a):a ∉ X.fs:=fun hb=>by
 obtain ⟨_,o,ho,_⟩:=I.ok.funs.mem hb;exact absurd (E7 (B3 ho) (J6 I.sz h)) (X5 _)
theorem Inv.cne (I:Inv X Ab σ H s):∀ x c,X.env.cells.lookup x=some c->c ≠ X.env.locals:=fun x c e z=>by
 obtain ⟨v,o,ho,hd⟩:=I.cell x c e;obtain ⟨m,⟨o',es,ep,ho',hd',_⟩,_⟩:=I.loc;rw [z,ho'] at ho;cases ho;rw [hd'] at hd;cases hd
theorem Inv.funs (I:Inv X Ab σ H s):s.heap.FunFrames X.base X.outer:=by
 have all:∀ (l:List Env),(∀ b ∈ frs l,b ∈ X.fs)->X.s₀.heap.FunFrames X.base l->s.heap.FunFrames X.base l:=by
  intro l
  induction l with
  | nil=>intro _ _;trivial
  | cons env r ih=>
   intro hs hl;obtain ⟨hk,⟨L,o,hf,hn,ho,hd⟩,hr⟩:=hl;have hL:L ∈ X.fs:=hs L (by unfold frs;rw [R5,hf];exact C9)
   obtain ⟨sl,e⟩:=I.base.slot L o ho (I.ok.frf L hL) hL fun z=>I.ok.exfs L z hL;exact ⟨hk,⟨L,_,hf,hn,e,hd⟩,ih (fun b hb=>hs b (by unfold frs;rw [R5,hf];exact D4 _ hb)) hr⟩
 exact all X.outer (fun _ hb=>hb) I.ok.funs
theorem Inv.stack (I:Inv X Ab σ H s):s.heap.FunFrames X.base X.stack:=by
 rcases I.ok.stk with e | ⟨e,hf⟩
 ·rw [e];exact I.funs
 ·rw [e];obtain ⟨m,hn,_⟩:=I.loc;refine .cons (by rw [I.ok.kind];decide) hf hn ?_ I.funs
  exact Heap.get?_none_of_le (J6 I.ok.bsz I.ok.above)
theorem Inv.stkSub (I:Inv X Ab σ H s):∀ b ∈ frs X.stack,b ∈ X.env.locals::X.fs:=fun b hb=>by
 rcases I.ok.stk with e | ⟨e,hf⟩
 ·rw [e] at hb;exact D4 _ hb
 ·rw [e] at hb;unfold frs at hb;rw [R5,hf] at hb;exact hb
theorem Inv.stkFree (I:Inv X Ab σ H s):∀ b ∈ frs X.stack,H b=none:=fun b hb=>by
 rcases B6.mp (I.stkSub b hb) with e | hb
 ·rw [e];exact I.free
 ·obtain ⟨_,o,ho,_⟩:=I.ok.funs.mem hb;exact I.base.free b o ho (I.ok.frf b hb) fun z=>I.ok.exfs b z hb
theorem Inv.step {g':Array GenState} {t':Nat} {d':Drawn} {ch:List Addr} (I:Inv X Ab σ H s)
  (hch:∀ b ∈ ch,(b ∈ X.ex\/X.s₀.heap.objs.size<=b)/\b ≠ X.env.locals/\(∀ x c,X.env.cells.lookup x=some c->c ≠ b)/\∀ p ∈ X.pn++Ab,p.1 ≠ b)
  (keep:∀ b o,b ≠ X.env.locals->b ∉ X.fs->b ∉ ch->s.heap.get? b=some o->H b=none->h'.get? b=some o)
  (slot:∀ b o,b ≠ X.env.locals->b ∈ X.fs->b ∉ ch->s.heap.get? b=some o->H b=none->∃ sl,h'.get? b=some { o with slots:=sl }) (free:∀ b o,b ∉ ch->s.heap.get? b=some o->H b=none->H' b=none)
  (there:∀ b o,b ∉ ch->s.heap.get? b=some o->∃ o',h'.get? b=some o')
  (tups:∀ b xs,H b=some (.tup xs)->H' b=some (.tup xs)) (frzs:∀ b o u,H b=some (.frz o u)->H' b=some (.frz o u)) (tbls:∀ b ps,H b=some (.tbl ps)->H' b=some (.tbl ps))
  (ns:∀ m,s.heap.Ns X.env.locals m->h'.Ns X.env.locals m) (hok:HOk X.prog X.w H' h') (hg:AllBare g') :
  Inv X Ab σ H' { s with heap:=h',gens:=g',drawn:=d',toks:=t' }:=by
 have neL:∀ b o,X.s₀.heap.get? b=some o->b ≠ X.env.locals:=fun b o e=>C2 (E7 (B3 e) I.ok.above);have neC:∀ b o,X.s₀.heap.get? b=some o->b ∉ X.ex->b ∉ ch:=fun b o e hx hb=>by
  rcases (hch b hb).1 with z | z
  ·exact hx z
  ·exact absurd (E7 (B3 e) z) (X5 _)
 have cellK:∀ x c,X.env.cells.lookup x=some c->∀ v,s.heap.IsCell c v->h'.IsCell c v:=fun x c e v ⟨o,ho,hd⟩=>by
  have nch:c ∉ ch:=fun z=>(hch c z).2.2.1 x c e rfl;by_cases hc:c ∈ X.fs
  ·obtain ⟨sl,q⟩:=slot c o (I.cne x c e) hc nch ho (I.freeC x c e);exact ⟨_,q,hd⟩
  ·exact ⟨o,keep c o (I.cne x c e) hc nch ho (I.freeC x c e),hd⟩
 refine ⟨I.ok,I.os,hg,⟨fun b o e n hb hx=>?_,fun b o e n hb hx=>?_,fun b o e n hx=>?_,fun b o e hx=>?_,fun b xs e=>tups b xs (I.base.tups b xs e),fun b o xs e=>frzs b o xs (I.base.frzs b o xs e),fun b ps e=>?_⟩,?_,fun x c e=>?_,?_,fun x c e=>?_,fun p hp=>?_,hok,I.len⟩
 ·exact keep b o (neL b o e) hb (neC b o e hx) (I.base.keep b o e n hb hx) (I.base.free b o e n hx)
 ·obtain ⟨sl,e1⟩:=I.base.slot b o e n hb hx;obtain ⟨sl',e2⟩:=slot b _ (neL b o e) hb (neC b o e hx) e1 (I.base.free b o e n hx);exact ⟨sl',e2⟩
 ·obtain ⟨o',e1⟩:=I.base.there b o e hx;exact free b o' (neC b o e hx) e1 (I.base.free b o e n hx)
 ·obtain ⟨o',e1⟩:=I.base.there b o e hx;exact there b o' (neC b o e hx) e1
 ·exact tbls b ps (I.base.tbls b ps e)
 ·obtain ⟨m,hn,hl⟩:=I.loc;refine ⟨m,ns m hn,fun i x v e1 e2 e3=>?_⟩;obtain ⟨u,r,l⟩:=hl i x v e1 e2 e3;refine ⟨u,r,?_⟩;rcases l with l | ⟨k,c,e,z⟩
  ·exact .inl l
  ·exact .inr ⟨k,c,e,cellK x c e _ z⟩
 ·obtain ⟨v,z⟩:=I.cell x c e;exact ⟨v,cellK x c e v z⟩
 ·obtain ⟨m,⟨o,_,_,ho,_⟩,_⟩:=I.loc;exact free _ o (fun z=>(hch _ z).2.1 rfl) ho I.free
 ·obtain ⟨v,o,ho,hd⟩:=I.cell x c e;exact free c o (fun z=>(hch c z).2.2.1 x c e rfl) ho (I.freeC x c e)
 ·obtain ⟨e,n,ne,nf,d⟩:=I.pin p hp;have nch:p.1 ∉ ch:=fun z=>(hch p.1 z).2.2.2 p hp rfl;exact ⟨keep p.1 p.2 ne nf nch e n,free p.1 p.2 nch e n,ne,nf,d⟩
theorem Inv.un {t':Nat} (I:Inv X Ab σ H s) (u:Un X.fs [] H H' s.heap h') (hok:HOk X.prog X.w H' h'):Inv X Ab σ H' { s with heap:=h',toks:=t' }:=by
 obtain ⟨m,⟨o,es,ep,ho,r⟩,_⟩:=id I.loc;obtain ⟨sl,hL⟩:=u.any ho I.free (by simp)
 exact I.step (g':=s.gens) (d':=s.drawn) (ch:=[]) (fun _ z=>nomatch z) (fun b o _ hb _ e n=>u.keep b o e n hb (by simp)) (fun b o _ hb _ e n=>u.slot b o e n hb (by simp)) (fun b o _ e n=>u.free b o e n (by simp)) (fun b o _ e=>u.there b o e (by simp)) u.tups u.frzs u.tbls (fun m' hm=>by
  obtain ⟨o',es',ep',ho',r'⟩:=hm;rw [ho] at ho';cases ho';exact ⟨_,es',ep',hL,r'⟩) hok I.bare
theorem Inv.call {g':Array GenState} {t':Nat} {d':Drawn} {ch:List Addr} (I:Inv X Ab σ H s) (u:Un (frs X.stack) ch H H' s.heap h') (hok:HOk X.prog X.w H' h') (hg:AllBare g')
  (hch:∀ b ∈ ch,(b ∈ X.ex\/X.s₀.heap.objs.size<=b)/\b ≠ X.env.locals/\(∀ x c,X.env.cells.lookup x=some c->c ≠ b)/\∀ p ∈ X.pn++Ab,p.1 ≠ b) :
  Inv X Ab σ H' { s with heap:=h',gens:=g',drawn:=d',toks:=t' }:=by
 obtain ⟨m,⟨o,es,ep,ho,r⟩,_⟩:=id I.loc;obtain ⟨sl,hL⟩:=u.any ho I.free fun z=>(hch _ z).2.1 rfl;exact I.step (ch:=ch) hch (fun b o hL hb hc e n=>u.keep b o e n (fun z=>(B6.mp (I.stkSub b z)).elim hL hb) hc) (fun b o _ _ hc e n=>u.any e n hc) (fun b o hc e n=>u.free b o e n hc) (fun b o hc e=>u.there b o e hc) u.tups u.frzs u.tbls (fun m' hm=>by
  obtain ⟨o',es',ep',ho',r'⟩:=hm;rw [ho] at ho';cases ho';exact ⟨_,es',ep',hL,r'⟩) hok hg
theorem Inv.turned {t':Nat} {it:Addr} (I:Inv X Ab σ H s) (k:∀ b o,b ≠ it->s.heap.get? b=some o->h'.get? b=some o) (hn:H it=none) (hL:it ≠ X.env.locals)
  (h1:it ∈ X.ex\/X.s₀.heap.objs.size<=it) (h2:∀ x c,X.env.cells.lookup x=some c->c ≠ it) (h3:∀ p ∈ X.pn++Ab,p.1 ≠ it):Inv X Ab σ H { s with heap:=h',toks:=t' }:=by
 have nit:∀ b u,H b=some u->b ≠ it:=fun b u e z=>by rw [z,hn] at e;cases e
 refine I.step (g':=s.gens) (d':=s.drawn) (ch:=[it]) (fun b hb=>?_) (fun b o _ _ hc e _=>k b o (fun z=>hc (by simp [z])) e) (fun b o _ _ hc e _=>⟨o.slots,k b o (fun z=>hc (by simp [z])) e⟩) (fun _ _ _ _ n=>n)
  (fun b o hc e=>⟨o,k b o (fun z=>hc (by simp [z])) e⟩) (fun _ _ e=>e) (fun _ _ _ e=>e) (fun _ _ e=>e) (fun m hm=>?_) (fun b u e=>?_) I.bare
 ·have e:b=it:=by simpa using hb
  subst e;exact ⟨h1,hL,h2,h3⟩
 ·obtain ⟨o,es,ep,ho,r⟩:=hm;exact ⟨o,es,ep,k _ o (J4 hL) ho,r⟩
 ·refine (I.hok b u e).stay (fun c v hc q=>k c v ?_ q) (fun _ q=>q) fun _ _ q=>q;rcases hc with z | z
  ·rw [z];exact nit b u e
  ·exact nit c _ z
theorem Inv.tok (I:Inv X Ab σ H s) (t:Nat):Inv X Ab σ H { s with toks:=t }:=I.un (h':=s.heap) (t':=t) Un.refl I.hok
theorem Inv.kept {t':Nat} (I:Inv X Ab σ H s) (k:∀ b u,s.heap.get? b=some u->h'.get? b=some u):Inv X Ab σ H { s with heap:=h',toks:=t' }:=I.un (Un.kept k) (I.hok.kept k)
theorem Inv.laid {a:Addr} {o:HO} {t':Nat} (I:Inv X Ab σ H s) (k:∀ b u,s.heap.get? b=some u->h'.get? b=some u) (hp:s.heap.objs.size<=a) (new:ObjOk X.prog X.w (Ag H a o) h' a o) :
  Inv X Ab σ (Ag H a o) { s with heap:=h',toks:=t' }:=I.un (Un.laid k hp (I.hok.fresh hp)) (I.hok.laid k hp new)
theorem Inv.write {x e:Addr} {o:HO} {t':Nat} (I:Inv X Ab σ H s) (mu:Mut (H x)) (he:e=x\/H e=some (.own x)) (k:∀ b u,b ≠ e->s.heap.get? b=some u->h'.get? b=some u) (heo:∃ u,h'.get? e=some u)
  (new:ObjOk X.prog X.w (Ag H x o) h' x o):Inv X Ab σ (Ag H x o) { s with heap:=h',toks:=t' }:=I.un (Un.write mu he k heo) (I.hok.write mu he k heo new)
theorem Inv.pins_of {pins':List (Addr × Obj)} (I:Inv X Ab σ H s) (h:∀ p ∈ pins',s.heap.get? p.1=some p.2/\H p.1=none/\p.1 ≠ X.env.locals/\p.1 ∉ X.fs/\∀ v,p.2.data ≠ .cell v):Inv X pins' σ H s:=
 ⟨I.ok,I.os,I.bare,I.base,I.loc,I.cell,I.free,I.freeC,fun p hp=>(B1.mp hp).elim (fun z=>I.pin p (n9 _ z)) (h p),I.hok,I.len⟩
theorem qOR {N:List Str} (hN:N.Nodup) {i j:Nat} {x:Str} (a:N[i]?=some x) (b:N[j]?=some x):i=j:=by
 obtain ⟨h1,e1⟩:=A5.mp a;obtain ⟨h2,e2⟩:=A5.mp b;exact (List.getElem_inj hN).mp (e1.trans e2.symm)
theorem qLF {M:Model} {A:Around} {E:Value->Shared->Prop} {i:Nat} {x:Str} {v:V} {u:Value} {Q:Unit->Shared->Prop} (I:Inv X Ab σ H s) (hN:X.N.Nodup) (hi:X.N[i]?=some x) (hx:Loc X.env.scope x) (r:RelV v u)
  (h:∀ s',Inv X Ab (σ.set i (some v)) H s'->(∃ a,Heap.SameBut a s.heap s'.heap/\(a=X.env.locals\/X.env.cells.lookup x=some a))->Q () s') (hf:X.fn x=true\/X.env.scope.names.lookup x=some .local:=by first | exact .inl rfl | exact .inr rfl | assumption):wpAny M A (storeName X.env x u) Q E s:=by
 obtain ⟨m,hn,hl⟩:=id I.loc;have hcls:(X.env.scope.kind == .class || (X.env.scope.kind == .module && X.env.locals != X.env.globals))=false:=by rw [I.ok.kind];rfl
 have hiσ:i<σ.length:=by rw [I.len];exact (A5.mp hi).1
 have cne:=I.cne;have tracked:∀ {a:Addr} {h':Heap},(∃ o,s.heap.get? a=some o/\H a=none)->Heap.SameBut a s.heap h'->HOk X.prog X.w H h':=fun {a h'} ha hs b ob e=>by
  obtain ⟨_,_,hfree⟩:=ha;refine (I.hok b ob e).stay (fun c w' hc q=>(hs.2 c ?_).trans q) (fun _ q=>q) fun _ _ q=>q;rintro rfl;rcases hc with rfl | hc
  ·rw [hfree] at e;cases e
  ·rw [hfree] at hc;cases hc
 rcases hx with hk | hk
 ·refine wpAny_storeName_local hk hn (fun h' hn' hs=>?_) hcls;obtain ⟨oL,_,_,hoL,_⟩:=id hn;refine h _ ⟨I.ok,I.os,I.bare,⟨fun b o e n hb hx=>?_,fun b o e n hb hx=>?_,I.base.free,fun b o e hx=>?_,I.base.tups,I.base.frzs,I.base.tbls⟩,⟨_,hn',fun j y v' e1 e2 e3=>?_⟩,fun y c e=>?_,I.free,I.freeC,fun p hp=>?_,tracked ⟨oL,hoL,I.free⟩ hs,by simpa using I.len⟩ ⟨_,hs,.inl rfl⟩
  ·exact (hs.2 b (C2 (E7 (B3 e) I.ok.above))).trans (I.base.keep b o e n hb hx)
  ·obtain ⟨sl,e1⟩:=I.base.slot b o e n hb hx;exact ⟨sl,(hs.2 b (C2 (E7 (B3 e) I.ok.above))).trans e1⟩
  ·obtain ⟨o',e1⟩:=I.base.there b o e hx;exact ⟨o',(hs.2 b (C2 (E7 (B3 e) I.ok.above))).trans e1⟩
  ·by_cases hj:j=i
   ·subst hj;rw [hi] at e1;cases e1;rw [j3 hiσ] at e2;cases e2;exact ⟨u,r,.inl ⟨hk,by simp⟩⟩
   ·rw [o5 (J4 hj)] at e2;obtain ⟨u',r',q⟩:=hl j y v' e1 e2 e3;refine ⟨u',r',?_⟩;rcases q with ⟨k,e⟩ | ⟨k,c,e,z⟩
    ·refine .inl ⟨k,?_⟩;have:y ≠ x:=fun e=>hj (qOR hN e1 (e ▸ hi));simp [this,e]
    ·exact .inr ⟨k,c,e,z.sameBut hs (cne y c e)⟩
  ·obtain ⟨w',z⟩:=I.cell y c e;exact ⟨w',z.sameBut hs (cne y c e)⟩
  ·obtain ⟨e,n,ne,nf,d⟩:=I.pin p hp;exact ⟨(hs.2 p.1 ne).trans e,n,ne,nf,d⟩
 ·have hfn:X.fn x=true:=by
   rcases hf with z | z
   ·exact z
   ·rw [z] at hk;cases hk
  obtain ⟨c,hc⟩:=I.ok.has x (.inl hk);obtain ⟨w',z⟩:=I.cell x c hc;refine wpAny_storeName_cell I.ok.kind hk hc z (fun h' hc' hs=>?_);obtain ⟨oc,hoc,hocd⟩:=id z;refine h { s with heap:=h' } ⟨I.ok,I.os,I.bare,⟨fun b o e n hb hx=>?_,fun b o e n hb hx=>?_,I.base.free,fun b o e hx=>?_,I.base.tups,I.base.frzs,I.base.tbls⟩,⟨m,hn.sameBut hs (J4 (cne x c hc)),fun j y v' e1 e2 e3=>?_⟩,fun y c' e=>?_,I.free,I.freeC,fun p hp=>?_,tracked ⟨oc,hoc,I.freeC x c hc⟩ hs,by simpa using I.len⟩ ⟨c,hs,.inr hc⟩
  ·exact (hs.2 b (C2 (E7 (B3 e) (I.ok.cab x c hfn hc)))).trans (I.base.keep b o e n hb hx)
  ·obtain ⟨sl,e1⟩:=I.base.slot b o e n hb hx;exact ⟨sl,(hs.2 b (C2 (E7 (B3 e) (I.ok.cab x c hfn hc)))).trans e1⟩
  ·obtain ⟨o',e1⟩:=I.base.there b o e hx;exact ⟨o',(hs.2 b (C2 (E7 (B3 e) (I.ok.cab x c hfn hc)))).trans e1⟩
  ·by_cases hj:j=i
   ·subst hj;rw [hi] at e1;cases e1;rw [j3 hiσ] at e2;cases e2;exact ⟨u,r,.inr ⟨.inl hk,c,hc,hc'⟩⟩
   ·rw [o5 (J4 hj)] at e2;obtain ⟨u',r',q⟩:=hl j y v' e1 e2 e3;refine ⟨u',r',?_⟩;rcases q with q | ⟨k,c',e,z'⟩
    ·exact .inl q
    ·refine .inr ⟨k,c',e,z'.sameBut hs ?_⟩;rintro rfl;exact hj (qOR hN e1 (I.ok.inj _ _ _ e hc ▸ hi))
  ·by_cases hcc:c'=c
   ·subst hcc;exact ⟨_,hc'⟩
   ·obtain ⟨w2,z2⟩:=I.cell y c' e;exact ⟨w2,z2.sameBut hs hcc⟩
  ·obtain ⟨e,n,ne,nf,d⟩:=I.pin p hp;refine ⟨(hs.2 p.1 ?_).trans e,n,ne,nf,d⟩;intro q;rw [q,hoc] at e;have q':oc=p.2:=I0 e;exact d w' (by rw [<- q'];exact hocd)
theorem qO1 {M:Model} {A:Around} {E:Value->Shared->Prop} {i:Nat} {x:Str} {v:V} {u:Value} {Q:Unit->Shared->Prop} (I:Inv X Ab σ H s) (hN:X.N.Nodup) (hi:X.N[i]?=some x) (hx:Loc X.env.scope x) (r:RelV v u)
  (h:∀ s',Inv X Ab (σ.set i (some v)) H s'->Q () s') (hf:X.fn x=true\/X.env.scope.names.lookup x=some .local:=by first | exact .inl rfl | exact .inr rfl | assumption):wpAny M A (storeName X.env x u) Q E s:=
 qLF I hN hi hx r (fun s' I' _=>h s' I') hf
theorem Inv.call' {s':Shared} {ch:List Addr} (I:Inv X Ab σ H s) (ho:s'.os=s.os) (u:Un (frs X.stack) ch H H' s.heap s'.heap) (hok:HOk X.prog X.w H' s'.heap) (hg:AllBare s'.gens)
  (hch:∀ b ∈ ch,(b ∈ X.ex\/X.s₀.heap.objs.size<=b)/\b ≠ X.env.locals/\(∀ x c,X.env.cells.lookup x=some c->c ≠ b)/\∀ p ∈ X.pn++Ab,p.1 ≠ b):Inv X Ab σ H' s':=by
 obtain ⟨h',g',d',t',o'⟩:=s';have e:o'=s.os:=ho;subst e;exact I.call (g':=g') (t':=t') (d':=d') u hok hg hch
end
abbrev XK:=Value->Option Addr->Hp->Prop
abbrev St:=List (Option V)
abbrev VK:=V->Hp->Prop
abbrev TE:=St->Hp->VK->Prop
abbrev TT:=St->Hp->(Bool->Hp->Prop)->Prop
abbrev TA:=St->Hp->(List V->Hp->Prop)->Prop
structure Ends where
 nx:St->Hp->Prop
 rt:VK
 bk:St->Hp->Prop:=fun _ _=>False
 ct:St->Hp->Prop:=fun _ _=>False
abbrev TS:=Ends->St->Hp->Prop
def EP (X:Cx) (Ab:List (Addr × Obj)) (σ:St) (Q:VK) (u:Value) (s':Shared):Prop:=∃ v H',Inv X Ab σ H' s'/\RelV v u/\Q v H'
def TP (X:Cx) (Ab:List (Addr × Obj)) (σ:St) (Q:Bool->Hp->Prop) (b:Bool) (s':Shared):Prop:=∃ H',Inv X Ab σ H' s'/\Q b H'
def AP (X:Cx) (Ab:List (Addr × Obj)) (σ:St) (Q:List V->Hp->Prop) (us:List Value) (s':Shared):Prop:=∃ vs H',Inv X Ab σ H' s'/\Vals vs us/\Q vs H'
def SP (X:Cx) (Ab:List (Addr × Obj)) (D:Ends) (f:Flow) (s':Shared):Prop:=
 match f with
 | .next=>∃ σ' H',Inv X Ab σ' H' s'/\D.nx σ' H'
 | .brk=>∃ σ' H',Inv X Ab σ' H' s'/\D.bk σ' H'
 | .cont=>∃ σ' H',Inv X Ab σ' H' s'/\D.ct σ' H'
 | .ret u=>∃ v σ' H',Inv X Ab σ' H' s'/\RelV v u/\D.rt v H'
def PE (X:Cx) (e:Expr) (t:TE):Prop:=
 ∀ (Ab:List (Addr × Obj)) (s:Shared) (σ:St) (H:Hp) (Q:VK),Inv X Ab σ H s->t σ H Q->wpAny (model X.prog X.w) X.A (eval e X.env) (EP X Ab σ Q) X.xe s
def PT (X:Cx) (e:Expr) (t:TT):Prop:=
 ∀ (Ab:List (Addr × Obj)) (s:Shared) (σ:St) (H:Hp) (Q:Bool->Hp->Prop),Inv X Ab σ H s->t σ H Q->wpAny (model X.prog X.w) X.A (isTrue e X.env (eval e X.env)) (TP X Ab σ Q) X.xe s
def PW (X:Cx) (e:Expr) (t:TT):Prop:=
 ∀ (whole:Sem Value) (Ab:List (Addr × Obj)) (s:Shared) (σ:St) (H:Hp) (Q:Bool->Hp->Prop),Inv X Ab σ H s->t σ H Q->wpAny (model X.prog X.w) X.A (isTrue e X.env whole) (TP X Ab σ Q) X.xe s
theorem PW.pt {X:Cx} {e:Expr} {t:TT} (h:PW X e t):PT X e t:=h _
def PA (X:Cx) (es:List Expr) (t:TA):Prop:=
 ∀ (pos:Pos) (Ab:List (Addr × Obj)) (s:Shared) (σ:St) (H:Hp) (Q:List V->Hp->Prop),Inv X Ab σ H s->t σ H Q->wpAny (model X.prog X.w) X.A (spliced (backTo pos (starEach es X.env))) (AP X Ab σ Q) X.xe s
def PS (X:Cx) (st:Stmt) (t:TS):Prop:=
 ∀ (Ab:List (Addr × Obj)) (s:Shared) (σ:St) (H:Hp) (D:Ends),Inv X Ab σ H s->t D σ H->wpAny (model X.prog X.w) X.A (exec st X.env) (SP X Ab D) X.xe s
def PSs (X:Cx) (st:List Stmt) (t:TS):Prop:=
 ∀ (Ab:List (Addr × Obj)) (s:Shared) (σ:St) (H:Hp) (D:Ends),Inv X Ab σ H s->t D σ H->wpAny (model X.prog X.w) X.A (execs st X.env) (SP X Ab D) X.xe s
theorem thn {α:Type} {t:Sem α} {Q Q':α->Shared->Prop} {M:Model} {A:Around} {E:Value->Shared->Prop} {s:Shared} (h:wpAny M A t Q E s) (hQ:∀ a s,Q a s->Q' a s):wpAny M A t Q' E s:=wpAny_mono h hQ fun _ _ x=>x
end L2
namespace L2
open PySem PySem.Spec PyProof.Rows
section
variable {X:Cx}
theorem bin {a b:Expr} {ta tb:TE} (ha:PE X a ta) (hb:PE X b tb) {Ab:List (Addr × Obj)} {s:Shared} {σ:St} {H:Hp} {R:V->V->Hp->Prop} (I:Inv X Ab σ H s) (h:ta σ H fun x H1=>tb σ H1 fun y H2=>R x y H2)
  {α:Type} {Q:α->Shared->Prop} {f:Value->Value->Sem α}
  (hf:∀ v u s2 x y H2,Inv X Ab σ H2 s2->RelV x v->RelV y u->R x y H2->wpAny (model X.prog X.w) X.A (f v u) Q X.xe s2) :
  wpAny (model X.prog X.w) X.A (eval a X.env) (fun v s₁=>wpAny (model X.prog X.w) X.A (eval b X.env) (fun u s₂=>wpAny (model X.prog X.w) X.A (f v u) Q X.xe s₂) X.xe s₁) X.xe s:=by
 refine thn (ha Ab s σ H _ I h) fun v s1 ⟨x,H1,I1,r1,q1⟩=>?_;refine thn (hb Ab s1 σ H1 _ I1 q1) fun u s2 ⟨y,H2,I2,r2,q2⟩=>?_;exact hf v u s2 x y H2 I2 r1 r2 q2
def tVar (i:Nat):TE:=fun σ H Q=>∃ v,σ[i]?=some (some v)/\Q v H
def tC (v:V):TE:=fun _ H Q=>Q v H
theorem qZ0 {i:Nat} {x:Str} {pos:Pos} (hN:X.N[i]?=some x) (hv:Vis X.env.scope x) (hd:(x == ("__debug__" : Str))=false:=by decide) (hcd:(x == ("__classdict__" : Str))=false:=by decide):PE X (.Name x pos) (tVar i):=by
 intro Ab s σ H Q I h;obtain ⟨v,e,h⟩:=h;obtain ⟨m,hn,hl⟩:=I.loc;obtain ⟨u,r,l⟩:=hl i x v hN e hv;have fin:EP X Ab σ Q u s:=⟨v,H,I,r,h⟩;rcases l with ⟨hk,hm⟩ | ⟨hk,c,hc,hcell⟩
 ·exact wpAny_Name (wpAny_loadName_local I.ok.kind hk hn hm fin) hd
 ·rcases hk with hk | hk
  ·exact wpAny_Name (wpAny_loadName_cell I.ok.kind hk hc hcell fin) hd
  ·exact wpAny_Name (wpAny_loadName_free I.ok.kind hk hc hcell fin hcd) hd
theorem qA8 {i j pos}:PE X (.Constant (.int i) j pos) (tC (.int i)):=fun _ _ _ H _ I h=>wpAny_Constant_int ⟨.int i,H,I.tok _,⟨_,rfl⟩,h⟩
theorem qC9 {b j pos}:PE X (.Constant (.bool b) j pos) (tC (.bl b)):=fun _ _ _ H _ I h=>Constant_bool ⟨.bl b,H,I,rfl,h⟩
theorem qFY {j pos}:PE X (.Constant .none j pos) (tC .non):=fun _ _ _ H _ I h=>Constant_none ⟨.non,H,I,rfl,h⟩
theorem qBJ {x j pos}:PE X (.Constant (.str x) j pos) (tC (.str x)):=fun _ _ _ H _ I h=>Calls.Constant_str ⟨.str x,H,I.tok _,⟨_,rfl⟩,h⟩
def Gl (X:Cx) (x:Str):Prop:=X.env.kindOf x=some .globalImplicit
theorem qXF {E:Value->Shared->Prop} {Ab:List (Addr × Obj)} {s:Shared} {σ:St} {H:Hp} {x:Str} {u:Value} {pos:Pos} {Q:Value->Shared->Prop} (I:Inv X Ab σ H s) (hg:Gl X x) (hm:X.mg x=some u) (h:Q u s)
  (hd:(x == ("__debug__" : Str))=false:=by decide):wpAny (model X.prog X.w) X.A (eval (.Name x pos) X.env) Q E s:=
 Calls.Name_function_global I.ok.kind hg (Calls.loadGlobal_global (by rw [I.ok.glob];exact I.mod.glob.keeps I.bk) hm h) hd
theorem qG4 {E:Value->Shared->Prop} {Ab:List (Addr × Obj)} {s:Shared} {σ:St} {H:Hp} {x:Str} {u:Value} {pos:Pos} {Q:Value->Shared->Prop} (I:Inv X Ab σ H s) (hg:Gl X x) (hm:X.mg x=none) (hv:bootBuiltins x=some u) (h:Q u s)
  (hn:x ≠ "__name__":=by decide) (hd:(x == ("__debug__" : Str))=false:=by decide):wpAny (model X.prog X.w) X.A (eval (.Name x pos) X.env) Q E s:=by
 obtain ⟨mb,h1,h2⟩:=I.mod.blt;exact Calls.Name_function_global I.ok.kind hg (Calls.loadGlobal_builtin (by rw [I.ok.glob];exact I.mod.glob.keeps I.bk) hm (by rw [I.ok.blt];exact h1.keeps I.bk) ((h2 x hn).trans hv) h) hd
theorem qD1 {x:Str} {v:V} {u:Value} {pos:Pos} (hg:Gl X x) (hm:X.mg x=none) (hv:bootBuiltins x=some u) (r:RelV v u) (hn:x ≠ "__name__":=by decide) (hd:(x == ("__debug__" : Str))=false:=by decide):PE X (.Name x pos) (tC v):=
 fun _ _ _ H _ I h=>qG4 I hg hm hv ⟨v,H,I,r,h⟩ hn hd
variable {a b:Expr} {ta tb:TE} {pos:Pos}
def PC (X:Cx) (op:CmpOp) (a b:Expr) (t:TE):Prop:=
 ∀ (Ab:List (Addr × Obj)) (s:Shared) (σ:St) (H:Hp) (Q:VK),Inv X Ab σ H s->t σ H Q->
  wpAny (model X.prog X.w) X.A (eval a X.env) (fun v s₁=>wpAny (model X.prog X.w) X.A (eval b X.env) (fun u s₂=>wpAny (model X.prog X.w) X.A (compareOp op v u) (EP X Ab σ Q) X.xe s₂) X.xe s₁) X.xe s
theorem qUQ (b:Expr) {op:CmpOp} (h:op ≠ .In) (h2:op ≠ .NotIn):behindInMarks op b=false:=by
 have e1:(op == CmpOp.In)=false:=by cases op <;> first | rfl | exact absurd rfl h
 have e2:(op == CmpOp.NotIn)=false:=by cases op <;> first | rfl | exact absurd rfl h2
 cases b <;> simp [behindInMarks,e1,e2]
def tIsN (ta:TE):TE:=fun σ H Q=>ta σ H fun x H1=>Q (.bl (decide (x=.non))) H1
theorem RelV.none_iff {x:V} {v:Value} (r:RelV x v):(v == L7)=decide (x=.non):=by
 cases x with
 | non=>cases r;rfl
 | bl _=>cases r;rfl
 | int _=>obtain ⟨t,rfl⟩:=r;rfl
 | str _=>obtain ⟨t,rfl⟩:=r;rfl
 | byt _=>obtain ⟨t,rfl⟩:=r;rfl
 | flt _=>obtain ⟨t,rfl⟩:=r;rfl
 | ref _=>cases r;rfl
 | ty _=>cases r;rfl
theorem qW1 {j pos'} (ha:PE X a ta):PC X .Is a (.Constant .none j pos') (tIsN ta):=by
 intro Ab s σ H Q I h;refine thn (ha Ab s σ H _ I h) fun v s1 ⟨x,H1,I1,r1,q1⟩=>?_;exact Constant_none (is_none_gen ⟨.bl _,H1,I1,by rw [r1.none_iff];rfl,q1⟩)
def tB (t:TE):TT:=fun σ H Q=>t σ H fun x H1=>∃ c,x=.bl c/\Q c H1
theorem qF9 {op:CmpOp} {t:TE} (h:PC X op a b t) (h1:behindInMarks op b=false:=by first | exact qUQ _ (by decide) (by decide) | rfl):PT X (.Compare a [op] [b] pos) (tB t):=by
 intro Ab s σ H Q I hw;refine wpAny_isTrue_Compare1 (thn (h Ab s σ H _ I hw) fun v s1 h1=>thn h1 fun u s2 h2=>thn h2 fun c s3 ⟨x,H1,I1,r1,q1⟩=>?_) h1;obtain ⟨d,rfl,q⟩:=q1;cases r1;exact wpAny_truthy_bool ⟨H1,I1,q⟩
theorem qBX {e:Expr} {t:TE} (h:PE X e t) (he:∀ whole,isTrue e X.env whole=(do let v <- whole;standAt e.pos;holding [v] (truthy v)):=by intro _;rfl):PT X e (tB t):=by
 intro Ab s σ H Q I hw;refine isTrue_plain (thn (h Ab s σ H _ I hw) fun v s1 ⟨x,H1,I1,r1,q1⟩=>?_) (he _);obtain ⟨d,rfl,q⟩:=q1;cases r1;exact wpAny_truthy_bool ⟨H1,I1,q⟩
variable {tA tB':TT} {rest:List Expr}
def tAnd (t u:TT):TT:=fun σ H Q=>t σ H fun c H1=>if c=true then u σ H1 Q else Q false H1
def tOr (t u:TT):TT:=fun σ H Q=>t σ H fun c H1=>if c=true then Q true H1 else u σ H1 Q
def tNot (t:TT):TT:=fun σ H Q=>t σ H fun c H1=>Q (!c) H1
theorem qRB (ha:PT X a tA):PW X (.BoolOp .And [a] pos) tA:=by
 intro wh Ab s σ H Q I h;refine isTrue_and (thn (ha Ab s σ H Q I h) fun c s1 e=>?_);cases c with
 | true=>exact isTrue_and_nil e
 | false=>exact e
theorem qF8 (ha:PT X a tA):PW X (.BoolOp .Or [a] pos) tA:=by
 intro wh Ab s σ H Q I h;refine isTrue_or (thn (ha Ab s σ H Q I h) fun c s1 e=>?_);cases c with
 | false=>exact isTrue_or_nil e
 | true=>exact e
theorem qVV (ha:PT X a tA) (hb:PW X (.BoolOp .And (b::rest) pos) tB'):PW X (.BoolOp .And (a::b::rest) pos) (tAnd tA tB'):=by
 intro wh Ab s σ H Q I h;refine isTrue_and (thn (ha Ab s σ H _ I h) fun c s1 ⟨H1,I1,q1⟩=>?_);cases c with
 | true=>exact hb wh Ab s1 σ H1 Q I1 q1
 | false=>exact ⟨H1,I1,q1⟩
theorem qGI (ha:PT X a tA) (hb:PW X (.BoolOp .Or (b::rest) pos) tB'):PW X (.BoolOp .Or (a::b::rest) pos) (tOr tA tB'):=by
 intro wh Ab s σ H Q I h;refine isTrue_or (thn (ha Ab s σ H _ I h) fun c s1 ⟨H1,I1,q1⟩=>?_);cases c with
 | true=>exact ⟨H1,I1,q1⟩
 | false=>exact hb wh Ab s1 σ H1 Q I1 q1
theorem qCA (ha:PT X a tA):PT X (.UnaryOp .Not a pos) (tNot tA):=by
 intro Ab s σ H Q I h;exact isTrue_not (ha Ab s σ H (fun c H1=>Q (!c) H1) I h)
def qa7 (ta tb:TE):TE:=fun σ H Q=>ta σ H fun x H1=>∃ c,x=.bl c/\if c=true then tb σ H1 Q else Q (.bl false) H1
def qZZ (ta:TE):TE:=fun σ H Q=>ta σ H fun x H1=>∃ c,x=.bl c/\Q (.bl (!c)) H1
theorem qLY {op} {t:TE} (h:PE X a t):PE X (.BoolOp op [a] pos) t:=fun Ab s σ H Q I hw=>BoolOp_one (h Ab s σ H Q I hw)
theorem qLZ (ha:PE X a ta) (hb:PE X (.BoolOp .And (b::rest) pos) tb):PE X (.BoolOp .And (a::b::rest) pos) (qa7 ta tb):=by
 intro Ab s σ H Q I h;refine BoolOp_and (thn (ha Ab s σ H _ I h) fun v s1 ⟨x,H1,I1,r1,q1⟩=>?_);obtain ⟨c,rfl,q1⟩:=q1;cases r1;refine wpAny_truthy_bool ?_;cases c with
 | true=>exact hb Ab s1 σ H1 Q I1 q1
 | false=>exact ⟨.bl false,H1,I1,rfl,q1⟩
theorem qW0 (ha:PE X a ta):PE X (.UnaryOp .Not a pos) (qZZ ta):=by
 intro Ab s σ H Q I h;refine UnaryOp_ (thn (ha Ab s σ H _ I h) fun v s1 ⟨x,H1,I1,r1,q1⟩=>?_);obtain ⟨c,rfl,q1⟩:=q1;cases r1;exact not_of (wpAny_truthy_bool ⟨.bl (!c),H1,I1,rfl,q1⟩)
def tIf (t:TT) (ta tb:TE):TE:=fun σ H Q=>t σ H fun c H1=>if c=true then ta σ H1 Q else tb σ H1 Q
theorem qHH {c:Expr} (hc:PT X c tA) (ha:PE X a ta) (hb:PE X b tb):PE X (.IfExp c a b pos) (tIf tA ta tb):=by
 intro Ab s σ H Q I h;refine wpAny_IfExp (thn (hc Ab s σ H _ I h) fun d s1 ⟨H1,I1,q1⟩=>?_);cases d with
 | true=>exact ha Ab s1 σ H1 Q I1 q1
 | false=>exact hb Ab s1 σ H1 Q I1 q1
end
end L2
namespace L2
open PySem PySem.Spec PyProof.Rows
def SqL (K:PySem.W.Frag) (H:Hp) (a:Addr) (xs:List V):Prop:=
 Rd H a (.lst xs)\/
  ∃ (o:Obj) (its:Array Value) (n:Nat),K.lookup a=some o/\o.cls=.type "list"/\o.dict=none/\o.data=.seq its n/\its.size<=sizeLine/\Vals xs its.toList
def SqT (K:PySem.W.Frag) (H:Hp) (a:Addr) (xs:List V):Prop:=
 Rd H a (.tup xs)\/
  ∃ (o:Obj) (its:Array Value) (n:Nat),K.lookup a=some o/\o.cls=.type "tuple"/\o.data=.seq its n/\its.size<=sizeLine/\Vals xs its.toList
noncomputable def absV:Value->Option V
 | .none=>some .non
 | .bool b=>some (.bl b)
 | .int i _=>some (.int i)
 | .str x _=>some (.str x)
 | .bytes b _=>some (.byt b)
 | .float b _=>some (.flt b)
 | .ref a=>some (.ref a)
 | .type n=>some (.ty n)
 | _=>none
theorem RelV.abs {x:V} {u:Value} (r:RelV x u):absV u=some x:=by
 cases x with
 | non=>cases r;rfl
 | bl _=>cases r;rfl
 | int _=>obtain ⟨t,rfl⟩:=r;rfl
 | str _=>obtain ⟨t,rfl⟩:=r;rfl
 | byt _=>obtain ⟨t,rfl⟩:=r;rfl
 | flt _=>obtain ⟨t,rfl⟩:=r;rfl
 | ref _=>cases r;rfl
 | ty _=>cases r;rfl
theorem RelV.inj {x y:V} {u:Value} (r:RelV x u) (q:RelV y u):x=y:=I0 (r.abs.symm.trans q.abs)
theorem Vals.inj:∀ {xs ys:List V} {us:List Value},Vals xs us->Vals ys us->xs=ys
 | _,_,_,.nil,.nil=>rfl
 | _,_,_,.cons r t,.cons r' t'=>by rw [r.inj r',Vals.inj t t']
section
variable {X:Cx} {Ab:List (Addr × Obj)} {σ:St} {H:Hp} {s:Shared} {a:Addr} {xs ys:List V}
theorem SqL.of {K:PySem.W.Frag} (h:H a=some (.lst xs)):SqL K H a xs:=.inl (.inl h)
theorem SqT.of {K:PySem.W.Frag} (h:H a=some (.tup xs)):SqT K H a xs:=.inl (.inl h)
theorem Inv.list (I:Inv X Ab σ H s) (h:SqL X.K H a xs):∃ its:List Value,Vals xs its/\PlainL s.heap a its.toArray/\xs.length<=sizeLine:=by
 rcases h with h | ⟨o,its,n,hk,hc,hd,hs,hz,r⟩
 ·obtain ⟨z,its,n,r,e⟩:=h.ok I.hok;exact ⟨its,r,⟨_,n,e,rfl,rfl,rfl⟩,z⟩
 ·refine ⟨its.toList,r,⟨o,n,I.kIn a o hk,hc,hd,by simpa using hs⟩,?_⟩
  have e:=r.length;simp only [B2] at e
  lia
theorem Inv.tuple (I:Inv X Ab σ H s) (h:SqT X.K H a xs):∃ its:List Value,Vals xs its/\IsTup s.heap a its.toArray/\xs.length<=sizeLine:=by
 rcases h with h | ⟨o,its,n,hk,hc,hs,hz,r⟩
 ·obtain ⟨z,its,r,p⟩:=h.ok I.hok;exact ⟨its,r,p.is,z⟩
 ·refine ⟨its.toList,r,⟨o,I.kIn a o hk,hc,n,by simpa using hs⟩,?_⟩
  have e:=r.length;simp only [B2] at e
  lia
theorem Inv.list_inj (I:Inv X Ab σ H s) (h:SqL X.K H a xs) (h':SqL X.K H a ys):xs=ys:=by
 obtain ⟨its,r,⟨o,n,e,_,_,d⟩,_⟩:=I.list h;obtain ⟨its',r',⟨o',n',e',_,_,d'⟩,_⟩:=I.list h';rw [e] at e';cases e';rw [d] at d'
 injection d' with d1 _
 have:its=its':=by simpa using congrArg B51 d1
 subst this;exact r.inj r'
theorem Inv.tuple_inj (I:Inv X Ab σ H s) (h:SqT X.K H a xs) (h':SqT X.K H a ys):xs=ys:=by
 obtain ⟨its,r,⟨o,e,_,n,d⟩,_⟩:=I.tuple h;obtain ⟨its',r',⟨o',e',_,n',d'⟩,_⟩:=I.tuple h';rw [e] at e';cases e';rw [d] at d'
 injection d' with d1 _
 have:its=its':=by simpa using congrArg B51 d1
 subst this;exact r.inj r'
end
noncomputable abbrev Cx.wish (X:Cx) (E:Value->Shared->Prop):Cx:={ X with xe:=E }
noncomputable abbrev Cx.nox (X:Cx):Cx:=X.wish fun _ _=>False
theorem Cx.Ok.wish {X:Cx} (ok:X.Ok) (E:Value->Shared->Prop):(X.wish E).Ok:=
 ⟨ok.mod,ok.kind,ok.glob,ok.blt,ok.above,ok.inj,ok.has,ok.cab,ok.hd,ok.frames,ok.stk,ok.exf,ok.bs,ok.bsz,ok.noex,ok.exfs,ok.funs,ok.frf⟩
theorem Cx.Ok.unwish {X:Cx} {E:Value->Shared->Prop} (ok:(X.wish E).Ok):X.Ok:=
 ⟨ok.mod,ok.kind,ok.glob,ok.blt,ok.above,ok.inj,ok.has,ok.cab,ok.hd,ok.frames,ok.stk,ok.exf,ok.bs,ok.bsz,ok.noex,ok.exfs,ok.funs,ok.frf⟩
section
variable {X:Cx} {Ab:List (Addr × Obj)} {σ:St} {H:Hp} {s:Shared} {E:Value->Shared->Prop}
theorem Inv.wish (I:Inv X Ab σ H s) (E:Value->Shared->Prop):Inv (X.wish E) Ab σ H s:=⟨I.ok.wish E,I.os,I.bare,I.base,I.loc,I.cell,I.free,I.freeC,I.pin,I.hok,I.len⟩
theorem Inv.unwish (I:Inv (X.wish E) Ab σ H s):Inv X Ab σ H s:=⟨I.ok.unwish,I.os,I.bare,I.base,I.loc,I.cell,I.free,I.freeC,I.pin,I.hok,I.len⟩
theorem SP.unwish {D:Ends} {f:Flow} {s':Shared} (h:SP (X.wish E) Ab D f s'):SP X Ab D f s':=by
 cases f with
 | next=>obtain ⟨σ',H',I,q⟩:=h;exact ⟨σ',H',I.unwish,q⟩
 | brk=>obtain ⟨σ',H',I,q⟩:=h;exact ⟨σ',H',I.unwish,q⟩
 | cont=>obtain ⟨σ',H',I,q⟩:=h;exact ⟨σ',H',I.unwish,q⟩
 | ret u=>obtain ⟨v,σ',H',I,r,q⟩:=h;exact ⟨v,σ',H',I.unwish,r,q⟩
theorem PSs.nox {st:List Stmt} {t:TS} (h:PSs X.nox st t):PSs X st t:=fun Ab s σ H D I hw=>
 wpAny_mono (h Ab s σ H D (I.wish _) hw) (fun _ _ q=>q.unwish) fun _ _ z=>a9 z
end
section
variable {X:Cx} {st:Stmt} {rest:List Stmt} {t u:TS} {e:Expr} {te:TE} {pos:Pos}
def qa0:TS:=fun D σ H=>D.nx σ H
def tSeq (t u:TS):TS:=fun D σ H=>t { D with nx:=u D } σ H
theorem qAO:PSs X [] qa0:=fun _ _ σ H _ I h=>wpAny_execs_nil ⟨σ,H,I,h⟩
theorem qA4 (h1:PS X st t) (h2:PSs X rest u):PSs X (st::rest) (tSeq t u):=by
 intro Ab s σ H D I h;refine wpAny_execs_cons (thn (h1 Ab s σ H { D with nx:=u D } I h) fun f s1 q=>?_);cases f with
 | next=>
  obtain ⟨σ',H',I',q⟩:=q;exact h2 Ab s1 σ' H' D I' q
 | ret v=>exact q
 | brk=>exact q
 | cont=>exact q
theorem qA6 (h1:PS X st t):PSs X [st] t:=by
 intro Ab s σ H D I h;refine wpAny_execs_cons (thn (h1 Ab s σ H D I h) fun f s1 q=>?_);cases f with
 | next=>exact wpAny_execs_nil q
 | ret v=>exact q
 | brk=>exact q
 | cont=>exact q
theorem Inv.quiet {Ab:List (Addr × Obj)} {σ:St} {H:Hp} {s:Shared} (I:Inv X Ab σ H s):interactive X.env=false:=by simp [interactive,I.ok.kind]
def qa3 (te:TE):TS:=fun D σ H=>te σ H fun _ H1=>D.nx σ H1
theorem qGJ (he:PE X e te) (hs:swapsWith e none pos.line X.env=pure false:=by rfl):PS X (.Expr e pos) (qa3 te):=by
 intro Ab s σ H D I h;exact wpAny_Expr_any (thn (he Ab s σ H _ I h) fun v s1 ⟨x,H1,I1,r1,q1⟩=>⟨σ,H1,I1,q1⟩) I.quiet hs
def tRet (te:TE):TS:=fun D σ H=>te σ H D.rt
theorem qAI (he:PE X e te):PS X (.Return (some e) pos) (tRet te):=by
 intro Ab s σ H D I h;exact wpAny_Return_some (thn (he Ab s σ H _ I h) fun v s1 ⟨x,H1,I1,r1,q1⟩=>⟨x,σ,H1,I1,r1,q1⟩)
def tIfS (c:TT) (t u:TS):TS:=fun D σ H=>c σ H fun b H1=>if b=true then t D σ H1 else u D σ H1
theorem qBI {c:Expr} {a b:List Stmt} {tc:TT} (hc:PT X c tc) (ha:PSs X a t) (hb:PSs X b u):PS X (.If c a b pos) (tIfS tc t u):=by
 intro Ab s σ H D I h;refine wpAny_If (thn (hc Ab s σ H _ I h) fun d s1 ⟨H1,I1,q1⟩=>?_);cases d with
 | true=>exact ha Ab s1 σ H1 D I1 q1
 | false=>exact hb Ab s1 σ H1 D I1 q1
end
abbrev TG:=V->St->Hp->(St->Hp->Prop)->Prop
abbrev TGs:=List V->St->Hp->(St->Hp->Prop)->Prop
def PG (X:Cx) (target:Expr) (t:TG):Prop:=
 ∀ (Ab:List (Addr × Obj)) (s:Shared) (σ:St) (H:Hp) (v:V) (u:Value) (Q:St->Hp->Prop),Inv X Ab σ H s->RelV v u->t v σ H Q->
  wpAny (model X.prog X.w) X.A (assign target X.env u) (fun _ s'=>∃ σ' H',Inv X Ab σ' H' s'/\Q σ' H') X.xe s
def PGs (X:Cx) (ts:List Expr) (t:TGs):Prop:=
 ∀ (Ab:List (Addr × Obj)) (s:Shared) (σ:St) (H:Hp) (vs:List V) (us:List Value) (Q:St->Hp->Prop),Inv X Ab σ H s->Vals vs us->t vs σ H Q->
  wpAny (model X.prog X.w) X.A (assignInOrder ((assignEach ts X.env).map (·.2)) us) (fun _ s'=>∃ σ' H',Inv X Ab σ' H' s'/\Q σ' H') X.xe s
abbrev TSet:=V->V->V->Hp->(Hp->Prop)->Prop
def PSet (X:Cx) (t:TSet):Prop:=
 ∀ (Ab:List (Addr × Obj)) (s:Shared) (σ:St) (H:Hp) (o i v:V) (ov iv u:Value) (Q:Hp->Prop),Inv X Ab σ H s->RelV o ov->RelV i iv->RelV v u->t o i v H Q->
  wpAny (model X.prog X.w) X.A (setItem ov iv u) (fun _ s'=>∃ H',Inv X Ab σ H' s'/\Q H') X.xe s
section
variable {X:Cx} {pos:Pos}
def qSI (i:Nat):TG:=fun v σ H Q=>Q (σ.set i (some v)) H
theorem qAW {i:Nat} {x:Str} (hN:X.N.Nodup) (hi:X.N[i]?=some x) (hx:Loc X.env.scope x) (hf:X.fn x=true\/X.env.scope.names.lookup x=some .local:=by first | exact .inl rfl | exact .inr rfl | assumption):PG X (.Name x pos) (qSI i):=by
 intro Ab s σ H v u Q I r h;exact wpAny_assign_Name (qO1 I hN hi hx r (fun s' I'=>⟨_,H,I',h⟩) hf)
def gNil:TGs:=fun vs σ H Q=>vs=[]/\Q σ H
def qb1 (t:TG) (u:TGs):TGs:=fun vs σ H Q=>∃ v r,vs=v::r/\t v σ H fun σ' H'=>u r σ' H' Q
theorem qE6:PGs X [] gNil:=by
 intro Ab s σ H vs us Q I r h;obtain ⟨e,h⟩:=h;subst e;cases r;exact assignInOrder_nil ⟨σ,H,I,h⟩
theorem qB7 {e:Expr} {es:List Expr} {t:TG} {u:TGs} (h1:PG X e t) (h2:PGs X es u)
  (hs:(assignEach (e::es) X.env).map (·.2)=assign e X.env::(assignEach es X.env).map (·.2):=by rfl):PGs X (e::es) (qb1 t u):=by
 intro Ab s σ H vs us Q I r h;obtain ⟨v,vr,e1,h⟩:=h;subst e1;cases r with
 | cons r rr=>
  rw [hs];refine assignInOrder_cons (thn (h1 Ab s σ H _ _ _ I r h) fun _ s1 ⟨σ1,H1,I1,q1⟩=>?_);exact h2 Ab s1 σ1 H1 _ _ Q I1 rr q1
def gTup (K:PySem.W.Frag) (n:Nat) (t:TGs):TG:=fun v σ H Q=>∃ a xs,v=.ref a/\SqT K H a xs/\xs.length=n/\t xs σ H Q
theorem qLX {es:List Expr} {k:Nat} {t:TGs} {n:Nat} (hc:X.calm=true) (h:PGs X es t)
  (hn:(assignEach es X.env).length=n:=by rfl) (hst:(assignEach es X.env).findIdx? (·.1)=none:=by rfl):PG X (.Tuple es k pos) (gTup X.K n t):=by
 intro Ab s σ H v u Q I r hw;obtain ⟨a,xs,e1,hq,hl,hw⟩:=hw;subst e1;cases r;obtain ⟨its,rv,ht,hz⟩:=I.tuple hq;refine assign_Tuple_tuple (I.ok.hd hc) ht (by simp [hn,<- hl,rv.length]) hst fun h' hx=>?_
 have I1:Inv X Ab σ H { s with heap:=h' }:=I.kept (t':=s.toks) fun b o e=>hx b o (C2 (B3 e)) e;exact h Ab _ σ H xs _ Q I1 (by simpa using rv) hw
def gSub (to ti:TE) (t:TSet):TG:=fun v σ H Q=>to σ H fun o H1=>ti σ H1 fun i H2=>t o i v H2 fun H3=>Q σ H3
theorem qRI {o i:Expr} {to ti:TE} {t:TSet} (ho:PE X o to) (hi:PE X i ti) (hs:PSet X t)
  (ha:∀ v,assign (.Subscript o i pos) X.env v=(do
   let ov <- holding [v] (eval o X.env)
   let iv <- holding [v,ov] (eval i X.env)
   standAt pos
   holding [v,ov,iv] (setItem ov iv v)
   release [v,ov,iv] []):=by intro _;rfl):PG X (.Subscript o i pos) (gSub to ti t):=by
 intro Ab s σ H v u Q I r h;rw [ha];refine wpAny_bind (wpAny_holding (thn (ho Ab s σ H _ I h) fun ov s1 ⟨x,H1,I1,r1,q1⟩=>?_));refine wpAny_bind (wpAny_holding (thn (hi Ab s1 σ H1 _ I1 q1) fun iv s2 ⟨y,H2,I2,r2,q2⟩=>?_));refine wpAny_bind (wpAny_standAt (wpAny_bind (wpAny_holding (thn (hs Ab s2 σ H2 x y v ov iv u _ I2 r1 r2 r q2) fun _ s3 ⟨H3,I3,q3⟩=>?_))));exact wpAny_release ⟨σ,H3,I3,q3⟩
def tAsg (te:TE) (g:TG):TS:=fun D σ H=>te σ H fun x H1=>g x σ H1 D.nx
theorem qLV {tg e:Expr} {te:TE} {g:TG} (he:PE X e te) (hg:PG X tg g) (hs:swapsWithSole [tg] e pos.line X.env=pure false:=by rfl) (hw:swappedStores [tg] e X.env=pure none:=by rfl)
  (h1:(assignEach [tg] X.env).map (·.2)=[assign tg X.env]:=by rfl):PS X (.Assign [tg] e pos) (tAsg te g):=by
 intro Ab s σ H D I h;refine wpAny_Assign_stores (thn (he Ab s σ H _ I h) fun v s1 ⟨x,H1,I1,r1,q1⟩=>?_) hs hw;rw [h1];exact thn (hg Ab s1 σ H1 x v _ I1 r1 q1) fun _ s2 q=>q
theorem qAJ {i:Nat} {x:Str} {e:Expr} {te:TE} {pos':Pos} (hN:X.N.Nodup) (hi:X.N[i]?=some x) (hx:Loc X.env.scope x) (he:PE X e te) (hs:swapsWith e (some (.Name x pos')) pos.line X.env=pure false:=by rfl) (hf:X.fn x=true\/X.env.scope.names.lookup x=some .local:=by first | exact .inl rfl | exact .inr rfl | assumption) :
  PS X (.Assign [.Name x pos'] e pos) (tAsg te (qSI i)):=by
 intro Ab s σ H D I h;refine wpAny_Assign_Name (thn (he Ab s σ H _ I h) fun v s1 ⟨y,H1,I1,r1,q1⟩=>?_) hs;exact qO1 I1 hN hi hx r1 (fun s2 I2=>⟨_,H1,I2,q1⟩) hf
end
section
variable {X:Cx} {pos:Pos}
def qYE (c:TT) (tb:TS):TS:=fun D σ H=>∃ W:Nat->St->Hp->Prop,(∃ m,W m σ H)/\∀ m σ H,W m σ H->
 c σ H fun b H1=>if b=true then ∃ N:St->Hp->Prop,(∀ σ' H',N σ' H'->∃ m',m'<m/\W m' σ' H')/\tb { D with nx:=N,ct:=N,bk:=D.nx } σ H1 else D.nx σ H1
theorem qKC {c:Expr} {body:List Stmt} {tc:TT} {tb:TS} (hp:PassesOwn (model X.prog X.w) X.A X.env X.xe) (hc:PT X c tc) (hb:PSs X body tb):PS X (.While c body [] pos) (qYE tc tb):=by
 intro Ab s σ H D I h;obtain ⟨W,⟨m0,w0⟩,turn⟩:=h;refine wpAny_While (codeAny_whileLoop (fun n s'=>∃ σ' H',Inv X Ab σ' H' s'/\W n σ' H') ?_ m0 ⟨σ,H,I,w0⟩);rintro n s1 ⟨σ1,H1,I1,w1⟩;refine wpAny_passesOwn hp (thn (hc Ab s1 σ1 H1 _ I1 (turn n σ1 H1 w1)) fun b s2 ⟨H2,I2,q2⟩=>?_);cases b with
 | true=>
  obtain ⟨N,hN,q2⟩:=q2;rw [if_pos rfl];refine wpAny_passesOwn hp (thn (hb Ab s2 σ1 H2 _ I2 q2) fun f s3 q3=>?_);cases f with
  | next=>
   obtain ⟨σ3,H3,I3,n3⟩:=q3;obtain ⟨m',hm,w3⟩:=hN σ3 H3 n3;exact ⟨m',hm,σ3,H3,I3,w3⟩
  | cont=>
   obtain ⟨σ3,H3,I3,n3⟩:=q3;obtain ⟨m',hm,w3⟩:=hN σ3 H3 n3;exact ⟨m',hm,σ3,H3,I3,w3⟩
  | brk=>exact q3
  | ret v=>exact q3
 | false=>
  rw [if_neg C1];exact wpAny_execs_nil ⟨σ1,H2,I2,q2⟩
end
structure It where
 go:Nat->Hp->Prop
 yld:Nat->Hp->V->Hp->Prop
 stop:Nat->Hp->Prop
def FpOk (X:Cx) (Ab:List (Addr × Obj)) (H:Hp) (b:Addr):Prop:=
 H b=none/\b ≠ X.env.locals/\b ∉ X.fs/\(b ∈ X.ex\/X.s₀.heap.objs.size<=b)/\(∀ x c,X.env.cells.lookup x=some c->c ≠ b)/\∀ p ∈ X.pn++Ab,p.1 ≠ b
theorem Inv.fpOk {X:Cx} {Ab:List (Addr × Obj)} {σ:St} {H H':Hp} {s:Shared} {b:Addr} (I:Inv X Ab σ H s) (hb:s.heap.objs.size<=b) (hn:H' b=none):FpOk X Ab H' b:=by
 refine ⟨hn,X3 (E7 I.lt hb),I.nofs hb,.inr (J6 I.sz hb),fun x c e z=>?_,fun p hp z=>?_⟩
 ·obtain ⟨v,q⟩:=I.cell x c e;exact absurd (E7 q.lt (by rw [z];exact hb)) (X5 _)
 ·exact absurd (E7 (B3 (I.pin p hp).1) (by rw [z];exact hb)) (X5 _)
structure Turn (P:Program) (w:World) (K:PySem.W.Frag) (tg:Expr) (J:It) (fp:List Addr) (it:Addr) (tn:Nat->Heap->Prop):Prop where
 mem:it ∈ fp
 obj:∀ i h,tn i h->∀ b ∈ fp,∃ o,h.get? b=some o/\∀ v,o.data ≠ .cell v
 keep:∀ i h h',tn i h->(∀ b ∈ fp,∀ o,h.get? b=some o->h'.get? b=some o)->tn i h'
 item:∀ (X:Cx),X.prog=P->X.w=w->X.K=K->X.calm=true->∀ (i:Nat) (Ab:List (Addr × Obj)) (s:Shared) (σ:St) (H:Hp) (E:Value->Shared->Prop),Inv X Ab σ H s->(∀ b ∈ fp,FpOk X Ab H b)->tn i s.heap->J.go i H->
  wpAny (model P w) X.A (pyNext (.ref it)) (fun r s1=>∃ u,r=some u/\
   wpAny (model P w) X.A (letOwnedTupleGo tg (.ref it) u) (fun _ s2=>∃ x H',Inv X Ab σ H' s2/\RelV x u/\J.yld i H x H'/\tn (i+1) s2.heap/\∀ b ∈ fp,H' b=none) E s1) E s
 done:∀ (X:Cx),X.prog=P->X.w=w->X.K=K->X.calm=true->∀ (i:Nat) (Ab:List (Addr × Obj)) (s:Shared) (σ:St) (H:Hp) (E:Value->Shared->Prop),Inv X Ab σ H s->(∀ b ∈ fp,FpOk X Ab H b)->tn i s.heap->J.stop i H->
  wpAny (model P w) X.A (pyNext (.ref it)) (fun r s1=>r=none/\Inv X Ab σ H s1) E s
 self:∀ (A:Around) (i:Nat) (s:Shared) (Q:Value->Shared->Prop) (E:Value->Shared->Prop),tn i s.heap->Q (.ref it) s->wpAny (model P w) A (pyIter (.ref it)) Q E s
abbrev TI:=St->Hp->(It->Hp->Prop)->Prop
def PIE (X:Cx) (Ab:List (Addr × Obj)) (σ:St) (tg:Expr) (R:It->Hp->Prop) (itv:Value) (s2:Shared):Prop:=
 ∃ (it:Addr) (fp:List Addr) (tn:Nat->Heap->Prop) (J:It) (H':Hp),itv=.ref it/\Inv X Ab σ H' s2/\Turn X.prog X.w X.K tg J fp it tn/\tn 0 s2.heap/\(∀ b ∈ fp,FpOk X Ab H' b)/\R J H'
def PI (X:Cx) (tg iter:Expr) (wi:TI):Prop:=
 ∀ (Ab:List (Addr × Obj)) (s:Shared) (σ:St) (H:Hp) (R:It->Hp->Prop),Inv X Ab σ H s->wi σ H R->
  wpAny (model X.prog X.w) X.A (eval iter X.env) (fun v s1=>wpAny (model X.prog X.w) X.A (pyIter v) (PIE X Ab σ tg R) X.xe s1) X.xe s
theorem qQ7 {M:Model} {A:Around} {E:Value->Shared->Prop} {s:Shared} {tg:Expr} {it:Addr} {u:Value} {o:Obj} {n:String} {vs:Array Value} {Q:Unit->Shared->Prop} (ho:s.heap.get? it=some o) (hc:o.cls=.type n) (hd:o.data=.fields vs)
  (hn:["enumerate","zip","dict_itemiterator","dict_reverseitemiterator","odict_iterator","itertools.zip_longest","itertools.pairwise"].contains n=false) (hQ:Q () s):wpAny M A (letOwnedTupleGo tg (.ref it) u) Q E s:=by
 unfold letOwnedTupleGo;cases tg <;> first
  | exact wpAny_pure hQ
  | (cases u <;> first
    | exact wpAny_pure hQ
    | (refine wpAny_bind (wpAny_load ho ?_)
       rw [hc,hd];show wpAny M A (if (["enumerate","zip","dict_itemiterator","dict_reverseitemiterator","odict_iterator","itertools.zip_longest","itertools.pairwise"].contains n && vs[0]? == some (rawInt _))=true then _ else _) Q E s
       rw [if_neg (by intro h;rw [hn,E2] at h;cases h)]
       exact wpAny_pure hQ))
def Itl (K:PySem.W.Frag) (a:Addr):It:=
 ⟨fun i H=>∃ xs x,SqL K H a xs/\xs[i]?=some x,fun i H x H'=>H'=H/\∀ xs,SqL K H a xs->xs[i]?=some x,fun i H=>∃ xs,SqL K H a xs/\xs.length<=i⟩
def Itt (K:PySem.W.Frag) (a:Addr):It:=
 ⟨fun i H=>∃ xs x,SqT K H a xs/\xs[i]?=some x,fun i H x H'=>H'=H/\∀ xs,SqT K H a xs->xs[i]?=some x,fun i H=>∃ xs,SqT K H a xs/\xs.length<=i⟩
def Itr (lo:Int) (n:Nat):It:=⟨fun i _=>i<n,fun i H x H'=>H'=H/\x=.int (lo+i),fun i _=>n<=i⟩
theorem qLA {P:Program} {w:World} {K:PySem.W.Frag} {tg:Expr} (a it:Addr):Turn P w K tg (Itl K a) [it] it (fun i h=>h.IsListIter it a i) where
 mem:=by simp
 obj:=fun i h st b hb=>by
  have e:b=it:=by simpa using hb
  subst e;obtain ⟨o,e,c,d⟩:=st;exact ⟨o,e,fun v z=>by rw [d] at z;cases z⟩
 keep:=fun i h h' st k=>st.at fun o e=>k it (by simp) o e
 item:=by
  intro X hP hw hK hc i Ab s σ H E I hf st hg;subst hP hw hK;obtain ⟨xs,x,hq,hx⟩:=hg;obtain ⟨its,rv,p,hz⟩:=I.list hq;obtain ⟨u,hu,ru⟩:=rv.get hx;obtain ⟨f0,f1,f2,f3,f4,f5⟩:=hf it (by simp)
  refine wpAny_pyNext_list_item st p.isList (x:=u) (by simpa using hu) fun h' st' sb=>?_
  have I1:Inv X Ab σ H { s with heap:=h' }:=I.turned (t':=s.toks) (fun b o hb e=>(sb.2 b hb).trans e) f0 f1 f3 f4 f5;obtain ⟨o,e,c,d⟩:=id st';exact ⟨u,rfl,qQ7 (s:={ s with heap:=h' }) e c d (by decide) ⟨x,H,I1,ru,⟨rfl,fun ys hy=>by rw [I.list_inj hy hq];exact hx⟩,st',fun b hb=>(hf b hb).1⟩⟩
 done:=by
  intro X hP hw hK hc i Ab s σ H E I hf st hg;subst hP hw hK;obtain ⟨xs,hq,hx⟩:=hg;obtain ⟨its,rv,p,hz⟩:=I.list hq;obtain ⟨f0,f1,f2,f3,f4,f5⟩:=hf it (by simp)
  have hl:=rv.length;exact wpAny_pyNext_list_end (I.ok.hd hc) st p.isList (by simp;lia) fun h' eb=>⟨rfl,I.turned (t':=s.toks) (fun b o hb e=>eb b o hb e) f0 f1 f3 f4 f5⟩
 self:=fun _ _ _ _ _ st h=>wpAny_pyIter_listiter st h
theorem qJ2 {P:Program} {w:World} {K:PySem.W.Frag} {tg:Expr} (a it:Addr):Turn P w K tg (Itt K a) [it] it (fun i h=>h.IsTupleIter it a i) where
 mem:=by simp
 obj:=fun i h st b hb=>by
  have e:b=it:=by simpa using hb
  subst e;obtain ⟨o,e,c,d⟩:=st;exact ⟨o,e,fun v z=>by rw [d] at z;cases z⟩
 keep:=fun i h h' st k=>st.at fun o e=>k it (by simp) o e
 item:=by
  intro X hP hw hK hc i Ab s σ H E I hf st hg;subst hP hw hK;obtain ⟨xs,x,hq,hx⟩:=hg;obtain ⟨its,rv,p,hz⟩:=I.tuple hq;obtain ⟨u,hu,ru⟩:=rv.get hx;obtain ⟨f0,f1,f2,f3,f4,f5⟩:=hf it (by simp)
  refine wpAny_pyNext_tuple_item st (show s.heap.IsTuple a its.toArray from p) (x:=u) (by simpa using hu) fun h' st' sb=>?_
  have I1:Inv X Ab σ H { s with heap:=h' }:=I.turned (t':=s.toks) (fun b o hb e=>(sb.2 b hb).trans e) f0 f1 f3 f4 f5;obtain ⟨o,e,c,d⟩:=id st';exact ⟨u,rfl,qQ7 (s:={ s with heap:=h' }) e c d (by decide) ⟨x,H,I1,ru,⟨rfl,fun ys hy=>by rw [I.tuple_inj hy hq];exact hx⟩,st',fun b hb=>(hf b hb).1⟩⟩
 done:=by
  intro X hP hw hK hc i Ab s σ H E I hf st hg;subst hP hw hK;obtain ⟨xs,hq,hx⟩:=hg;obtain ⟨its,rv,p,hz⟩:=I.tuple hq;obtain ⟨f0,f1,f2,f3,f4,f5⟩:=hf it (by simp)
  have hl:=rv.length;exact wpAny_pyNext_tuple_end (I.ok.hd hc) st (show s.heap.IsTuple a its.toArray from p) (by simp;lia) fun h' eb=>⟨rfl,I.turned (t':=s.toks) (fun b o hb e=>eb b o hb e) f0 f1 f3 f4 f5⟩
 self:=fun _ _ _ _ _ st h=>wpAny_pyIter_tupleiter st h
theorem qPJ {P:Program} {w:World} {K:PySem.W.Frag} {tg:Expr} (it:Addr) (lo:Int) (n:Nat):Turn P w K tg (Itr lo n) [it] it (fun i h=>IsRangeIter h it (lo+(i:Nat) * 1) ((n:Int) - (i:Nat)) 1) where
 mem:=by simp
 obj:=fun i h st b hb=>by
  have e:b=it:=by simpa using hb
  subst e;exact ⟨_,st,fun v z=>by
   have z':A11 _=y8 v:=z;cases z'⟩
 keep:=fun i h h' st k=>k it (by simp) _ st
 item:=by
  intro X hP hw hK hc i Ab s σ H E I hf st hg;subst hP hw hK;obtain ⟨f0,f1,f2,f3,f4,f5⟩:=hf it (by simp)
  have W:=Walks.range (prog:=X.prog) (w:=X.w) (I.ok.hd hc) it lo 1 n;refine W.item i s _ _ hg st fun v h' tk hv st' kk=>?_;obtain ⟨t,rfl⟩:=hv;have I1:Inv X Ab σ H { s with heap:=h',toks:=tk }:=I.turned (fun b o hb e=>kk b o (by simpa using hb) e) f0 f1 f3 f4 f5
  refine ⟨_,rfl,qQ7 (s:={ s with heap:=h',toks:=tk }) (n:="range_iterator") st' rfl rfl (by decide) ⟨.int (lo+i),H,I1,⟨t,?_⟩,⟨rfl,rfl⟩,st',fun b hb=>(hf b hb).1⟩⟩
  rw [Int.mul_one]
 done:=by
  intro X hP hw hK hc i Ab s σ H E I hf st hg;subst hP hw hK;obtain ⟨f0,f1,f2,f3,f4,f5⟩:=hf it (by simp)
  exact wpAny_pyNext_range_end (I.ok.hd hc) st (by have:n<=i:=hg;lia) fun h' eb=>⟨rfl,I.turned (t':=s.toks) (fun b o hb e=>eb b o hb e) f0 f1 f3 f4 f5⟩
 self:=fun _ _ _ _ _ st h=>wpAny_pyIter_rangeiter st h
end L2
namespace L2
open PySem PySem.Spec PyProof.Rows
section
variable {X:Cx} {tg:Expr}
def qaZ (K:PySem.W.Frag) (tl:TE):TI:=fun σ H R=>tl σ H fun x H1=>∃ a,x=.ref a/\(∃ xs,SqL K H1 a xs)/\R (Itl K a) H1
def iTup (K:PySem.W.Frag) (tl:TE):TI:=fun σ H R=>tl σ H fun x H1=>∃ a,x=.ref a/\(∃ xs,SqT K H1 a xs)/\R (Itt K a) H1
theorem qCC {l:Expr} {tl:TE} (hl:PE X l tl):PI X tg l (qaZ X.K tl):=by
 intro Ab s σ H R I h;refine thn (hl Ab s σ H _ I h) fun v s1 ⟨x,H1,I1,r1,q1⟩=>?_;obtain ⟨a,e,⟨xs,hq⟩,q⟩:=q1;subst e;cases r1;obtain ⟨its,rv,p,hz⟩:=I1.list hq;refine wpAny_pyIter_list p.isList ?_;refine ⟨s1.heap.objs.size,[s1.heap.objs.size],_,_,H1,rfl,I1.kept (t':=s1.toks) fun b o e=>A4 _ e,qLA a _,⟨_,A9 _ rfl,rfl,rfl⟩,fun b hb=>?_,q⟩;have e:b=s1.heap.objs.size:=by simpa using hb
 subst e;exact I1.fpOk (A6 _) (I1.hok.fresh (A6 _))
theorem qDQ {l:Expr} {tl:TE} (hl:PE X l tl):PI X tg l (iTup X.K tl):=by
 intro Ab s σ H R I h;refine thn (hl Ab s σ H _ I h) fun v s1 ⟨x,H1,I1,r1,q1⟩=>?_;obtain ⟨a,e,⟨xs,hq⟩,q⟩:=q1;subst e;cases r1;obtain ⟨its,rv,p,hz⟩:=I1.tuple hq;refine wpAny_pyIter_tuple (show s1.heap.IsTuple a its.toArray from p) ?_;refine ⟨s1.heap.objs.size,[s1.heap.objs.size],_,_,H1,rfl,I1.kept (t':=s1.toks) fun b o e=>A4 _ e,qJ2 a _,⟨_,A9 _ rfl,rfl,rfl⟩,fun b hb=>?_,q⟩;have e:b=s1.heap.objs.size:=by simpa using hb
 subst e;exact I1.fpOk (A6 _) (I1.hok.fresh (A6 _))
theorem range_it {Ab:List (Addr × Obj)} {σ:St} {H:Hp} {s:Shared} {R:It->Hp->Prop} {E:Value->Shared->Prop} {lo hi:Int} {t u v:Tok} {tk:Nat} (I:Inv X Ab σ H s) (h1 : -(2 ^ 62)<=lo) (h2:lo<2 ^ 62) (h3 : -(2 ^ 62)<=hi) (h4:hi<2 ^ 62)
  (q:R (Itr lo (hi - lo).toNat) H):wpAny (model X.prog X.w) X.A (pyIter (.ref s.heap.objs.size)) (PIE X Ab σ tg R) E { s with heap:=s.heap.push { cls:=.type "range",data:=.fields #[.int lo t,.int hi u,.int 1 v] },toks:=tk }:=by
 refine wpAny_pyIter_range (B56 ..) (small_one h1 h2 h3 h4) ?_;have I1:Inv X Ab σ H { s with heap:=s.heap.push { cls:=.type "range",data:=.fields #[.int lo t,.int hi u,.int 1 v] },toks:=tk }:=I.kept fun b o e=>A4 _ e;refine ⟨(s.heap.push { cls:=.type "range",data:=.fields #[.int lo t,.int hi u,.int 1 v] }).objs.size,[(s.heap.push { cls:=.type "range",data:=.fields #[.int lo t,.int hi u,.int 1 v] }).objs.size],_,_,H,rfl,
  I1.kept (t':=tk) fun b o e=>A4 _ e,qPJ _ lo (hi - lo).toNat,?_,fun b hb=>?_,q⟩
 ·have e1:lo+((0:Nat):Int) * 1=lo:=by simp
  have e2:(((hi - lo).toNat:Nat):Int) - ((0:Nat):Int)=Q9 lo hi 1:=by rw [rangeSize_one];split <;> lia
  show IsRangeIter _ _ (lo+((0:Nat):Int) * 1) ((((hi - lo).toNat:Nat):Int) - ((0:Nat):Int)) 1;rw [e1,e2];exact A9 _ rfl
 ·have e:b=(s.heap.push { cls:=.type "range",data:=.fields #[.int lo t,.int hi u,.int 1 v] }).objs.size:=by simpa using hb
  subst e;exact I1.fpOk (A6 _) (I1.hok.fresh (A6 _))
def qaY (ta:TA):TI:=fun σ H R=>ta σ H fun vs H1=>∃ j:Int,vs=[.int j]/\-(2 ^ 62)<=j/\j<2 ^ 62/\R (Itr 0 j.toNat) H1
theorem qB0 {a:Expr} {ta:TA} {p pos:Pos} (hg:Gl X "range") (hm:X.mg "range" = none) (ha:PA X [a] ta) (hs:starEach [a] X.env=[(false,eval a X.env)]:=by rfl):PI X tg (.Call (.Name "range" p) [a] [] pos) (qaY ta):=by
 intro Ab s σ H R I h;refine Call_ (qG4 I hg hm boot_range (L4 (thn (ha pos Ab s σ H _ I h) fun us s1 ⟨vs,H1,I1,r1,q1⟩=>?_) hs rfl));obtain ⟨j,e,q1,q2,q⟩:=q1;subst e;cases r1 with
 | cons r rr=>
  cases rr;obtain ⟨t,rfl⟩:=r;exact call_range_1 (range_it I1 (by lia) (by lia) q1 q2 (by simpa using q))
def tFor (wi:TI) (g:TG) (tb:TS):TS:=fun D σ H=>wi σ H fun J H1=>∃ W:Nat->Nat->St->Hp->Prop,(∃ m,W 0 m σ H1)/\∀ i m σ H,W i m σ H->
 (J.stop i H/\D.nx σ H)\/(J.go i H/\∃ N:St->Hp->Prop,(∀ σ' H',N σ' H'->∃ m',m'<m/\W (i+1) m' σ' H')/\∀ x H',J.yld i H x H'->g x σ H' fun σ2 H2=>tb { D with nx:=N,ct:=N,bk:=D.nx } σ2 H2)
noncomputable def qLW (fp:List Addr) (h:Heap):List (Addr × Obj):=fp.filterMap fun b=>(h.get? b).map fun o=>(b,o)
theorem qF7 {fp:List Addr} {h:Heap} {b:Addr} {o:Obj} (hb:b ∈ fp) (e:h.get? b=some o):(b,o) ∈ qLW fp h:=Q5.mpr ⟨b,hb,by rw [e];rfl⟩
theorem qRT {fp:List Addr} {h:Heap} {p:Addr × Obj} (hp:p ∈ qLW fp h):p.1 ∈ fp/\h.get? p.1=some p.2:=by
 obtain ⟨b,hb,e⟩:=Q5.mp hp;cases q:h.get? b with
 | none=>rw [q] at e;cases e
 | some o=>
  rw [q] at e;have e':(b,o)=p:=I0 e;subst e';exact ⟨hb,q⟩
theorem Inv.pinned {Ab:List (Addr × Obj)} {σ:St} {H:Hp} {s:Shared} {fp:List Addr} (I:Inv X Ab σ H s) (hf:∀ b ∈ fp,FpOk X Ab H b) (ho:∀ b ∈ fp,∃ o,s.heap.get? b=some o/\∀ v,o.data ≠ .cell v):Inv X (Ab++qLW fp s.heap) σ H s:=
 I.pins_of fun p hp=>(B1.mp hp).elim (fun z=>I.pin p (J7 _ z)) fun z=>by
  obtain ⟨hb,e⟩:=qRT z;obtain ⟨f0,f1,f2,_⟩:=hf p.1 hb;obtain ⟨o,e',d⟩:=ho p.1 hb;rw [e] at e';cases e';exact ⟨e,f0,f1,f2,d⟩
theorem Inv.unpinned {Ab pl:List (Addr × Obj)} {σ:St} {H:Hp} {s:Shared} (I:Inv X (Ab++pl) σ H s):Inv X Ab σ H s:=I.pins_of fun p hp=>I.pin p (J7 _ (n9 _ hp))
theorem qBY {iter:Expr} {body:List Stmt} {wi:TI} {g:TG} {tb:TS} {pos:Pos} (hp:PassesOwn (model X.prog X.w) X.A X.env X.xe) (hc:X.calm=true) (hi:PI X tg iter wi) (hg:PG X tg g) (hb:PSs X body tb)
  (hs:∀ x,foldedSetIterable iter X.env x=pure x:=by intro _;rfl):PS X (.For tg iter body [] pos) (tFor wi g tb):=by
 intro Ab s σ H D I h;refine wpAny_For (thn (hi Ab s σ H _ I h) fun v s1 h1=>thn h1 fun itv s2 h2=>?_) hs;obtain ⟨it,fp,tn,J,H2,e,I2,T,st2,f2,W,⟨m0,w0⟩,turn⟩:=h2;subst e
 -- what stays true of the iterator's objects through the loop
 have stat:∀ {H':Hp},(∀ b ∈ fp,H' b=none)->∀ b ∈ fp,FpOk X Ab H' b:=fun hn b hb=>⟨hn b hb,(f2 b hb).2⟩;refine codeAny_forLoop_any (fun n s'=>∃ i σ' H',Inv X Ab σ' H' s'/\tn i s'.heap/\(∀ b ∈ fp,H' b=none)/\W i n σ' H') ?_ m0 ⟨0,σ,H2,I2,st2,fun b hb=>(f2 b hb).1,w0⟩;rintro n s3 ⟨i,σ3,H3,I3,st3,fr3,w3⟩;rcases turn i n σ3 H3 w3 with ⟨stop,qn⟩ | ⟨go,N,hN,step⟩
 ·refine wpAny_passesOwn hp (thn (T.done X rfl rfl rfl hc i Ab s3 σ3 H3 X.xe I3 (stat fr3) st3 stop) fun r s4 ⟨hr,I4⟩=>?_);subst hr;exact wpAny_execs_nil ⟨σ3,H3,I4,qn⟩
 ·refine wpAny_passesOwn hp (thn (T.item X rfl rfl rfl hc i Ab s3 σ3 H3 X.xe I3 (stat fr3) st3 go) fun r s4 ⟨u,hr,h4⟩=>?_);subst hr;refine wpAny_passesOwn hp (thn h4 fun _ s5 ⟨x,H5,I5,r5,y5,st5,fr5⟩=>?_);have I5':=I5.pinned (stat fr5) (T.obj _ _ st5);refine wpAny_passesOwn hp (thn (hg _ s5 σ3 H5 x u _ I5' r5 (step x H5 y5)) fun _ s6 ⟨σ6,H6,I6,q6⟩=>?_);refine wpAny_passesOwn hp (thn (hb _ s6 σ6 H6 _ I6 q6) fun f s7 q7=>?_);have again:∀ {σ7:St} {H7:Hp},Inv X (Ab++qLW fp s5.heap) σ7 H7 s7->N σ7 H7->∃ m,m<n/\∃ i σ' H',Inv X Ab σ' H' s7/\tn i s7.heap/\(∀ b ∈ fp,H' b=none)/\W i m σ' H':=fun {σ7 H7} I7 n7=>by
   obtain ⟨m',hm,w7⟩:=hN σ7 H7 n7;refine ⟨m',hm,i+1,σ7,H7,I7.unpinned,T.keep _ _ _ st5 fun b hb o e=>(I7.pin (b,o) (J7 _ (J7 _ (qF7 hb e)))).1,fun b hb=>?_,w7⟩;obtain ⟨o,e,d⟩:=T.obj _ _ st5 b hb;exact (I7.pin (b,o) (J7 _ (J7 _ (qF7 hb e)))).2.1
  cases f with
  | next=>obtain ⟨σ7,H7,I7,n7⟩:=q7;exact again I7 n7
  | cont=>obtain ⟨σ7,H7,I7,n7⟩:=q7;exact again I7 n7
  | brk=>obtain ⟨σ7,H7,I7,q7⟩:=q7;exact ⟨σ7,H7,I7.unpinned,q7⟩
  | ret v=>obtain ⟨x7,σ7,H7,I7,r7,q7⟩:=q7;exact ⟨x7,σ7,H7,I7.unpinned,r7,q7⟩
end
abbrev ForG (I:It) (g:TG) (tb:TS) (D:Ends) (σ:St) (H:Hp):Prop:=∃ W:Nat->Nat->St->Hp->Prop,(∃ m,W 0 m σ H)/\∀ i m σ H,W i m σ H->(I.stop i H/\D.nx σ H)\/(I.go i H/\∃ N:St->Hp->Prop,(∀ σ' H',N σ' H'->∃ m',m'<m/\W (i+1) m' σ' H')/\∀ x H',I.yld i H x H'->g x σ H' fun σ2 H2=>tb { D with nx:=N,ct:=N,bk:=D.nx } σ2 H2)
theorem qHJ {K:PySem.W.Frag} {a:Addr} {xs:List V} {g:TG} {tb:TS} {D:Ends} {σ:St} {H:Hp} (Pv:Nat->St->Hp->Prop) (h0:Pv 0 σ H) (hl:∀ i σ H,i<=xs.length->Pv i σ H->SqL K H a xs)
  (hs:∀ i x σ H,xs[i]?=some x->Pv i σ H->g x σ H fun σ2 H2=>tb { D with nx:=Pv (i+1),ct:=Pv (i+1),bk:=D.nx } σ2 H2) (hd:∀ σ H,Pv xs.length σ H->D.nx σ H) :
  ForG (Itl K a) g tb D σ H:=by
 refine ⟨fun i m σ H=>m=xs.length - i/\i<=xs.length/\Pv i σ H,⟨xs.length,by simp,D8 _,h0⟩,?_⟩
 rintro i m σ H ⟨rfl,hi,p⟩;have q:=hl i σ H hi p;by_cases hlt:i<xs.length
 ·refine .inr ⟨⟨xs,xs[i],q,by simp [hlt]⟩,Pv (i+1),fun σ' H' p'=>⟨xs.length - (i+1),by lia,rfl,hlt,p'⟩,fun x H' y=>?_⟩
  obtain ⟨e,y⟩:=y;subst e;exact hs i x σ _ (y xs q) p
 ·have e:i=xs.length:=by lia
  subst e;exact .inl ⟨⟨xs,q,A6 _⟩,hd σ H p⟩
theorem qIA {K:PySem.W.Frag} {a:Addr} {xs:List V} {g:TG} {tb:TS} {D:Ends} {σ:St} {H:Hp} (Pv:Nat->St->Hp->Prop) (h0:Pv 0 σ H) (hl:∀ i σ H,i<=xs.length->Pv i σ H->SqT K H a xs)
  (hs:∀ i x σ H,xs[i]?=some x->Pv i σ H->g x σ H fun σ2 H2=>tb { D with nx:=Pv (i+1),ct:=Pv (i+1),bk:=D.nx } σ2 H2) (hd:∀ σ H,Pv xs.length σ H->D.nx σ H) :
  ForG (Itt K a) g tb D σ H:=by
 refine ⟨fun i m σ H=>m=xs.length - i/\i<=xs.length/\Pv i σ H,⟨xs.length,by simp,D8 _,h0⟩,?_⟩
 rintro i m σ H ⟨rfl,hi,p⟩;have q:=hl i σ H hi p;by_cases hlt:i<xs.length
 ·refine .inr ⟨⟨xs,xs[i],q,by simp [hlt]⟩,Pv (i+1),fun σ' H' p'=>⟨xs.length - (i+1),by lia,rfl,hlt,p'⟩,fun x H' y=>?_⟩
  obtain ⟨e,y⟩:=y;subst e;exact hs i x σ _ (y xs q) p
 ·have e:i=xs.length:=by lia
  subst e;exact .inl ⟨⟨xs,q,A6 _⟩,hd σ H p⟩
theorem qDX {lo:Int} {n:Nat} {g:TG} {tb:TS} {D:Ends} {σ:St} {H:Hp} (Pv:Nat->St->Hp->Prop) (h0:Pv 0 σ H)
  (hs:∀ i σ H,i<n->Pv i σ H->g (.int (lo+i)) σ H fun σ2 H2=>tb { D with nx:=Pv (i+1),ct:=Pv (i+1),bk:=D.nx } σ2 H2) (hd:∀ σ H,Pv n σ H->D.nx σ H) :
  ForG (Itr lo n) g tb D σ H:=by
 refine ⟨fun i m σ H=>m=n - i/\i<=n/\Pv i σ H,⟨n,by simp,D8 _,h0⟩,?_⟩
 rintro i m σ H ⟨rfl,hi,p⟩;by_cases hlt:i<n
 ·refine .inr ⟨hlt,Pv (i+1),fun σ' H' p'=>⟨n - (i+1),by lia,rfl,hlt,p'⟩,fun x H' y=>?_⟩
  obtain ⟨e,y⟩:=y;subst e y;exact hs i σ _ hlt p
 ·have e:i=n:=by lia
  subst e;exact .inl ⟨A6 _,hd σ H p⟩
end L2
namespace L2
open PySem PySem.Spec PyProof.Rows
abbrev R2:=V->V->Hp->VK->Prop
def OpR (X:Cx) (f:Value->Value->Sem Value) (r:R2):Prop:=
 ∀ (Ab:List (Addr × Obj)) (s:Shared) (σ:St) (H:Hp) (x y:V) (v u:Value) (Q:VK),Inv X Ab σ H s->RelV x v->RelV y u->r x y H Q->
  wpAny (model X.prog X.w) X.A (f v u) (EP X Ab σ Q) X.xe s
def UnR (X:Cx) (f:Value->Sem Value) (r:V->Hp->VK->Prop):Prop:=
 ∀ (Ab:List (Addr × Obj)) (s:Shared) (σ:St) (H:Hp) (x:V) (v:Value) (Q:VK),Inv X Ab σ H s->RelV x v->r x H Q->
  wpAny (model X.prog X.w) X.A (f v) (EP X Ab σ Q) X.xe s
def qCF (X:Cx) (f:Value) (r:List V->Hp->VK->Prop):Prop:=
 ∀ (Ab:List (Addr × Obj)) (s:Shared) (σ:St) (H:Hp) (xs:List V) (us:List Value) (Q:VK),Inv X Ab σ H s->Vals xs us->r xs H Q->
  wpAny (model X.prog X.w) X.A (call f us) (EP X Ab σ Q) X.xe s
def tOp (r:R2) (ta tb:TE):TE:=fun σ H Q=>ta σ H fun x H1=>tb σ H1 fun y H2=>r x y H2 Q
def tUn (r:V->Hp->VK->Prop) (ta:TE):TE:=fun σ H Q=>ta σ H fun x H1=>r x H1 Q
def rI (C:Int->Int->Prop) (g:Int->Int->V):R2:=fun x y H Q=>∃ i j,x=.int i/\y=.int j/\C i j/\Q (g i j) H
def rI0 (g:Int->Int->V):R2:=fun x y H Q=>∃ i j,x=.int i/\y=.int j/\Q (g i j) H
def rU (g:Int->V):V->Hp->VK->Prop:=fun x H Q=>∃ i,x=.int i/\Q (g i) H
section
variable {X:Cx} {a b c:Expr} {ta tb tc:TE} {pos:Pos}
theorem binT (ha:PE X a ta) (hb:PE X b tb) {Ab:List (Addr × Obj)} {s:Shared} {σ:St} {H:Hp} {R:V->V->Hp->Prop} (I:Inv X Ab σ H s)
  (h:ta σ H fun x H1=>tb σ H1 fun y H2=>R x y H2) {Q:Value->Shared->Prop} {f:Value->Value->Sem Value}
  (hf:∀ v u s2 x y H2,Inv X Ab σ H2 s2->RelV x v->RelV y u->R x y H2->wpAny (model X.prog X.w) X.A (f v u) Q X.xe s2) :
  wpAny (model X.prog X.w) X.A (eval a X.env) (fun v s₁=>wpAny (model X.prog X.w) X.A (eval b X.env) (fun u s₂=>wpAny (model X.prog X.w) X.A (f v u) Q X.xe s₂) X.xe s₁) X.xe s:=by
 refine thn (ha Ab s σ H _ I h) fun v s1 ⟨x,H1,I1,r1,q1⟩=>?_;refine thn (hb Ab s1 σ H1 _ I1 q1) fun u s2 ⟨y,H2,I2,r2,q2⟩=>?_;exact hf v u s2 x y H2 I2 r1 r2 q2
theorem qAM {op:Operator} {r:R2} (ho:OpR X (binaryOp op) r) (ha:PE X a ta) (hb:PE X b tb):PE X (.BinOp a op b pos) (tOp r ta tb):=by
 intro Ab s σ H Q I h;exact wpAny_BinOp (binT ha hb I h fun v u s2 x y H2 I2 rx ry q=>ho Ab s2 σ H2 x y v u Q I2 rx ry q)
theorem qKE {op:UnaryOp} {r:V->Hp->VK->Prop} (ho:UnR X (unaryOp op) r) (ha:PE X a ta):PE X (.UnaryOp op a pos) (tUn r ta):=by
 intro Ab s σ H Q I h;exact UnaryOp_ (thn (ha Ab s σ H _ I h) fun v s1 ⟨x,H1,I1,r1,q1⟩=>ho Ab s1 σ H1 x v Q I1 r1 q1)
theorem opI {f:Value->Value->Sem Value} {C:Int->Int->Prop} {g:Int->Int->Int}
  (rule:∀ (i j:Int) (t u:Tok) (s:Shared) (Q:Value->Shared->Prop) (E:Value->Shared->Prop),C i j->Q (.int (g i j) s.toks) { s with toks:=s.toks+1 }->wpAny (model X.prog X.w) X.A (f (.int i t) (.int j u)) Q E s) :
  OpR X f (rI C fun i j=>.int (g i j)):=by
 intro Ab s σ H x y v u Q I rx ry h;obtain ⟨i,j,rfl,rfl,hc,q⟩:=h;obtain ⟨t,rfl⟩:=rx;obtain ⟨t',rfl⟩:=ry;exact rule i j t t' s _ _ hc ⟨.int (g i j),H,I.tok _,⟨_,rfl⟩,q⟩
theorem opI0 {f:Value->Value->Sem Value} {g:Int->Int->Int}
  (rule:∀ (i j:Int) (t u:Tok) (s:Shared) (Q:Value->Shared->Prop) (E:Value->Shared->Prop),Q (.int (g i j) s.toks) { s with toks:=s.toks+1 }->wpAny (model X.prog X.w) X.A (f (.int i t) (.int j u)) Q E s) :
  OpR X f (rI0 fun i j=>.int (g i j)):=by
 intro Ab s σ H x y v u Q I rx ry h;obtain ⟨i,j,rfl,rfl,q⟩:=h;obtain ⟨t,rfl⟩:=rx;obtain ⟨t',rfl⟩:=ry;exact rule i j t t' s _ _ ⟨.int (g i j),H,I.tok _,⟨_,rfl⟩,q⟩
theorem opB0 {f:Value->Value->Sem Value} {g:Int->Int->Bool}
  (rule:∀ (i j:Int) (t u:Tok) (s:Shared) (Q:Value->Shared->Prop) (E:Value->Shared->Prop),Q (.bool (g i j)) s->wpAny (model X.prog X.w) X.A (f (.int i t) (.int j u)) Q E s) :
  OpR X f (rI0 fun i j=>.bl (g i j)):=by
 intro Ab s σ H x y v u Q I rx ry h;obtain ⟨i,j,rfl,rfl,q⟩:=h;obtain ⟨t,rfl⟩:=rx;obtain ⟨t',rfl⟩:=ry;exact rule i j t t' s _ _ ⟨.bl (g i j),H,I,rfl,q⟩
def CDiv (i j:Int):Prop:=0<j/\j<1073741824
def CPow (i j:Int):Prop:=0<=j/\j<=1000000/\i.natAbs<2 ^ 64
def CMul (i j:Int):Prop:=(-(2 ^ 64)<i/\i<2 ^ 64)\/(-(2 ^ 64)<j/\j<2 ^ 64)
theorem CMul.ok {i j:Int} (h:CMul i j):IntMulOk i j:=by
 rcases h with ⟨h1,h2⟩ | ⟨h1,h2⟩
 ·exact .of_left (intBits_le_64 h1 h2)
 ·exact .of_right (intBits_le_64 h1 h2)
theorem qPI (k:Nat):(0:Int)<=2 ^ k:=by
 rw [two_pow_cast];exact Z4 _
theorem qD2:OpR X (binaryOp .Add) (rI0 fun i j=>.int (i+j)):=opI0 fun _ _ _ _ _ _ _ q=>add_int q
theorem qDS:OpR X (binaryOp .Sub) (rI0 fun i j=>.int (i - j)):=opI0 fun _ _ _ _ _ _ _ q=>sub_int q
theorem qI2:OpR X (binaryOp .Mult) (rI CMul fun i j=>.int (i * j)):=opI fun _ _ _ _ _ _ _ hc q=>mul_int q hc.ok
theorem qN5:OpR X (binaryOp .FloorDiv) (rI CDiv fun i j=>.int (i / j)):=opI fun i j _ _ _ _ _ hc q=>by
 have h1:(0:Int)<j:=hc.1;have h2:j<1073741824:=hc.2;exact floordiv_int (by lia) (by rw [c4 i (by lia)];exact q) (.inl (j4 (by lia)))
theorem qGZ:OpR X (binaryOp .Mod) (rI (fun _ j=>0<j) fun i j=>.int (i % j)):=opI fun i j _ _ _ _ _ hc q=>by
 have h1:(0:Int)<j:=hc;exact mod_int' (by lia) (by rw [u7 i (by lia)];exact q)
theorem qZ3:OpR X (binaryOp .Pow) (rI CPow fun i j=>.int (i ^ j.toNat)):=opI fun _ _ _ _ _ _ _ hc q=>pow_int_small hc.1 hc.2.1 hc.2.2 q
theorem qOP:OpR X (binaryOp .LShift) (rI CPow fun i j=>.int (i * 2 ^ j.toNat)):=opI fun _ _ _ _ _ _ _ hc q=>lshift_int_small hc.1 hc.2.1 hc.2.2 q
theorem qRO:OpR X (binaryOp .RShift) (rI (fun _ j=>0<=j) fun i j=>.int (i / 2 ^ j.toNat)):=opI fun i j _ _ _ _ _ hc q=>
 rshift_int hc (by rw [c4 i (qPI _)];exact q)
theorem qM2:OpR X (binaryOp .BitAnd) (rI0 fun i j=>.int (R0 i j)):=opI0 fun _ _ _ _ _ _ _ q=>and_int q
theorem qaP:OpR X (binaryOp .BitOr) (rI0 fun i j=>.int (A70 i j)):=opI0 fun _ _ _ _ _ _ _ q=>or_int q
theorem unI {f:Value->Sem Value} {g:Int->Int}
  (rule:∀ (i:Int) (t:Tok) (s:Shared) (Q:Value->Shared->Prop) (E:Value->Shared->Prop),Q (.int (g i) s.toks) { s with toks:=s.toks+1 }->wpAny (model X.prog X.w) X.A (f (.int i t)) Q E s) :
  UnR X f (rU fun i=>.int (g i)):=by
 intro Ab s σ H x v Q I rx h;obtain ⟨i,rfl,q⟩:=h;obtain ⟨t,rfl⟩:=rx;exact rule i t s _ _ ⟨.int (g i),H,I.tok _,⟨_,rfl⟩,q⟩
theorem qFO:UnR X (unaryOp .USub) (rU fun i=>.int (-i)):=unI fun _ _ _ _ _ q=>neg_int q
end
noncomputable def scal:V->V->Bool
 | .non,.non=>true | .non,.int _=>true | .int _,.non=>true | .non,.bl _=>true | .bl _,.non=>true | .non,.str _=>true | .str _,.non=>true
 | .int _,.int _=>true | .bl _,.bl _=>true | .str _,.str _=>true | .byt _,.byt _=>true
 | .int _,.str _=>true | .str _,.int _=>true | .bl _,.str _=>true | .str _,.bl _=>true
 | _,_=>false
def rEq:R2:=fun x y H Q=>scal x y=true/\Q (.bl (decide (x=y))) H
def rNe:R2:=fun x y H Q=>scal x y=true/\Q (.bl (!decide (x=y))) H
theorem qT4 {i j:Int}:decide (V.int i=V.int j)=(i == j):=by
 rw [O7];simp
theorem qWD {i j:Bool}:decide (V.bl i=V.bl j)=(i == j):=by
 rw [O7];simp
theorem qT3 {i j:Str}:decide (V.str i=V.str j)=(i == j):=by
 rw [O7];simp
theorem qT5 {i j:Array UInt8}:decide (V.byt i=V.byt j)=(i.toList == j.toList):=by
 rw [O7];cases i;cases j;simp
section
variable {X:Cx} {a b c:Expr} {ta tb tc:TE} {pos:Pos}
theorem qBA {Ab:List (Addr × Obj)} {σ:St} {H:Hp} {s:Shared} {Q:VK} {k k':Bool} (I:Inv X Ab σ H s) (q:Q (.bl k) H) (e:k=k'):EP X Ab σ Q (.bool k') s:=by
 subst e;exact ⟨.bl k,H,I,rfl,q⟩
theorem qG1:OpR X (compareOp .Eq) rEq:=by
 intro Ab s σ H x y v u Q I rx ry h;obtain ⟨hs,q⟩:=h;cases x with
 | non=>
  cases rx;cases y with
  | non=>cases ry;exact PySem.EqNone.eq_none_none (qBA I q (by simp))
  | bl j=>cases ry;exact PySem.EqNone.eq_none_bool (qBA I q (by simp))
  | int j=>obtain ⟨t',rfl⟩:=ry;exact PySem.EqNone.eq_none_int (qBA I q (by simp))
  | str j=>obtain ⟨t',rfl⟩:=ry;exact PySem.EqNone.eq_none_str (qBA I q (by simp))
  | _=>exact absurd (show false=true from hs) C1
 | bl i=>
  cases rx;cases y with
  | non=>cases ry;exact PySem.EqNone.eq_bool_none (qBA I q (by simp))
  | bl j=>cases ry;exact eq_bool (qBA I q qWD)
  | str j=>obtain ⟨t',rfl⟩:=ry;exact PySem.EqMixed.eq_bool_str (qBA I q (by simp))
  | _=>exact absurd (show false=true from hs) C1
 | int i=>
  obtain ⟨t,rfl⟩:=rx;cases y with
  | non=>cases ry;exact PySem.EqNone.eq_int_none (qBA I q (by simp))
  | int j=>obtain ⟨t',rfl⟩:=ry;exact eq_int (qBA I q qT4)
  | str j=>obtain ⟨t',rfl⟩:=ry;exact PySem.EqMixed.eq_int_str (qBA I q (by simp))
  | _=>exact absurd (show false=true from hs) C1
 | str i=>
  obtain ⟨t,rfl⟩:=rx;cases y with
  | non=>cases ry;exact PySem.EqNone.eq_str_none (qBA I q (by simp))
  | bl j=>cases ry;exact PySem.EqMixed.eq_str_bool (qBA I q (by simp))
  | int j=>obtain ⟨t',rfl⟩:=ry;exact PySem.EqMixed.eq_str_int (qBA I q (by simp))
  | str j=>obtain ⟨t',rfl⟩:=ry;exact eq_str (qBA I q qT3)
  | _=>exact absurd (show false=true from hs) C1
 | byt i=>
  obtain ⟨t,rfl⟩:=rx;cases y with
  | byt j=>obtain ⟨t',rfl⟩:=ry;exact PySem.W.eq_bytes (qBA I q qT5)
  | _=>exact absurd (show false=true from hs) C1
 | _=>cases y <;> exact absurd (show false=true from hs) C1
theorem qRQ:OpR X (compareOp .NotEq) rNe:=by
 intro Ab s σ H x y v u Q I rx ry h;obtain ⟨hs,q⟩:=h;cases x with
 | non=>
  cases rx;cases y with
  | non=>cases ry;exact PySem.EqNone.ne_none_none (qBA I q (by simp))
  | bl j=>cases ry;exact PySem.EqNone.ne_none_bool (qBA I q (by simp))
  | int j=>obtain ⟨t',rfl⟩:=ry;exact PySem.EqNone.ne_none_int (qBA I q (by simp))
  | str j=>obtain ⟨t',rfl⟩:=ry;exact PySem.EqNone.ne_none_str (qBA I q (by simp))
  | _=>exact absurd (show false=true from hs) C1
 | bl i=>
  cases rx;cases y with
  | non=>cases ry;exact PySem.EqNone.ne_bool_none (qBA I q (by simp))
  | bl j=>cases ry;exact ne_bool (qBA I q (congrArg not qWD))
  | str j=>obtain ⟨t',rfl⟩:=ry;exact PySem.EqMixed.ne_bool_str (qBA I q (by simp))
  | _=>exact absurd (show false=true from hs) C1
 | int i=>
  obtain ⟨t,rfl⟩:=rx;cases y with
  | non=>cases ry;exact PySem.EqNone.ne_int_none (qBA I q (by simp))
  | int j=>obtain ⟨t',rfl⟩:=ry;exact ne_int (qBA I q (congrArg not qT4))
  | str j=>obtain ⟨t',rfl⟩:=ry;exact PySem.EqMixed.ne_int_str (qBA I q (by simp))
  | _=>exact absurd (show false=true from hs) C1
 | str i=>
  obtain ⟨t,rfl⟩:=rx;cases y with
  | non=>cases ry;exact PySem.EqNone.ne_str_none (qBA I q (by simp))
  | bl j=>cases ry;exact PySem.EqMixed.ne_str_bool (qBA I q (by simp))
  | int j=>obtain ⟨t',rfl⟩:=ry;exact PySem.EqMixed.ne_str_int (qBA I q (by simp))
  | str j=>obtain ⟨t',rfl⟩:=ry;exact ne_str (qBA I q (congrArg not qT3))
  | _=>exact absurd (show false=true from hs) C1
 | byt i=>
  obtain ⟨t,rfl⟩:=rx;cases y with
  | byt j=>obtain ⟨t',rfl⟩:=ry;exact PySem.W.ne_bytes (qBA I q (congrArg not qT5))
  | _=>exact absurd (show false=true from hs) C1
 | _=>cases y <;> exact absurd (show false=true from hs) C1
theorem qM1:OpR X (compareOp .Lt) (rI0 fun i j=>.bl (decide (i<j))):=opB0 fun _ _ _ _ _ _ _ q=>lt_int q
theorem qX8:OpR X (compareOp .LtE) (rI0 fun i j=>.bl (decide (i<=j))):=opB0 fun _ _ _ _ _ _ _ q=>le_int q
theorem qRR:OpR X (compareOp .Gt) (rI0 fun i j=>.bl (decide (j<i))):=opB0 fun _ _ _ _ _ _ _ q=>gt_int q
theorem qUO:OpR X (compareOp .GtE) (rI0 fun i j=>.bl (decide (j<=i))):=opB0 fun _ _ _ _ _ _ _ q=>ge_int q
theorem qAQ (b:Expr) {op:CmpOp} (h:op ≠ .In:=by decide) (h2:op ≠ .NotIn:=by decide):behindInMarks op b=false:=by
 have e1:(op == CmpOp.In)=false:=by cases op <;> first | rfl | exact absurd rfl h
 have e2:(op == CmpOp.NotIn)=false:=by cases op <;> first | rfl | exact absurd rfl h2
 cases b <;> simp [behindInMarks,e1,e2]
theorem qD0 {op:CmpOp} {r:R2} (ho:OpR X (compareOp op) r) (ha:PE X a ta) (hb:PE X b tb) (hm:behindInMarks op b=false):PE X (.Compare a [op] [b] pos) (tOp r ta tb):=by
 intro Ab s σ H Q I h;exact wpAny_Compare1 (binT ha hb I h fun v u s2 x y H2 I2 rx ry q=>ho Ab s2 σ H2 x y v u Q I2 rx ry q) hm
def qYF (t:TE):TT:=fun σ H Q=>t σ H fun x H'=>∃ k,x=.bl k/\Q k H'
theorem qAL {op:CmpOp} {r:R2} (ho:OpR X (compareOp op) r) (ha:PE X a ta) (hb:PE X b tb) (hm:behindInMarks op b=false):PT X (.Compare a [op] [b] pos) (qYF (tOp r ta tb)):=by
 intro Ab s σ H Q I h;refine wpAny_isTrue_Compare1 (thn (ha Ab s σ H _ I h) fun v s1 ⟨x,H1,I1,r1,q1⟩=>thn (hb Ab s1 σ H1 _ I1 q1) fun u s2 ⟨y,H2,I2,r2,q2⟩=>
  thn (ho Ab s2 σ H2 x y v u _ I2 r1 r2 q2) fun c s3 ⟨z,H3,I3,r3,k,e,q3⟩=>?_) hm
 subst e;cases r3;exact wpAny_truthy_bool ⟨H3,I3,q3⟩
def qVN (r r':R2) (ta tb tc:TE):TE:=fun σ H Q=>ta σ H fun x H1=>tb σ H1 fun y H2=>r x y H2 fun z H3=>∃ k,z=.bl k/\
 (if k=true then tc σ H3 fun w' H4=>r' y w' H4 Q else Q (.bl false) H3)
theorem qUN {op op':CmpOp} {r r':R2} (ho:OpR X (compareOp op) r) (ho':OpR X (compareOp op') r') (ha:PE X a ta) (hb:PE X b tb) (hc:PE X c tc)
  (hm:lastMarks [op,op'] [b,c]=false:=by with_unfolding_all rfl):PE X (.Compare a [op,op'] [b,c] pos) (qVN r r' ta tb tc):=by
 intro Ab s σ H Q I h;refine Compare_chain (thn (ha Ab s σ H _ I h) fun v s1 ⟨x,H1,I1,r1,q1⟩=>chain_link (thn (hb Ab s1 σ H1 _ I1 q1) fun u s2 ⟨y,H2,I2,r2,q2⟩=>
  thn (ho Ab s2 σ H2 x y v u _ I2 r1 r2 q2) fun d s3 ⟨z,H3,I3,r3,k,e,q3⟩=>?_)) hm
 subst e;cases r3;refine wpAny_truthy_bool ?_;cases k with
 | false=>exact ite_ff ⟨.bl false,H3,I3,rfl,q3⟩
 | true=>exact ite_tt (chain_last (thn (hc Ab s3 σ H3 _ I3 q3) fun w' s4 ⟨z',H4,I4,r4,q4⟩=>ho' Ab s4 σ H4 y z' u w' Q I4 r2 r4 q4))
theorem qUG {op op':CmpOp} {r r':R2} (ho:OpR X (compareOp op) r) (ho':OpR X (compareOp op') r') (ha:PE X a ta) (hb:PE X b tb) (hc:PE X c tc)
  (hm:lastMarks [op,op'] [b,c]=false:=by with_unfolding_all rfl):PT X (.Compare a [op,op'] [b,c] pos) (qYF (qVN r r' ta tb tc)):=by
 intro Ab s σ H Q I h;refine isTrue_chain (thn (ha Ab s σ H _ I h) fun v s1 ⟨x,H1,I1,r1,q1⟩=>test_link (thn (hb Ab s1 σ H1 _ I1 q1) fun u s2 ⟨y,H2,I2,r2,q2⟩=>
  thn (ho Ab s2 σ H2 x y v u _ I2 r1 r2 q2) fun d s3 ⟨z,H3,I3,r3,k,e,q3⟩=>?_)) hm
 subst e;cases r3;refine wpAny_truthy_bool ?_;cases k with
 | false=>
  obtain ⟨k',e',q'⟩:=q3;cases e';exact ite_ff ⟨H3,I3,q'⟩
 | true=>
  refine ite_tt (test_last (thn (hc Ab s3 σ H3 _ I3 q3) fun w' s4 ⟨z',H4,I4,r4,q4⟩=>thn (ho' Ab s4 σ H4 y z' u w' _ I4 r2 r4 q4) fun d' s5 ⟨z2,H5,I5,r5,k2,e2,q5⟩=>?_));subst e2;cases r5;exact wpAny_truthy_bool ⟨H5,I5,q5⟩
theorem qOT:(sizeLine:Nat)<2 ^ 63:=by rw [sizeLine_eq];decide
theorem qDO {x:V} {us:List Value} (r:Vals [x] us):∃ u,us=[u]/\RelV x u:=by
 cases r with
 | cons r1 r2=>cases r2;exact ⟨_,rfl,r1⟩
theorem qJW {x y:V} {us:List Value} (r:Vals [x,y] us):∃ u w',us=[u,w']/\RelV x u/\RelV y w':=by
 cases r with
 | cons r1 r2=>
  cases r2 with
  | cons r3 r4=>cases r4;exact ⟨_,_,rfl,r1,r3⟩
theorem qIM (hc:X.calm=true):qCF X (.builtin "max") (fun xs H Q=>∃ i j,xs=[.int i,.int j]/\Q (.int (if j > i then j else i)) H):=by
 intro Ab s σ H xs us Q I r h;obtain ⟨i,j,rfl,q⟩:=h;obtain ⟨u,w',rfl,⟨t,rfl⟩,⟨t',rfl⟩⟩:=qJW r;refine max_two_ints (I.ok.hd hc) fun h' tk k=>⟨_,H,I.kept k,?_,q⟩;by_cases hj:j > i
 ·rw [if_pos hj,if_pos hj];exact ⟨_,rfl⟩
 ·rw [if_neg hj,if_neg hj];exact ⟨_,rfl⟩
theorem qIL (hc:X.calm=true):qCF X (.builtin "min") (fun xs H Q=>∃ i j,xs=[.int i,.int j]/\Q (.int (if j<i then j else i)) H):=by
 intro Ab s σ H xs us Q I r h;obtain ⟨i,j,rfl,q⟩:=h;obtain ⟨u,w',rfl,⟨t,rfl⟩,⟨t',rfl⟩⟩:=qJW r;refine min_two_ints (I.ok.hd hc) fun h' tk k=>⟨_,H,I.kept k,?_,q⟩;by_cases hj:j<i
 ·rw [if_pos hj,if_pos hj];exact ⟨_,rfl⟩
 ·rw [if_neg hj,if_neg hj];exact ⟨_,rfl⟩
theorem qIN:qCF X (.type "int") (fun xs H Q=>(∃ i,xs=[.int i]/\Q (.int i) H)\/∃ k,xs=[.bl k]/\Q (.int (if k then 1 else 0)) H):=by
 intro Ab s σ H xs us Q I r h;rcases h with ⟨i,rfl,q⟩ | ⟨k,rfl,q⟩
 ·obtain ⟨u,rfl,t,rfl⟩:=qDO r;exact call_int_int ⟨.int i,H,I,⟨_,rfl⟩,q⟩
 ·obtain ⟨u,rfl,r1⟩:=qDO r;cases r1;exact call_int_bool ⟨.int (if k then 1 else 0),H,I.tok _,⟨_,rfl⟩,q⟩
theorem qNW:qCF X (.builtin "divmod") (fun xs H Q=>∃ i j,xs=[.int i,.int j]/\CDiv i j/\∀ p,H p=none->Q (.ref p) (Ag H p (.tup [.int (i / j),.int (i % j)]))):=by
 intro Ab s σ H xs us Q I r h;obtain ⟨i,j,rfl,⟨h1,h2⟩,q⟩:=h;obtain ⟨u,w',rfl,⟨t,rfl⟩,⟨t',rfl⟩⟩:=qJW r;refine divmod_int (by lia) ?_ (.inl (j4 (by lia)))
 rw [c4 i (by lia),u7 i (by lia)]
 have hn:H s.heap.objs.size=none:=I.hok.fresh (A6 _);refine ⟨.ref s.heap.objs.size,_,?_,rfl,q _ hn⟩;refine I.laid (fun b o e=>A4 _ e) (A6 _) ⟨by simp only [D5,Z6];rw [sizeLine_eq];decide,[.int (i / j) s.toks,.int (i % j) (s.toks+1)],.cons ⟨_,rfl⟩ (.cons ⟨_,rfl⟩ .nil),?_⟩
 exact ⟨_,A9 s.heap rfl,rfl,0,rfl,rfl⟩
end
end L2
namespace L2
open PySem PySem.Spec PyProof.Rows
structure ObjM (h:Heap) (x dx C:Addr) (mA:Str->Option Value):Prop where
 obj:h.get? x=some (A26 C dx)
 ns:h.Ns1 dx mA
 ne:dx ≠ x
theorem qRZ {h:Heap} {dx:Addr} {mA:Str->Option Value} (n:h.Ns1 dx mA):∃ od,h.get? dx=some od/\∀ name,A53 name od=some (mA name):=by
 obtain ⟨o,es,ep,ho,hd,hk,_,hm⟩:=n;refine ⟨o,ho,fun name=>?_⟩;have e:=hm name;unfold nsFind findBy at e;rw [<- Array.find?_toList] at e;unfold A53;rw [hd];dsimp only
 split
 ·rename_i y q
  rw [q] at e;exact congrArg some e
 ·rename_i q
  rw [q] at e;have a:es.toList.any (·.refKey)=false:=by
   rw [A85];intro y hy;obtain ⟨z,t,hkey⟩:=hk y (Array.mem_toList_iff.mp hy);simp [DictEntry.refKey,hkey]
  have a':¬ es.toList.any (·.refKey)=true:=by rw [a];exact C1
  rw [if_neg a'];exact congrArg some e
theorem ObjM.look {h:Heap} {x dx C:Addr} {mA:Str->Option Value} (I:ObjM h x dx C mA):∃ od,PySem.W.InstAt h x (A26 C dx) C (some od)/\∀ name,A53 name od=some (mA name):=
 let ⟨od,ho,hl⟩:=qRZ I.ns
 ⟨od,⟨I.obj,rfl,rfl,ho⟩,hl⟩
section
variable {prog:Program} {w:World} {A:Around} {E:Value->Shared->Prop} {s:Shared} {K:PySem.W.Frag} {x dx C f:Addr} {mA:Str->Option Value} {name:Str} {v:Value}
end
noncomputable def putF (f:Str) (v:V):List (Str × V)->List (Str × V)
 | []=>[(f,v)]
 | (g,x)::r=>if g=f then (g,v)::r else (g,x)::putF f v r
theorem RelO.some_of {v:V} {o:Option Value} (r:RelO (some v) o):∃ u,o=some u/\RelV v u:=by
 cases o with
 | none=>exact (show False from r).elim
 | some u=>exact ⟨u,rfl,r⟩
section
variable {P:Program} {w:World} {H H':Hp} {h h':Heap} {a C dx:Addr} {fs fs':List (Str × V)}
theorem qXL (hok:HOk P w H h) (e:H a=some (.ins C dx fs)):∃ mA,ObjM h a dx C mA/\(∀ f,RelO (fs.lookup f) (mA f))/\PySem.Within mA (fs.map (·.1))/\fs.length<=1000/\H dx=some (.own a):=by
 obtain ⟨d,z,ne,ob,mA,n,r,q⟩:=(show ObjOk P w H h a (.ins C dx fs) from hok a _ e);exact ⟨mA,⟨ob,n,ne⟩,r,q,z,d⟩
end
structure Cls (K:PySem.W.Frag) (C:Addr):Prop where
 pg:B08 K C Z7=true
 hd:A86 K C=true
 po:PySem.W.plainOver K C=true
 sa:P9 K (.ref C) "__setattr__" = some (some (.builtin "object.__setattr__"))
theorem Cls.get {K:PySem.W.Frag} {C:Addr} (c:Cls K C) (f:Str):B08 K C f=true:=c.pg
def qPE (K:PySem.W.Frag) (C:Addr) (f:Str):Prop:=P9 K (.ref C) f=some none
structure Con (K:PySem.W.Frag) (C:Addr) (f:Str) (v:V) (u:Value):Prop where
 at_:P9 K (.ref C) f=some (some u)
 rel:RelV v u
 get:y9 K u "__get__" = some none
 cp:PySem.W.copiedNames.contains f=false
structure Meth (K:PySem.W.Frag) (C:Addr) (m:Str) (f:Addr):Prop where
 at_:P9 K (.ref C) m=some (some (.ref f))
 fn:B52 K (.ref f)=true
 kp:V8 K (.ref f)=true
section
variable {X:Cx} {Ab:List (Addr × Obj)} {σ:St} {H:Hp} {s:Shared} {a C dx:Addr} {fs:List (Str × V)} {f:Str} {v:V} {A:Around} {E:Value->Shared->Prop}
end
section
variable {X:Cx} {o e value:Expr} {f:Str} {pos pos' tpos:Pos} {ta tv:TE}
end
section
variable {X:Cx} {Ab:List (Addr × Obj)} {σ:St} {H:Hp} {s:Shared} {A:Around} {E:Value->Shared->Prop} {Q:Value->Shared->Prop} {c:Value} {b:Bool}
inductive TyOf (K:PySem.W.Frag) (H:Hp):V->Value->Prop where
 | non:TyOf K H .non (.type "NoneType")
 | bl (x:Bool):TyOf K H (.bl x) (.type "bool")
 | int (i:Int):TyOf K H (.int i) (.type "int")
 | str (x:Str):TyOf K H (.str x) (.type "str")
 | flt (x:UInt64):TyOf K H (.flt x) (.type "float")
 | lst {a:Addr} {xs:List V} (e:H a=some (.lst xs)):TyOf K H (.ref a) (.type "list")
 | frz {a:Addr} {o:Obj} {xs:List V} (e:H a=some (.frz o (.lst xs))):TyOf K H (.ref a) (.type "list")
 | tup {a:Addr} {xs:List V} (e:H a=some (.tup xs)):TyOf K H (.ref a) (.type "tuple")
 | dK {a:Addr} {Af:List (Key × V)} (e:H a=some (.dK Af)):TyOf K H (.ref a) (.type "dict")
 | dT {a:Addr} {Af:List (List Key × V)} (e:H a=some (.dT Af)):TyOf K H (.ref a) (.type "dict")
 | ins {a C dx:Addr} {fs:List (Str × V)} (e:H a=some (.ins C dx fs)) (cl:Cls K C) (ha:P9 K (.ref C) "__class__" = some (some (.builtin "object.__class__")))
   (hn:y9 K (.builtin "object.__class__") "__get__" = some (some (.builtin "getset_descriptor.__get__"))) (htk:B24 K (.builtin "object.__class__")=some true)
   (hm:A71 K C (.type "object")=some true):TyOf K H (.ref a) (.ref C)
theorem qS7 {x:V} {u t:Value} (I:Inv X Ab σ H s) (rx:RelV x u) (ty:TyOf X.K H x t) (e:Q0 X.K t c=some b) (h:∀ tk,Q (.bool b) { s with toks:=tk }) :
  wpAny (model X.prog X.w) A (call (.builtin "isinstance") [u,c]) Q E s:=by
 cases ty with
 | non=>cases (show u=L7 from rx);exact O8 PySem.W.kitx_none I.kIn Y7 e (fun z=>nomatch z) h
 | bl y=>cases (show u=W6 y from rx);exact O8 PySem.W.kitx_bool I.kIn Y7 e (fun z=>nomatch z) h
 | int i=>obtain ⟨t,q⟩:=(show ∃ t,u=Q2 i t from rx);cases q;exact O8 PySem.W.kitx_int I.kIn Y7 e (fun z=>nomatch z) h
 | str y=>obtain ⟨t,q⟩:=(show ∃ t,u=B23 y t from rx);cases q;exact O8 PySem.W.kitx_str I.kIn Y7 e (fun z=>nomatch z) h
 | flt y=>obtain ⟨t,q⟩:=(show ∃ t,u=Value.float y t from rx);cases q;exact O8 PySem.W.kitx_float I.kIn Y7 e (fun z=>nomatch z) h
 | @lst a xs ea=>
  cases (show u=F3 a from rx);obtain ⟨_,_,n,_,h1⟩:=(show ObjOk X.prog X.w H s.heap a (.lst xs) from I.hok a _ ea);exact O8 A87 I.kIn ⟨_,h1,rfl⟩ e (fun z=>nomatch z) h
 | @frz a ob xs ea=>
  cases (show u=F3 a from rx);obtain ⟨_,_,_,n,_,h1⟩:=(show ObjOk X.prog X.w H s.heap a (.frz ob (.lst xs)) from I.hok a _ ea);exact O8 A87 I.kIn ⟨_,h1,rfl⟩ e (fun z=>nomatch z) h
 | @tup a xs ea=>
  cases (show u=F3 a from rx);obtain ⟨_,_,_,p⟩:=(show ObjOk X.prog X.w H s.heap a (.tup xs) from I.hok a _ ea);obtain ⟨o,h1,h2,_⟩:=p;exact O8 PySem.W.kitx_tuple I.kIn ⟨o,h1,h2⟩ e (fun z=>nomatch z) h
 | @dK a Af ea=>
  cases (show u=F3 a from rx);obtain ⟨_,_,vs,_,p⟩:=(show ObjOk X.prog X.w H s.heap a (.dK Af) from I.hok a _ ea);obtain ⟨o,es,ep,h1,h2,_⟩:=p;exact O8 A88 I.kIn ⟨o,h1,h2.1⟩ e (fun z=>nomatch z) h
 | @dT a Af ea=>
  cases (show u=F3 a from rx);obtain ⟨_,_,xs,_,o,es,ep,h1,h2,_⟩:=(show ObjOk X.prog X.w H s.heap a (.dT Af) from I.hok a _ ea);exact O8 A88 I.kIn ⟨o,h1,h2.1⟩ e (fun z=>nomatch z) h
 | @ins a C dx fs ea cl ha hn htk hm=>
  cases (show u=F3 a from rx);obtain ⟨mA,O,_⟩:=qXL I.hok ea;obtain ⟨od,J,_⟩:=O.look;exact O8 (PySem.W.kitx_own (cl.get _) cl.hd ha hn htk hm) I.kIn J e (fun z=>nomatch z) h
end
end L2
namespace L2
open PySem PySem.Spec PyProof.Rows
structure Room (k:Nat) (A:Around):Prop where
 hd:A.handled=none
 dp:A.depth+3 * k+5<recursionLimit
 un:A.units+16 * k+200<cLine
 gd:A.guards=some []
theorem Room.mono {j k:Nat} {A:Around} (r:Room k A) (h:j<=k):Room j A:=⟨r.hd,by have:=r.dp;lia,by have:=r.un;lia,r.gd⟩
theorem Room.deeper {k:Nat} {A:Around} (r:Room (k+1) A) (env:Env):Room k (A.deeper env):=
 ⟨r.hd,by have:=r.dp;show A.depth+1+3 * k+5<_;lia,by have:=r.un;show A.units+3+16 * k+200<_;lia,r.gd⟩
theorem Room.depth {k:Nat} {A:Around} (r:Room k A):A.depth<recursionLimit:=by have:=r.dp;lia
theorem Room.units {k:Nat} {A:Around} (r:Room k A):A.units+64<cLine:=by have:=r.un;lia
theorem Room.units0 {k:Nat} {A:Around} (r:Room k A):A.units<cLine:=by have:=r.un;lia
def tNil:TA:=fun _ H Q=>Q [] H
def qa6 (ta:TE) (tr:TA):TA:=fun σ H Q=>ta σ H fun x H1=>tr σ H1 fun xs H2=>Q (x::xs) H2
section
variable {X:Cx} {e:Expr} {es:List Expr} {te:TE} {t:TA} {pos:Pos}
theorem qA2:PA X [] tNil:=fun _ _ _ _ H Q I h=>Calls.spliced_nil ⟨[],H,I,.nil,h⟩
theorem qA0 (ha:PE X e te) (hr:PA X es t) (hs:starEach (e::es) X.env=(false,eval e X.env)::starEach es X.env:=by rfl):PA X (e::es) (qa6 te t):=by
 intro pos Ab s σ H Q I h;rw [hs];show wpAny _ _ (spliced ((false,eval e X.env)::backTo pos (starEach es X.env))) _ _ s;refine Calls.spliced_cons (thn (ha Ab s σ H _ I h) fun u s1 ⟨x,H1,I1,r1,q1⟩=>?_);exact thn (hr pos Ab s1 σ H1 _ I1 q1) fun us s2 ⟨xs,H2,I2,r2,q2⟩=>⟨x::xs,H2,I2,.cons r1 r2,q2⟩
def tTup (t:TA):TE:=fun σ H Q=>t σ H fun xs H1=>xs.length<=sizeLine/\∀ p,H1 p=none->Q (.ref p) (Ag H1 p (.tup xs))
def tLst (t:TA):TE:=fun σ H Q=>t σ H fun xs H1=>xs.length<=sizeLine/\∀ p,H1 p=none->Q (.ref p) (Ag H1 p (.lst xs))
theorem qAV {x1} (h:PA X es t):PE X (.Tuple es x1 pos) (tTup t):=by
 intro Ab s σ H Q I hq;refine wpAny_Tuple_spliced (thn (h pos Ab s σ H _ I hq) fun us s1 ⟨xs,H1,I1,r,z,q⟩=>⟨by rw [<- r.length];exact z,?_⟩)
 have hf:H1 s1.heap.objs.size=none:=I1.hok.fresh (A6 _);refine ⟨.ref s1.heap.objs.size,Ag H1 s1.heap.objs.size (.tup xs),I1.laid (t':=s1.toks) (fun b u e=>A4 _ e) (A6 _) ?_,rfl,q _ hf⟩;exact ⟨z,us,r,⟨_,A9 _ rfl,rfl,_,rfl,rfl⟩⟩
theorem qB4 (h:PA X es t):PE X (.List es pos) (tLst t):=by
 intro Ab s σ H Q I hq;refine wpAny_List_spliced (thn (h pos Ab s σ H _ I hq) fun us s1 ⟨xs,H1,I1,r,z,q⟩=>⟨by rw [<- r.length];exact z,?_⟩)
 have hf:H1 s1.heap.objs.size=none:=I1.hok.fresh (A6 _);refine ⟨.ref s1.heap.objs.size,Ag H1 s1.heap.objs.size (.lst xs),I1.laid (t':=s1.toks) (fun b u e=>A4 _ e) (A6 _) ?_,rfl,q _ hf⟩;exact ⟨z,us,0,r,A9 _ rfl⟩
end
abbrev Sp:=List V->Hp->VK->XK->Prop
abbrev CXT:=List Env->Hp->Shared->XK->Value->Shared->Prop
structure Env0 (P:Program) (w:World) (K:PySem.W.Frag) (mg:Str->Option Value) (base:Heap) (A:Around) (outer:List Env) (s:Shared) (H:Hp):Prop where
 frames:A.frames=some outer
 mod:Mod K mg base
 bs:∀ b o,base.get? b=some o->s.heap.get? b=some o/\H b=none
 bsz:base.objs.size<=s.heap.objs.size
 funs:s.heap.FunFrames base outer
 frf:∀ b ∈ frs outer,H b=none
 hok:HOk P w H s.heap
 bare:AllBare s.gens
def CE (outer:List Env) (P:Program) (w:World) (H:Hp) (s:Shared) (Q:VK) (u:Value) (s':Shared):Prop:=
 ∃ v H',s'.os=s.os/\AllBare s'.gens/\Un (frs outer) [] H H' s.heap s'.heap/\HOk P w H' s'.heap/\RelV v u/\Q v H'
def CR (CX:CXT) (outer:List Env) (P:Program) (w:World) (H:Hp) (s:Shared) (Q:VK) (E:XK) (r:Result) (s':Shared):Prop:=
 match r with
 | .ok (.ret u)=>CE outer P w H s Q u s'
 | .ok _=>False
 | .error e=>CX outer H s E e s'
structure FnOk (P:Program) (w:World) (K:PySem.W.Frag) (mg:Str->Option Value) (base:Heap) (CX:CXT) (k:Nat) (f:Addr) (fd:FuncData) (ps:List Str) (sp:Sp):Prop where
 len:∀ vs H Q E,sp vs H Q E->vs.length=ps.length
 run:∀ (A:Around) (outer:List Env) (s:Shared) (H:Hp) (args:Args) (us:List Value) (vs:List V) (Q:VK) (E:XK),Room k A->Env0 P w K mg base A outer s H->BindsTo s fd args (ps.zip us)->Vals vs us->sp vs H Q E->
  codeAny (model P w) A (.call (.ref f) args) (CR CX outer P w H s Q E) s
section
variable {X:Cx} {Ab:List (Addr × Obj)} {σ:St} {H:Hp} {s s':Shared}
theorem Inv.env0 (I:Inv X Ab σ H s):Env0 X.prog X.w X.K X.mg X.base X.A X.stack s H:=
 ⟨I.ok.frames,I.ok.mod,I.bs,J6 I.ok.bsz I.sz,I.stack,I.stkFree,I.hok,I.bare⟩
theorem Inv.after {Q:VK} {u:Value} (I:Inv X Ab σ H s) (h:CE X.stack X.prog X.w H s Q u s'):EP X Ab σ Q u s':=by
 obtain ⟨v,H',os,bare,un,hok,r,q⟩:=h;obtain ⟨hh,g,d,t,os'⟩:=s';obtain rfl:os'=s.os:=os;exact ⟨v,H',I.call (h':=hh) (g':=g) (d':=d) (t':=t) (ch:=[]) un hok bare (fun b z=>absurd z (by simp)),r,q⟩
end
def qYI (sp:Sp) (dvs:List V) (E:XK) (t:TA):TE:=fun σ H Q=>t σ H fun vs H1=>sp (vs++dvs) H1 Q E
def Binds (K:PySem.W.Frag) (fd:FuncData) (ps:List Str) (ds:List Value):Prop:=
 ∀ (s:Shared) (us:List Value),K.In s.heap->(us++ds).length=ps.length->BindsTo s fd ⟨us,[]⟩ (ps.zip (us++ds))
theorem Binds.all {K:PySem.W.Frag} {fd:FuncData} {ps:List Str} (h:∀ us:List Value,us.length=ps.length->bindArgs fd ⟨us,[]⟩=pure (ps.zip us)):Binds K fd ps []:=fun s us _ hl=>by
 rw [B25] at hl ⊢;exact .of_eq (h us hl)
def qTQ (CX:CXT) (X:Cx) (E:XK):Prop:=∀ (Ab:List (Addr × Obj)) (σ:St) (H:Hp) (s:Shared) (e:Value) (s':Shared),Inv X Ab σ H s->CX X.stack H s E e s'->X.xe e s'
section
variable {X:Cx} {CX:CXT} {k:Nat} {f C:Addr} {fd:FuncData} {ps:List Str} {sp:Sp} {dvs:List V} {ds:List Value} {E:XK} {x m:Str} {p pos apos:Pos} {e o:Expr} {es:List Expr} {ta:TE} {t:TA}
theorem qYU {Ab:List (Addr × Obj)} {σ:St} {H:Hp} {s:Shared} {Q:VK} {us:List Value} {vs:List V} (F:FnOk X.prog X.w X.K X.mg X.base CX k f fd ps sp) (hr:Room k X.A) (hb:Binds X.K fd ps ds) (hd:Vals dvs ds) (hx:qTQ CX X E)
  (I:Inv X Ab σ H s) (r:Vals vs us) (h:sp (vs++dvs) H Q E):wpAny (model X.prog X.w) X.A (call (.ref f) us) (EP X Ab σ Q) X.xe s:=by
 have r2:Vals (vs++dvs) (us++ds):=r.append hd;have hl:(us++ds).length=ps.length:=by rw [<- r2.length];exact F.len _ _ _ _ h
 refine wpAny_call (codeAny_mono (F.run X.A X.stack s H ⟨us,[]⟩ (us++ds) (vs++dvs) Q E hr I.env0 (hb s us I.kIn hl) r2 h) fun r s' hq=>?_);cases r with
 | error e=>exact hx Ab σ H s e s' I hq
 | ok fl=>
  cases fl with
  | ret u=>exact I.after hq
  | next=>exact a9 hq
  | brk=>exact a9 hq
  | cont=>exact a9 hq
theorem qX6 (F:FnOk X.prog X.w X.K X.mg X.base CX k f fd ps sp) (hr:Room k X.A) (hg:Gl X x) (hm:X.mg x=some (.ref f)) (hk:V8 X.K (.ref f)=true) (hb:Binds X.K fd ps ds) (hd:Vals dvs ds) (hx:qTQ CX X E)
  (ha:PA X (e::es) t) (hdb:(x == ("__debug__" : Str))=false:=by decide) (he:starEach (e::es) X.env=(false,eval e X.env)::starEach es X.env:=by rfl) (hpl:(backTo pos (starEach es X.env)).any (·.1)=false:=by rfl) :
  PE X (.Call (.Name x p) (e::es) [] pos) (qYI sp dvs E t):=by
 intro Ab s σ H Q I h;refine wpAny_Call_Name_kw (qXF I hg hm ?_ hdb);refine PySem.W.callWith_K (h₀:=X.base) I.ok.mod.kin hk (thn (ha pos Ab s σ H _ I h) fun us s1 ⟨vs,H1,I1,r,q⟩=>⟨I1.kIn,?_⟩) he hpl;exact qYU F hr hb hd hx I1 r q
structure Mk (K:PySem.W.Frag) (C f:Addr):Prop where
 makes:PySem.W.makesIn K C=true
 init:P9 K (.ref C) "__init__" = some (some (.ref f))
 fn:B52 K (.ref f)=true
 kp:V8 K (.ref C)=true
end
section
variable {X:Cx} {CX:CXT} {k:Nat} {f C:Addr} {fd:FuncData} {ps ks:List Str} {sp:Sp} {E:XK} {x m:Str} {p pos apos kpos:Pos} {e o:Expr} {es:List Expr} {kws:List Keyword} {te ta:TE} {t tk:TA} {nm:Option Str}
structure KBinds (K:PySem.W.Frag) (fd:FuncData) (ps ks:List Str) (g:List Value->List Value->List Value) (gV:List V->List V->List V):Prop where
 to:∀ (s:Shared) (us ws:List Value),K.In s.heap->(g us ws).length=ps.length->BindsTo s fd ⟨us,ks.zip ws⟩ (ps.zip (g us ws))
 rel:∀ {vs:List V} {us:List Value} {zs:List V} {ws:List Value},Vals vs us->Vals zs ws->Vals (gV vs zs) (g us ws)
variable {g:List Value->List Value->List Value} {gV:List V->List V->List V}
end
structure FnScope (N P:List Str) (sc:Scope):Prop where
 kind:sc.kind=.function
 co:sc.isCoroutine=false
 gen:sc.isGenerator=false
 nd:N.Nodup
 pre:N.take P.length=P
 par:∀ x ∈ P,sc.names.lookup x=some .local\/sc.names.lookup x=some .cell
 nofree:∀ y ∈ sc.names,y.2 ≠ .free
theorem qMM {kindOf:Str->Option NameKind} {x:Str}:∀ {binds:List (Str × Value)} {m:Str->Option Value},(∀ v,(x,v) ∉ binds)->bindL kindOf binds m x=m x
 | [],_,_=>rfl
 | (n,v)::r,m,h=>by
  unfold bindL;rw [qMM fun w hw=>h w (D4 _ hw)]
  split
  ·have:x ≠ n:=by rintro rfl;exact h v C9
   simp [this]
  ·rfl
theorem qMO {kindOf:Str->Option NameKind} {x:Str}:∀ {binds:List (Str × Value)} {m:Str->Option Value},(∀ v,(x,v) ∉ binds)->bindC kindOf binds m x=m x
 | [],_,_=>rfl
 | (n,v)::r,m,h=>by
  unfold bindC;rw [qMO fun w hw=>h w (D4 _ hw)]
  split
  ·rfl
  ·have:x ≠ n:=by rintro rfl;exact h v C9
   simp [this]
theorem qMN {kindOf:Str->Option NameKind} {x:Str} {v:Value}:∀ {P:List Str} {vs:List Value} {i:Nat} {m:Str->Option Value},P.Nodup->P[i]?=some x->vs[i]?=some v->kindOf x=some .local->
  bindL kindOf (P.zip vs) m x=some v
 | [],_,_,_,_,h,_,_=>by simp at h
 | _::_,[],_,_,_,_,h,_=>by simp at h
 | p::P,w::vs,0,m,nd,h1,h2,hk=>by
  simp at h1 h2;subst h1;subst h2;show bindL kindOf ((p,w)::P.zip vs) m p=_;unfold bindL;rw [qMM fun v hv=>(Q3.mp nd).1 (A27 hv).1,if_pos hk];simp
 | p::P,w::vs,i+1,m,nd,h1,h2,hk=>by
  show bindL kindOf ((p,w)::P.zip vs) m x=_;unfold bindL;exact qMN (i:=i) (Q3.mp nd).2 (by simpa using h1) (by simpa using h2) hk
theorem qMP {kindOf:Str->Option NameKind} {x:Str} {v:Value}:∀ {P:List Str} {vs:List Value} {i:Nat} {m:Str->Option Value},P.Nodup->P[i]?=some x->vs[i]?=some v->kindOf x ≠ some .local->
  bindC kindOf (P.zip vs) m x=some v
 | [],_,_,_,_,h,_,_=>by simp at h
 | _::_,[],_,_,_,_,h,_=>by simp at h
 | p::P,w::vs,0,m,nd,h1,h2,hk=>by
  simp at h1 h2;subst h1;subst h2;show bindC kindOf ((p,w)::P.zip vs) m p=_;unfold bindC;rw [qMO fun v hv=>(Q3.mp nd).1 (A27 hv).1,if_neg hk];simp
 | p::P,w::vs,i+1,m,nd,h1,h2,hk=>by
  show bindC kindOf ((p,w)::P.zip vs) m x=_;unfold bindC;exact qMP (i:=i) (Q3.mp nd).2 (by simpa using h1) (by simpa using h2) hk
noncomputable def start (N:List Str) (vs:List V):St:=vs.map some++E4 (N.length - vs.length) none
noncomputable def cxOf (CX:CXT) (P:Program) (w:World) (K:PySem.W.Frag) (mg:Str->Option Value) (base:Heap) (N:List Str) (qual:Str) (scope:Scope) (f:Addr) (cd:Value) (A:Around) (outer:List Env) (s:Shared) (H:Hp) (E:XK):Cx where
 prog:=P
 w:=w
 K:=K
 mg:=mg
 base:=base
 A:=A.deeper (envOfC qual scope s.heap.objs.size f cd)
 N:=N
 s₀:=s
 H₀:=H
 env:=envOfC qual scope s.heap.objs.size f cd
 outer:=outer
 stack:=envOfC qual scope s.heap.objs.size f cd::outer
 ex:=[]
 calm:=true
 fn:=fun _=>true
 pn:=[]
 xe:=fun e s'=>wpAny (model P w) (A.deeper (envOfC qual scope s.heap.objs.size f cd)) (leaving (envOfC qual scope s.heap.objs.size f cd) e) (fun _ s''=>CX outer H s E e s'') (fun e' s''=>CX outer H s E e' s'') s'
theorem qP7 {sc:Scope} {n:Nat} {x:Str} (h:sc.names.lookup x=some .cell):∃ c,(cellsFrom n sc.names []).lookup x=some c:=by
 have q:=A20 sc.names n [] (.inl h);exact z8.mp q
theorem qS8 {CX:CXT} {P:Program} {w:World} {K:PySem.W.Frag} {mg:Str->Option Value} {base:Heap} {N ps:List Str} {qual:Str} {scope:Scope} {f:Addr} {cd:Value} {A:Around} {outer:List Env} {s s1:Shared} {H:Hp} {E:XK} {us:List Value} {vs:List V}
  (S:FnScope N ps scope) (hd:A.handled=none) (e0:Env0 P w K mg base A outer s H) (hl:vs.length=ps.length) (r:Vals vs us)
  (x:InCallC s s.heap.objs.size (bindL (envOfC qual scope s.heap.objs.size f cd).kindOf (ps.zip us) fun _=>none) (cellsFrom (s.heap.objs.size+1) scope.names []) (bindC (envOfC qual scope s.heap.objs.size f cd).kindOf (ps.zip us) fun _=>none) s1) :
  Inv (cxOf CX P w K mg base N qual scope f cd A outer s H E) [] (start N vs) H s1:=by
 have hpl:ps.length<=N.length:=by have:=congrArg A58 S.pre;rw [B9] at this;lia
 obtain ⟨h1,tk,rfl,hk⟩:=x.done;have noA:∀ b:Addr,b ∉ (cxOf CX P w K mg base N qual scope f cd A outer s H E).ex:=fun b z=>absurd (show b ∈ ([]:List Addr) from z) (by simp)
 refine ⟨⟨e0.mod,S.kind,rfl,rfl,A6 _,fun y z c h1 h2=>?_,fun y hy=>?_,fun y c _ h=>?_,fun _=>hd,Around.frames_deeper e0.frames,.inr ⟨rfl,rfl⟩,fun b z=>absurd z (noA b),e0.bs,e0.bsz,fun b _ _=>noA b,fun b z=>absurd z (noA b),e0.funs,e0.frf⟩,
  rfl,e0.bare,Un.kept hk,⟨_,x.toInCall.ns,fun i y v h1 h2 h3=>?_⟩,fun y c h=>⟨_,x.cell y c h⟩,e0.hok.fresh (A6 _),fun y c h=>?_,fun p hp=>absurd (show p ∈ ([]:List (Addr × Obj)) from hp) (by simp),e0.hok.kept hk,?_⟩
 ·exact name_of_addr x.apart (P6 h1) (P6 h2)
 ·have hy:scope.names.lookup y=some .cell\/scope.names.lookup y=some .free:=hy;rcases hy with hy | hy
  ·exact qP7 hy
  ·exact absurd rfl (S.nofree _ (P6 hy))
 ·exact T6 (x.above y c (P6 h))
 ·have hi:i<vs.length:=by
   unfold start at h2;by_cases hi:i<vs.length
   ·exact hi
   ·rw [T0 (by simpa using hi)] at h2
    rw [List.getElem?_replicate] at h2
    split at h2 <;> cases h2
  have ha:vs[i]?=some v:=by
   unfold start at h2;rw [O9 (by simpa using hi),B5] at h2
   cases e:vs[i]? with
   | none=>rw [e] at h2;cases h2
   | some a=>rw [e] at h2;cases h2;rfl
  obtain ⟨u,hu,rv⟩:=r.get ha;have hp:ps[i]?=some y:=by
   rw [<- S.pre,z9 (by lia)];exact h1
  have ndP:ps.Nodup:=by rw [<- S.pre];exact S.nd.sublist (b0 _ _)
  refine ⟨u,rv,?_⟩;rcases S.par y (C3 hp) with k | k
  ·exact .inl ⟨k,qMN ndP hp hu k⟩
  ·obtain ⟨c,e⟩:=qP7 (n:=s.heap.objs.size+1) k;refine .inr ⟨.inl k,c,e,?_⟩;have q:=x.cell y c e;rw [qMP ndP hp hu (by show scope.names.lookup y ≠ _;rw [k];decide)] at q
   exact q
 ·exact e0.hok.fresh (T6 (x.above y c (P6 h)))
 ·unfold start;show _=N.length;rw [A7,A0,List.length_replicate]
  lia
theorem qb2 {CX:CXT} {P:Program} {w:World} {K:PySem.W.Frag} {mg:Str->Option Value} {base:Heap} {k:Nat} {f:Addr} {name qual:Str} {params:Arguments} {body:List Stmt} {scope:Scope} {dV kV doc pm cdv ct oc:Value} {an od:Option Addr}
  {osl:Array (Option Value)} {N ps:List Str} {sp:Sp} (lk:K.lookup f=some ⟨oc,od,.func (T8 name qual params body scope dV kV doc pm an cdv ct),osl⟩) (hcd:x6 K cdv qual=true) (S:FnScope N ps scope)
  (len:∀ vs H Q E,sp vs H Q E->vs.length=ps.length)
  (hbody:∀ (A:Around) (outer:List Env) (s:Shared) (H:Hp) (vs:List V) (Q:VK) (E:XK),Room k (A.deeper (envOfC qual scope s.heap.objs.size f cdv))->sp vs H Q E->
   ∃ t,PSs (cxOf CX P w K mg base N qual scope f cdv A outer s H E) body t/\t { nx:=fun _ H'=>Q .non H',rt:=Q } (start N vs) H) :
  FnOk P w K mg base CX (k+1) f (T8 name qual params body scope dV kV doc pm an cdv ct) ps sp:=by
 refine ⟨len,fun A outer s H args us vs Q E hr e0 hb r hsp=>?_⟩;have hl:=len _ _ _ _ hsp;have KX:K.In s.heap:=e0.mod.kin.keeps fun b o e=>(e0.bs b o e).1;have lim:s.heap.NoLimit:=e0.mod.nolimit.keeps fun b o e=>(e0.bs b o e).1;have hkind:∀ y ∈ ps.zip us,scope.names.lookup y.1=some .local\/(scope.names.lookup y.1=some .cell/\((cellsFrom (s.heap.objs.size+1) scope.names []).lookup y.1).isSome=true):=fun ⟨n,v⟩ hy=>by
  rcases S.par n (A27 hy).1 with q | q
  ·exact .inl q
  ·exact .inr ⟨q,A20 _ _ _ (.inl q)⟩
 refine codeAny_call_function hr.depth (KX _ _ lk) rfl S.co S.gen rfl (PySem.W.codeRec_of KX hcd) (hb _ _ _ _ ?_);refine wpAny_newFunctionEnv_cells S.kind hkind fun env he s1 x=>?_;subst he;refine ⟨lim.keeps x.toInCall.keep,codeAny_func ?_⟩;obtain ⟨t,ht,hq⟩:=hbody A outer s H vs Q E (hr.deeper _) hsp;have I:Inv (cxOf CX P w K mg base N qual scope f cdv A outer s H E) [] (start N vs) H s1:=qS8 S hr.hd e0 hl r x;refine wpAny_mono (ht [] s1 (start N vs) H _ I hq) (fun fl s' hs=>?_) fun e s' hs=>hs;have fin:∀ {σ':St} {H':Hp} {v:V} {u:Value},Inv (cxOf CX P w K mg base N qual scope f cdv A outer s H E) [] σ' H' s'->RelV v u->Q v H'->CE outer P w H s Q u s':=
  fun {σ' H' v u} J rv q=>⟨v,H',J.os,J.bare,J.base,J.hok,rv,q⟩
 cases fl with
 | ret u=>
  obtain ⟨v,σ',H',J,rv,q⟩:=hs;exact fin J rv q
 | next=>
  obtain ⟨σ',H',J,q⟩:=hs;exact fin (v:=V.non) (u:=L7) J rfl q
 | brk=>
  obtain ⟨_,_,_,q⟩:=hs;exact a9 q
 | cont=>
  obtain ⟨_,_,_,q⟩:=hs;exact a9 q
end L2
namespace L2
open PySem PySem.Spec PyProof.Rows
section
variable {X:Cx} {x:Str} {p pos:Pos} {e:Expr} {es:List Expr} {t:TA} {id T:String} {r:List V->Hp->VK->Prop}
def tCB (r:List V->Hp->VK->Prop) (t:TA):TE:=fun σ H Q=>t σ H fun vs H1=>r vs H1 Q
theorem qA9 (hc:qCF X (.builtin id) r) (hg:Gl X x) (hm:X.mg x=none) (hv:bootBuiltins x=some (.builtin id)) (ha:PA X (e::es) t) (hn:x ≠ "__name__":=by decide) (hdb:(x == ("__debug__" : Str))=false:=by decide)
  (he:starEach (e::es) X.env=(false,eval e X.env)::starEach es X.env:=by rfl) (hpl:(backTo pos (starEach es X.env)).any (·.1)=false:=by rfl):PE X (.Call (.Name x p) (e::es) [] pos) (tCB r t):=by
 intro Ab s σ H Q I h;refine wpAny_Call_Name_kw (qG4 I hg hm hv ?_ hn hdb);exact PyProof.Rows.callWith_builtin1 (thn (ha pos Ab s σ H _ I h) fun us s1 ⟨vs,H1,I1,r1,q1⟩=>hc Ab s1 σ H1 vs us Q I1 r1 q1) he hpl
theorem qAD (hc:qCF X (.type T) r) (hg:Gl X x) (hm:X.mg x=none) (hv:bootBuiltins x=some (.type T)) (ha:PA X (e::es) t) (hn:x ≠ "__name__":=by decide) (hdb:(x == ("__debug__" : Str))=false:=by decide)
  (he:starEach (e::es) X.env=(false,eval e X.env)::starEach es X.env:=by rfl) (hpl:(backTo pos (starEach es X.env)).any (·.1)=false:=by rfl):PE X (.Call (.Name x p) (e::es) [] pos) (tCB r t):=by
 intro Ab s σ H Q I h;refine wpAny_Call_Name_kw (qG4 I hg hm hv ?_ hn hdb);exact L4 (thn (ha pos Ab s σ H _ I h) fun us s1 ⟨vs,H1,I1,r1,q1⟩=>hc Ab s1 σ H1 vs us Q I1 r1 q1) he hpl
end
end L2
namespace HT
open PySem PyProof.Rows
noncomputable def lexLt:List Int->List Int->Bool
 | [],[]=>false
 | [],_::_=>true
 | _::_,[]=>false
 | x::xs,y::ys=>if x=y then lexLt xs ys else decide (x<y)
section
open PySem.SeqAt
open PySem.AutoSeq1 (wpAny_loadPart')
open PySem.MeetsSeq PySem.MeetsSeq2 PySem.MeetsSeq3
end
section
variable {prog:Program} {w:World} {A:Around} {E:Value->Shared->Prop} {s:Shared}
theorem cat_tup {t b:Addr} {vs ws:List Value} {Q:Value->Shared->Prop} (ht:IsTup s.heap t vs.toArray) (hb:IsTup s.heap b ws.toArray) (hv:vs ≠ [])
  (h1:ws=[]->Q (.ref t) s) (h2:ws ≠ []->Q (.ref s.heap.objs.size) { s with heap:=s.heap.push { cls:=.type "tuple",data:=.seq (vs++ws).toArray } })
  (hsz:vs.length+ws.length<=sizeLine):wpAny (model prog w) A (binaryOp .Add (.ref t) (.ref b)) Q E s:=by
 obtain ⟨⟨cls,dd,data,sl⟩,ho,hc,n,hd⟩:=id ht;obtain ⟨⟨cls2,dd2,data2,sl2⟩,ho2,hc2,n2,hd2⟩:=id hb;simp only at hc hd hc2 hd2;subst hc hd hc2 hd2;have e:vs.toArray++ws.toArray=(vs++ws).toArray:=by simp
 by_cases hw:ws=[]
 ·exact concat_meets ⟨_,ho,rfl⟩ ⟨_,ho2,rfl⟩ noFill_tuple_add seq_tuple_add Y9 X6 (W7 _ _)
   (tuple_addW1 t b vs.toArray ws.toArray n n2 dd dd2 sl sl2 (by simpa using hv) (by simp [hw])) ⟨ho,ho2,h1 hw⟩
 ·refine concat_meets ⟨_,ho,rfl⟩ ⟨_,ho2,rfl⟩ noFill_tuple_add seq_tuple_add Y9 X6 (W7 _ _)
   (tuple_addW2 t b vs.toArray ws.toArray n n2 dd dd2 sl sl2 (by simpa using hv) (by simpa using hw) (by rw [C0,C0];exact hsz)) ⟨ho,ho2,?_⟩
  rw [e];exact h2 hw
noncomputable def sIx (n d:Nat):Option Int->Nat
 | none=>d
 | some v=>if v<0 then (v+(n:Int)).toNat else min v.toNat n
theorem sIx_none (n d:Nat):sIx n d none=d:=rfl
theorem sIx_nat (n d k:Nat):sIx n d (some (k:Int))=min k n:=by
 show (if (k:Int)<0 then ((k:Int)+(n:Int)).toNat else min (k:Int).toNat n)=min k n
 rw [if_neg (by lia),F0]
theorem qYT (n d:Nat) (hd:d<=n) (o:Option Int):sIx n d o<=n:=by
 cases o with
 | none=>exact hd
 | some v=>
  show (if v<0 then (v+(n:Int)).toNat else min v.toNat n)<=n
  by_cases hv:v<0
  ·rw [if_pos hv];lia
  ·rw [if_neg hv];exact Nat.min_le_right _ _
theorem qT9 (v:Int) (n d:Nat):(if v<0 then max (v+(n:Int)) 0 else min v (n:Int))=((sIx n d (some v):Nat):Int):=by
 show (if v<0 then max (v+(n:Int)) 0 else min v (n:Int))=(((if v<0 then (v+(n:Int)).toNat else min v.toNat n):Nat):Int)
 by_cases hv:v<0
 ·simp only [if_pos hv];lia
 ·simp only [if_neg hv];lia
theorem qQN (lo hi:Option Int) (n:Nat):c6 lo hi 1 (n:Int)=(((sIx n 0 lo:Nat):Int),((sIx n n hi:Nat):Int)):=by
 have h1:¬ ((1:Int)<0):=by lia
 unfold c6;simp only [h1,if_false];refine Prod.ext ?_ ?_
 ·cases lo with
  | none=>rfl
  | some v=>exact qT9 v n 0
 ·cases hi with
  | none=>rfl
  | some v=>exact qT9 v n n
theorem qPX (i j:Nat):L9 (i:Int) (j:Int) 1=j - i:=by
 unfold L9;have h1:(1:Int) > 0:=by lia
 simp only [h1,if_true,Int.ediv_one]
 split <;> lia
theorem qJ5 {v:Value} {o:Option Int} {Q:Option Int->Shared->Prop} (p:IsPart v o) (h:Q o s):wpAny (model prog w) A (Builtin.Slice.slicePartIndex v) Q E s:=by
 cases p with
 | none=>exact slicePart_none h
 | int i t=>exact slicePart_int h
theorem qEG {sl:Addr} {vl vu:Value} {lo hi:Option Int} {n:Nat} {Q:Int × Int × Nat->Shared->Prop} (hs:s.heap.IsSliceOf sl vl vu .none) (pl:IsPart vl lo) (pu:IsPart vu hi)
  (h:Q (((sIx n 0 lo:Nat):Int),1,sIx n n hi - sIx n 0 lo) s):wpAny (model prog w) A (T1 (.ref sl) (pure (n:Int))) Q E s:=by
 obtain ⟨os,hos,hcs,hds⟩:=id hs;unfold T1 x8;refine wpAny_bind (wpAny_bind (wpAny_field hos hds (x:=vl) rfl (wpAny_bind (wpAny_field hos hds (x:=vu) rfl (wpAny_bind (wpAny_field hos hds (x:=.none) rfl (wpAny_pure ?_)))))));refine wpAny_bind (slicePart_none ?_);show wpAny _ _ (if ((1:Int) == 0)=true then _ else _) _ _ s
 rw [if_neg (by decide)]
 refine wpAny_bind (qJ5 pl (wpAny_bind (qJ5 pu (wpAny_bind (wpAny_pure ?_)))));show wpAny _ _ (match c6 lo hi 1 (n:Int) with | (lo,hi)=>pure (lo,(1:Int),L9 lo hi 1)) _ _ s
 rw [qQN lo hi n];show wpAny _ _ (pure (((sIx n 0 lo:Nat):Int),(1:Int),L9 ((sIx n 0 lo:Nat):Int) ((sIx n n hi:Nat):Int) 1)) _ _ s;rw [qPX];exact wpAny_pure h
theorem qUJ (xs:Array Value) (i k:Nat):((E6 k).filterMap fun (m:Nat)=>xs[((i:Int)+(m:Int) * 1).toNat]?).toArray=((xs.toList.drop i).take k).toArray:=by
 have e:(fun (m:Nat)=>xs[((i:Int)+(m:Int) * 1).toNat]?)=fun m=>xs[i+m]?:=by
  funext m
  have:((i:Int)+(m:Int) * 1).toNat=i+m:=by lia
  rw [this]
 rw [e];have:=pick_run xs i k;rw [A72] at this;have e2:((fun x=>xs[x]?) ∘ fun x=>i+x)=fun m=>xs[i+m]?:=rfl;rw [e2] at this;rw [this]
theorem getItem_tuple_cut {t sl:Addr} {items:Array Value} {vl vu:Value} {lo hi:Option Int} {Q:Value->Shared->Prop} (ht:IsTup s.heap t items) (hs:s.heap.IsSliceOf sl vl vu .none) (pl:IsPart vl lo) (pu:IsPart vu hi)
  (hw:¬ (sIx items.size 0 lo=0/\sIx items.size items.size hi=items.size))
  (h:Q (.ref s.heap.objs.size) { s with heap:=s.heap.push { cls:=.type "tuple",data:=.seq ((items.toList.drop (sIx items.size 0 lo)).take (sIx items.size items.size hi - sIx items.size 0 lo)).toArray } })
  (hsz:items.size<=sizeLine):wpAny (model prog w) A (getItem (.ref t) (.ref sl)) Q E s:=by
 have htake:sizeOk (.seq ((items.toList.drop (sIx items.size 0 lo)).take (sIx items.size items.size hi - sIx items.size 0 lo)).toArray):=by
  show ((items.toList.drop (sIx items.size 0 lo)).take (sIx items.size items.size hi - sIx items.size 0 lo)).toArray.size<=sizeLine;rw [C0,B9,F1,B2]
  lia
 have hj:sIx items.size items.size hi<=items.size:=qYT _ _ (A6 _) hi;obtain ⟨os,hos,hcs,hds⟩:=id hs;have hTs:s.TypeIs (.ref sl) "slice":=⟨os,hos,hcs⟩;unfold getItem
 try with_reducible refine wpAny_holding ?_
 first | refine wpAny_bind (wpAny_pure ?_) | skip
 refine wpAny_bind (wpAny_sequenceKey ht.typeIs (by decide) ?_)
 refine wpAny_bind (wpAny_callSpecial?_slot (name:=D2 "__getitem__") ht.typeIs E3
  (wpAny_call_entry E3 ht.typeIs entry_tuple_getitem ?_ (args_tuple_getitem _ _)))
 show wpAny _ _ (T3 (.ref t) >>= _) _ _ s;refine wpAny_bind (tupleItemsOf_ ht ?_);refine wpAny_bind (wpAny_typeOf hTs ?_);rw [if_pos (by decide)]
 refine wpAny_bind (qEG hs pl pu ?_);have hno:¬ ((((sIx items.size 0 lo:Nat):Int) == 0 && (1:Int) == 1 && (sIx items.size items.size hi - sIx items.size 0 lo) == items.size)=true):=by
  intro q;rw [O1,O1] at q;have q1:((sIx items.size 0 lo:Nat):Int)=0:=eq_of_beq q.1.1;have q2:sIx items.size items.size hi - sIx items.size 0 lo=items.size:=eq_of_beq q.2;exact hw ⟨by lia,by lia⟩
 show wpAny _ _ (if (((sIx items.size 0 lo:Nat):Int) == 0 && (1:Int) == 1 && (sIx items.size items.size hi - sIx items.size 0 lo) == items.size)=true then _ else _) _ _ s
 rw [if_neg hno,qUJ]
 first
  | exact wpAny_bind (m:=J8 _) (wpAny_newObj_type (wpAny_pure ⟨_,rfl,wpAny_pure h⟩) htake)
  | exact wpAny_bind (m:=J8 _) (wpAny_newObj_type (wpAny_bind (wpAny_pure (wpAny_pure ⟨_,rfl,wpAny_pure h⟩))) htake)
  | exact wpAny_bind (wpAny_bind (m:=J8 _) (wpAny_newObj_type (wpAny_pure (wpAny_pure ⟨_,rfl,wpAny_pure h⟩)) htake))
  | exact wpAny_bind (wpAny_bind (m:=J8 _) (wpAny_newObj_type (wpAny_pure ⟨_,rfl,wpAny_pure h⟩) htake))
end
end HT
namespace L2
open PySem PySem.Spec PyProof.Rows
abbrev TO:=St->Hp->(Option Int->Hp->Prop)->Prop
def PO (X:Cx) (e:Option Expr) (t:TO):Prop:=
 ∀ (Ab:List (Addr × Obj)) (s:Shared) (σ:St) (H:Hp) (Q:Option Int->Hp->Prop),Inv X Ab σ H s->t σ H Q->
  wpAny (model X.prog X.w) X.A (evalPart e X.env) (fun u s'=>∃ o H',Inv X Ab σ H' s'/\IsPart u o/\Q o H') X.xe s
def qWS:TO:=fun _ H Q=>Q none H
def qZY (t:TE):TO:=fun σ H Q=>t σ H fun x H1=>∃ i,x=.int i/\Q (some i) H1
theorem qGN {ns:List Int}:∀ {us:List Value},Vals (ns.map V.int) us->IntsAre us ns:=by
 induction ns with
 | nil=>intro us r;rw [A28] at r;cases r;exact .nil
 | cons n ns ih=>
  intro us r;rw [E5] at r;cases r with
  | cons r1 r2=>
   obtain ⟨t,e⟩:=r1;subst e;exact .cons n t (ih r2)
section
variable {X:Cx} {e:Expr} {te:TE} {lo hi:Option Expr} {tl th:TO} {pos p2:Pos}
theorem qE5:PO X none qWS:=by
 intro Ab s σ H Q I h;rw [evalPart_none];exact wpAny_pure ⟨none,H,I,.none,h⟩
theorem qCZ (h:PE X e te):PO X (some e) (qZY te):=by
 intro Ab s σ H Q I hw;rw [evalPart_some];refine thn (h Ab s σ H _ I hw) fun u s1 ⟨x,H1,I1,r1,q1⟩=>?_;obtain ⟨i,rfl,q⟩:=q1;obtain ⟨t,rfl⟩:=r1;exact ⟨some i,H1,I1,.int i t,q⟩
def SlR (X:Cx) (r:V->Option Int->Option Int->Hp->VK->Prop):Prop:=
 ∀ (Ab:List (Addr × Obj)) (s:Shared) (σ:St) (H:Hp) (x:V) (v vl vu:Value) (lo hi:Option Int) (sl:Addr) (Q:VK),Inv X Ab σ H s->RelV x v->s.heap.IsSliceOf sl vl vu .none->IsPart vl lo->IsPart vu hi->r x lo hi H Q->
  ∃ T id,typeLookup (.type T) "__getitem__" = pure (some (.builtin id))/\s.TypeIs v T/\wpAny (model X.prog X.w) X.A (getItem v (.ref sl)) (EP X Ab σ Q) X.xe s
def tSl (r:V->Option Int->Option Int->Hp->VK->Prop) (te:TE) (tl th:TO):TE:=fun σ H Q=>te σ H fun x H1=>tl σ H1 fun l H2=>th σ H2 fun u H3=>r x l u H3 Q
theorem qCR {r:V->Option Int->Option Int->Hp->VK->Prop} (hr:SlR X r) (he:PE X e te) (hl:PO X lo tl) (hu:PO X hi th):PE X (.Subscript e (.Slice lo hi none p2) pos) (tSl r te tl th):=by
 intro Ab s σ H Q I h;refine Subscript_ (thn (he Ab s σ H _ I h) fun v s1 ⟨x,H1,I1,r1,q1⟩=>?_);refine wpAny_Slice (thn (hl Ab s1 σ H1 _ I1 q1) fun vl s2 ⟨l,H2,I2,pl,q2⟩=>thn (hu Ab s2 σ H2 _ I2 q2) fun vu s3 ⟨u,H3,I3,pu,q3⟩=>?_);rw [evalPart_none];refine wpAny_pure ?_;have I4:Inv X Ab σ H3 { s3 with heap:=s3.heap.push { cls:=.type "slice",data:=.fields #[vl,vu,.none] } }:=I3.kept (t':=s3.toks) fun b ob q=>A4 _ q;obtain ⟨T,id,hT,ht,hg⟩:=hr Ab { s3 with heap:=s3.heap.push { cls:=.type "slice",data:=.fields #[vl,vu,.none] } } σ H3 x v vl vu l u s3.heap.objs.size Q I4 r1 (A73 ..) pl pu q3;show wpAny (model X.prog X.w) X.A (subscriptTail e (.Slice lo hi none p2) v (.ref s3.heap.objs.size)) (EP X Ab σ Q) X.xe { s3 with heap:=s3.heap.push { cls:=.type "slice",data:=.fields #[vl,vu,.none] } };exact tail_any (ops:=[.ref s3.heap.objs.size,v]) ht hT hg (by with_unfolding_all rfl)
noncomputable def cutV (xs:List V) (lo hi:Option Int):List V:=(xs.drop (HT.sIx xs.length 0 lo)).take (HT.sIx xs.length xs.length hi - HT.sIx xs.length 0 lo)
theorem qIH (xs:List V) (lo hi:Option Int):(cutV xs lo hi).length<=xs.length:=by
 unfold cutV;rw [B9,F1]
 lia
def rSlT (K:PySem.W.Frag):V->Option Int->Option Int->Hp->VK->Prop:=fun x lo hi H Q=>∃ a xs,x=.ref a/\SqT K H a xs/\
 ¬ (HT.sIx xs.length 0 lo=0/\HT.sIx xs.length xs.length hi=xs.length)/\∀ p,H p=none->Q (.ref p) (Ag H p (.tup (cutV xs lo hi)))
theorem qVU:SlR X (rSlT X.K):=by
 intro Ab s σ H x v vl vu lo hi sl Q I rx hs pl pu h;obtain ⟨a,xs,rfl,hx,hw,q⟩:=h;cases rx;obtain ⟨its,r,ht,hz⟩:=I.tuple hx;have hlen:its.toArray.size=xs.length:=by rw [C0];exact r.length.symm
 refine ⟨"tuple",_,E3.lookup,ht.typeIs,?_⟩;refine HT.getItem_tuple_cut ht hs pl pu (by rw [hlen];exact hw) ?_ (by rw [hlen];exact hz)
 rw [hlen];refine ⟨.ref s.heap.objs.size,_,I.laid (t':=s.toks) (o:=.tup (cutV xs lo hi)) (fun b ob q=>A4 _ q) (A6 _) ?_,rfl,q _ (I.hok.fresh (A6 _))⟩;exact ⟨J6 (qIH xs lo hi) hz,_,(r.drop (HT.sIx xs.length 0 lo)).take (HT.sIx xs.length xs.length hi - HT.sIx xs.length 0 lo),TupB.new _ _⟩
def qaH (K:PySem.W.Frag):R2:=fun x y H Q=>∃ a b xs ys,x=.ref a/\y=.ref b/\SqT K H a xs/\SqT K H b ys/\xs ≠ []/\xs.length+ys.length<=sizeLine/\
 (ys=[]->Q (.ref a) H)/\(ys ≠ []->∀ p,H p=none->Q (.ref p) (Ag H p (.tup (xs++ys))))
theorem Vals.nil_iff {xs:List V} {us:List Value} (r:Vals xs us):us=[] ↔ xs=[]:=by
 cases r with
 | nil=>simp
 | cons _ _=>simp
theorem qRS:OpR X (binaryOp .Add) (qaH X.K):=by
 intro Ab s σ H x y v u Q I rx ry h;obtain ⟨a,b,xs,ys,rfl,rfl,ha,hb,hx,hz,q1,q2⟩:=h;cases rx;cases ry;obtain ⟨its,r1,p1,_⟩:=I.tuple ha;obtain ⟨its2,r2,p2,_⟩:=I.tuple hb;refine HT.cat_tup p1 p2 (fun z=>hx (r1.nil_iff.mp z)) (fun z=>⟨.ref a,H,I,rfl,q1 (r2.nil_iff.mp z)⟩) (fun z=>?_) (by rw [<- r1.length,<- r2.length];exact hz)
 refine ⟨.ref s.heap.objs.size,_,I.laid (t':=s.toks) (o:=.tup (xs++ys)) (fun b ob q=>A4 _ q) (A6 _) ?_,rfl,q2 (fun w=>z (r2.nil_iff.mpr w)) _ (I.hok.fresh (A6 _))⟩;exact ⟨by rw [A7];exact hz,_,r1.append r2,TupB.new _ _⟩
end
end L2
namespace L2
open PySem PySem.Spec PyProof.Rows
noncomputable def ixN (n:Nat) (i:Int):Option Nat:=if 0<=i then (if i<n then some i.toNat else none) else if -(n:Int)<=i then some (i+n).toNat else none
noncomputable def atI {α:Type} (xs:List α) (i:Int):Option α:=(ixN xs.length i).bind fun j=>xs[j]?
theorem qS4 {n:Nat} {i:Int} {j:Nat} (h:ixN n i=some j):seqIndex? i n=some j/\j<n/\-(n:Int)<=i/\i<n:=by
 unfold ixN at h;by_cases h0:0<=i
 ·rw [if_pos h0] at h;by_cases h1:i<n
  ·rw [if_pos h1] at h;have e:i.toNat=j:=I0 h;exact ⟨by rw [seqIndex_of h0 h1,e],by lia,by lia,h1⟩
  ·rw [if_neg h1] at h;cases h
 ·rw [if_neg h0] at h;by_cases h1 : -(n:Int)<=i
  ·rw [if_pos h1] at h;have e:(i+n).toNat=j:=I0 h;exact ⟨by rw [seqIndex_neg (by lia) h1,e],by lia,h1,by lia⟩
  ·rw [if_neg h1] at h;cases h
theorem qTO {α:Type} {xs:List α} {i:Int} {v:α} (h:atI xs i=some v):∃ j,seqIndex? i xs.length=some j/\xs[j]?=some v/\j<xs.length/\-(xs.length:Int)<=i/\i<xs.length:=by
 unfold atI at h;cases e:ixN xs.length i with
 | none=>rw [e] at h;cases h
 | some j=>
  rw [e] at h;obtain ⟨h1,h2,h3,h4⟩:=qS4 e;exact ⟨j,h1,h,h2,h3,h4⟩
theorem qTN {α:Type} {xs:List α} {j:Nat} {v:α} (h:xs[j]?=some v):atI xs (j:Int)=some v:=by
 have hj:j<xs.length:=(A5.mp h).1;have e:ixN xs.length (j:Int)=some j:=by
  unfold ixN;rw [if_pos (by lia),if_pos (by lia)];simp
 unfold atI;rw [e];exact h
def qY2 (b:Expr):Prop:=∀ o i,subscripted b false o i=operate [o,i] (getItem o i)
def IxR (X:Cx) (r:R2):Prop:=
 ∀ (value slice:Expr) (Ab:List (Addr × Obj)) (s:Shared) (σ:St) (H:Hp) (x y:V) (v u:Value) (Q:VK),Inv X Ab σ H s->RelV x v->RelV y u->r x y H Q->
  subscripted slice false v u=operate [v,u] (getItem v u)->wpAny (model X.prog X.w) X.A (subscriptTail value slice v u) (EP X Ab σ Q) X.xe s
def MtR (X:Cx) (id:String) (r:V->List V->Hp->VK->Prop):Prop:=
 ∀ (Ab:List (Addr × Obj)) (s:Shared) (σ:St) (H:Hp) (x:V) (xs:List V) (v:Value) (us:List Value) (Q:VK),Inv X Ab σ H s->RelV x v->Vals xs us->r x xs H Q->
  wpAny (model X.prog X.w) X.A (call (.builtin id) (v::us)) (EP X Ab σ Q) X.xe s
section
variable {X:Cx} {a b:Expr} {ta tb:TE} {pos:Pos}
theorem qBL {r:R2} (hr:IxR X r) (ha:PE X a ta) (hb:PE X b tb) (hs:qY2 b):PE X (.Subscript a b pos) (tOp r ta tb):=by
 intro Ab s σ H Q I h;exact Subscript_ (binT ha hb I h fun v u s2 x y H2 I2 rx ry q=>hr a b Ab s2 σ H2 x y v u Q I2 rx ry q (hs _ _))
def rIxL (K:PySem.W.Frag):R2:=fun x y H Q=>∃ p xs i v,x=.ref p/\y=.int i/\SqL K H p xs/\atI xs i=some v/\Q v H
def rIxT (K:PySem.W.Frag):R2:=fun x y H Q=>∃ p xs i v,x=.ref p/\y=.int i/\SqT K H p xs/\atI xs i=some v/\Q v H
theorem qC1:IxR X (rIxL X.K):=by
 intro value slice Ab s σ H x y v u Q I rx ry h hs;obtain ⟨p,xs,i,z,rfl,rfl,hq,he,q⟩:=h;cases rx;obtain ⟨t,rfl⟩:=ry;obtain ⟨its,r,pl,hz⟩:=I.list hq;obtain ⟨j,h1,h2,h3,h4,h5⟩:=qTO he;obtain ⟨w,ew,rw'⟩:=r.get h2;have hl:=r.length;have hn:=qOT;have fin:EP X Ab σ Q w s:=⟨z,H,I,rw',q⟩;by_cases h0:0<=i
 ·have hj:i.toNat=j:=by
   rw [seqIndex_of h0 h5] at h1;exact I0 h1
  exact item_listR pl.isList h0 (by lia) (by rw [hj];simpa using ew) fin hs
 ·have hj:(i+(its.toArray.size:Int)).toNat=j:=by
   rw [seqIndex_neg (by lia) h4] at h1
   rw [C0,<- hl];exact I0 h1
  exact subscriptTail_builtinR (x:=w) pl.isList.typeIs slot_list_getitem.lookup
   (wpAny_getItem_list_neg (Q:=fun r s'=>r=w/\EP X Ab σ Q r s') pl.isList (by lia) (by rw [C0] <;> lia) (by lia) (by rw [hj];simpa using ew) ⟨rfl,fin⟩) hs
theorem qC8:IxR X (rIxT X.K):=by
 intro value slice Ab s σ H x y v u Q I rx ry h hs;obtain ⟨p,xs,i,z,rfl,rfl,hq,he,q⟩:=h;cases rx;obtain ⟨t,rfl⟩:=ry;obtain ⟨its,r,pl,hz⟩:=I.tuple hq;obtain ⟨j,h1,h2,h3,h4,h5⟩:=qTO he;obtain ⟨w,ew,rw'⟩:=r.get h2;have hl:=r.length;have hn:=qOT;have fin:EP X Ab σ Q w s:=⟨z,H,I,rw',q⟩;exact subscriptTail_builtinR (x:=w) pl.typeIs slot_tuple_getitem.lookup
  (getItem_tuple (j:=j) (Q:=fun r s'=>r=w/\EP X Ab σ Q r s') pl (by lia) (by lia) (by rw [C0,<- hl];exact h1) (by simpa using ew) ⟨rfl,fin⟩) hs
theorem qQ5 (its:List Value) (n j:Nat) (u:Value):i0 (·.setIfInBounds j u) { cls:=.type "list",data:=.seq its.toArray n }={ cls:=.type "list",data:=.seq (its.set j u).toArray n }:=by
 simp [i0]
theorem Inv.lst {Ab:List (Addr × Obj)} {σ:St} {H:Hp} {s:Shared} {p:Addr} {xs:List V} (I:Inv X Ab σ H s) (h:H p=some (.lst xs)) :
  ∃ (its:List Value) (n:Nat),Vals xs its/\s.heap.get? p=some { cls:=.type "list",data:=.seq its.toArray n }/\xs.length<=sizeLine:=by
 obtain ⟨z,its,n,r,e⟩:=I.hok p _ h;exact ⟨its,n,r,e,z⟩
theorem Inv.lstUpd {Ab:List (Addr × Obj)} {σ:St} {H:Hp} {s:Shared} {p:Addr} {xs ys:List V} {its its':List Value} {n n':Nat} {f:Obj->Obj} (I:Inv X Ab σ H s) (h:H p=some (.lst xs))
  (ho:s.heap.get? p=some { cls:=.type "list",data:=.seq its.toArray n }) (hf:f { cls:=.type "list",data:=.seq its.toArray n }={ cls:=.type "list",data:=.seq its'.toArray n' }) (r:Vals ys its') (hz:ys.length<=sizeLine) (t:Nat) :
  Inv X Ab σ (Ag H p (.lst ys)) { s with heap:=s.heap.update p f,toks:=t }:=by
 have e:(s.heap.update p f).get? p=some { cls:=.type "list",data:=.seq its'.toArray n' }:=by
  rw [L5 f ho (by rw [hf] <;> rfl),hf]
 refine I.write (x:=p) (e:=p) (by rw [h];trivial) (.inl rfl) (fun b u hb q=>(J1 _ _ (J4 hb)).trans q) ⟨_,e⟩ ?_
 exact ⟨hz,its',n',r,e⟩
def qaF:V->V->V->Hp->(Hp->Prop)->Prop:=fun o i v H Q=>∃ p xs k j,o=.ref p/\i=.int k/\H p=some (.lst xs)/\ixN xs.length k=some j/\Q (Ag H p (.lst (xs.set j v)))
theorem qK2:PSet X qaF:=by
 intro Ab s σ H o i v ov iv u Q I ro ri rv h;obtain ⟨p,xs,k,j,rfl,rfl,hp,hj,q⟩:=h;cases ro;obtain ⟨t,rfl⟩:=ri;obtain ⟨its,n,r,ho,hz⟩:=I.lst hp;obtain ⟨h1,h2,h3,h4⟩:=qS4 hj;have hl:=r.length;have hn:=qOT;have I':Inv X Ab σ (Ag H p (.lst (xs.set j v))) { s with heap:=s.heap.update p (i0 (·.setIfInBounds j u)) }:=
  I.lstUpd hp ho (qQ5 its n j u) (r.set rv j) (by rw [A29];exact hz) s.toks
 by_cases h0:0<=k
 ·have hk:k.toNat=j:=by
   rw [seqIndex_of h0 h4] at h1;exact I0 h1
  exact PySem.W.ki_setAt ho h0 (by lia) (by rw [C0,<- hl];exact h4) (by rw [hk];exact ⟨_,I',q⟩)
 ·have hk:(k+(its.toArray.size:Int)).toNat=j:=by
   rw [seqIndex_neg (by lia) h3] at h1
   rw [C0,<- hl];exact I0 h1
  exact PySem.W.ki_setBack ho (by lia) (by rw [C0,<- hl];exact h3) (by lia) (by rw [hk];exact ⟨_,I',q⟩)
theorem qLJ (lo hi:Option Int) (n:Nat):(sliceBounds lo hi none n).1=((HT.sIx n 0 lo:Nat):Int)/\(sliceBounds lo hi none n).2.1=((HT.sIx n n hi:Nat):Int)/\(sliceBounds lo hi none n).2.2=1:=by
 refine ⟨?_,?_,rfl⟩
 ·cases lo with
  | none=>simp [sliceBounds,HT.sIx]
  | some i=>
   simp only [sliceBounds,HT.sIx,B09,show (1:Int) > 0 by decide,if_true]
   by_cases h:i<0
   ·simp only [h,if_true] <;> lia
   ·simp only [h,if_false] <;> lia
 ·cases hi with
  | none=>simp [sliceBounds,HT.sIx]
  | some i=>
   simp only [sliceBounds,HT.sIx,B09,show (1:Int) > 0 by decide,if_true]
   by_cases h:i<0
   ·simp only [h,if_true] <;> lia
   ·simp only [h,if_false] <;> lia
theorem qK1 (its:List Value) (lo hi:Option Int):slicePick its.toArray lo hi none=((its.drop (HT.sIx its.length 0 lo)).take (HT.sIx its.length its.length hi - HT.sIx its.length 0 lo)).toArray:=by
 obtain ⟨h1,h2,h3⟩:=qLJ lo hi its.toArray.size;unfold slicePick;rw [h1,h2,h3];simp only [sliceRange_one,pick_run,C0] <;> rfl
def rSlL (K:PySem.W.Frag):V->Option Int->Option Int->Hp->VK->Prop:=fun x lo hi H Q=>∃ a xs,x=.ref a/\SqL K H a xs/\∀ p,H p=none->Q (.ref p) (Ag H p (.lst (cutV xs lo hi)))
theorem qGG:SlR X (rSlL X.K):=by
 intro Ab s σ H x v vl vu lo hi sl Q I rx hs pl pu h;obtain ⟨a,xs,rfl,hx,q⟩:=h;cases rx;obtain ⟨its,r,ht,hz⟩:=I.list hx;have hlen:=r.length;refine ⟨"list",_,slot_list_getitem.lookup,ht.isList.typeIs,?_⟩;refine wpAny_getItem_list_slice ht.isList hs pl pu .none (by simp) ?_ (by rw [C0] <;> lia)
 rw [qK1,<- hlen];refine ⟨.ref s.heap.objs.size,_,I.laid (t':=s.toks) (o:=.lst (cutV xs lo hi)) (fun b ob q=>A4 _ q) (A6 _) ?_,rfl,q _ (I.hok.fresh (A6 _))⟩;exact ⟨J6 (qIH xs lo hi) hz,_,0,(r.drop (HT.sIx xs.length 0 lo)).take (HT.sIx xs.length xs.length hi - HT.sIx xs.length 0 lo),A9 _ rfl⟩
noncomputable def qKJ:V->Bool
 | .non=>true
 | .bl _=>true
 | .int _=>true
 | .str _=>true
 | _=>false
noncomputable def eqV:V->V->Bool
 | .non,.non=>true
 | .bl a,.bl b=>a == b
 | .bl a,.int b=>(if a then 1 else 0) == b
 | .int a,.bl b=>a == (if b then 1 else 0)
 | .int a,.int b=>a == b
 | .str a,.str b=>a == b
 | _,_=>false
theorem qZL {A:Around} {s:Shared} {y x:V} {u v:Value} (ry:RelV y u) (rx:RelV x v) (fy:qKJ y=true) (fx:qKJ x=true):SeqAt.EqAt A s u v (eqV y x):=by
 cases y with
 | non=>
  cases ry;cases x with
  | non=>cases rx;exact B26 _
  | bl b=>cases rx;exact SeqAt.EqAt.none_bool b
  | int b=>obtain ⟨t,rfl⟩:=rx;exact SeqAt.EqAt.none_int b t
  | str b=>obtain ⟨t,rfl⟩:=rx;exact SeqAt.EqAt.none_str b t
  | _=>exact absurd (show false=true from fx) C1
 | bl a=>
  cases ry;cases x with
  | non=>cases rx;exact SeqAt.EqAt.bool_none a
  | bl b=>cases rx;exact SeqAt.EqAt.bool_bool a b
  | int b=>obtain ⟨t,rfl⟩:=rx;exact SeqAt.EqAt.bool_int a b t
  | str b=>obtain ⟨t,rfl⟩:=rx;exact SeqAt.EqAt.bool_str a b t
  | _=>exact absurd (show false=true from fx) C1
 | int a=>
  obtain ⟨t',rfl⟩:=ry;cases x with
  | non=>cases rx;exact SeqAt.EqAt.int_none a t'
  | bl b=>cases rx;exact SeqAt.EqAt.int_bool a t' b
  | int b=>obtain ⟨t,rfl⟩:=rx;exact w6 a t' b t
  | str b=>obtain ⟨t,rfl⟩:=rx;exact A68 a t' b t
  | _=>exact absurd (show false=true from fx) C1
 | str a=>
  obtain ⟨t',rfl⟩:=ry;cases x with
  | non=>cases rx;exact SeqAt.EqAt.str_none a t'
  | bl b=>cases rx;exact SeqAt.EqAt.str_bool a t' b
  | int b=>obtain ⟨t,rfl⟩:=rx;exact A69 a t' b t
  | str b=>obtain ⟨t,rfl⟩:=rx;exact SeqAt.EqAt.str_str a t' b t
  | _=>exact absurd (show false=true from fx) C1
 | _=>exact absurd (show false=true from fy) C1
noncomputable def eqU (x:V) (u:Value):Bool:=match u with
 | .none=>eqV .non x
 | .bool b=>eqV (.bl b) x
 | .int i _=>eqV (.int i) x
 | .str z _=>eqV (.str z) x
 | _=>false
theorem qWB {x y:V} {u:Value} (r:RelV y u) (f:qKJ y=true):eqU x u=eqV y x:=by
 cases y with
 | non=>cases r;rfl
 | bl b=>cases r;rfl
 | int i=>obtain ⟨t,rfl⟩:=r;rfl
 | str z=>obtain ⟨t,rfl⟩:=r;rfl
 | _=>exact absurd (show false=true from f) C1
theorem qNZ {x:V}:∀ {xs:List V} {us:List Value},Vals xs us->xs.all qKJ=true->us.any (eqU x)=xs.any fun y=>eqV y x
 | _,_,.nil,_=>rfl
 | y::xs,u::us,.cons r t,f=>by
  rw [i6,O1] at f;rw [b4,b4,qWB r f.1,qNZ t f.2]
theorem qKF {A:Around} {s:Shared} {x:V} {v:Value} (rx:RelV x v) (fx:qKJ x=true):∀ {xs:List V} {us:List Value},Vals xs us->xs.all qKJ=true->∀ u ∈ us,SeqAt.EqAt A s u v (eqU x u)
 | _,_,.nil,_=>fun u hu=>by cases hu
 | y::xs,u::us,.cons r t,f=>fun u' hu=>by
  rw [i6,O1] at f;rcases B6.mp hu with rfl | hu
  ·rw [qWB r f.1];exact qZL r rx f.1 fx
  ·exact qKF rx fx t f.2 u' hu
noncomputable def inV (x:V) (xs:List V):Bool:=xs.any fun y=>eqV y x
def rIn (K:PySem.W.Frag) (neg:Bool):R2:=fun x y H Q=>∃ p xs,y=.ref p/\(SqL K H p xs\/SqT K H p xs)/\qKJ x=true/\xs.all qKJ=true/\Q (.bl (if neg then !inV x xs else inV x xs)) H
theorem qDT:OpR X (compareOp .In) (rIn X.K false):=by
 intro Ab s σ H x y v u Q I rx ry h;obtain ⟨p,xs,rfl,hq,fx,fs,q⟩:=h;cases ry;rcases hq with hq | hq
 ·obtain ⟨its,r,pl,hz⟩:=I.list hq;refine SeqAt.in_listAt (eqU x) pl.isList (fun w hw=>qKF rx fx r fs w (by simpa using hw)) ⟨.bl _,H,I,rfl,?_⟩
  rw [show its.toArray.any (eqU x)=its.any (eqU x) by simp,qNZ r fs]
  exact q
 ·obtain ⟨its,r,pl,hz⟩:=I.tuple hq;refine SeqAt.in_tupleAt (eqU x) pl (fun w hw=>qKF rx fx r fs w (by simpa using hw)) ⟨.bl _,H,I,rfl,?_⟩
  rw [show its.toArray.any (eqU x)=its.any (eqU x) by simp,qNZ r fs]
  exact q
theorem qAA:qCF X (.builtin "len") (fun xs H Q=>∃ p ys,xs=[.ref p]/\(SqL X.K H p ys\/SqT X.K H p ys)/\Q (.int ys.length) H):=by
 intro Ab s σ H xs us Q I r h;obtain ⟨p,ys,rfl,hq,q⟩:=h;obtain ⟨u,rfl,rx⟩:=qDO r;cases rx;have hn:=qOT;rcases hq with hq | hq
 ·obtain ⟨its,r',pl,hz⟩:=I.list hq;have hlen:=r'.length;exact Calls.call_len_list pl.isList (by simp only [C0] <;> lia) ⟨.int ys.length,H,I.tok _,⟨s.toks+1,by rw [C0,hlen]⟩,q⟩
 ·obtain ⟨its,r',pl,hz⟩:=I.tuple hq;have hlen:=r'.length;exact len_tuple pl (by simp only [C0] <;> lia) ⟨.int ys.length,H,I.tok _,⟨s.toks+1,by rw [C0,hlen]⟩,q⟩
theorem qDF:qCF X (.type "list") (fun xs H Q=>∃ p ys,xs=[.ref p]/\(SqL X.K H p ys\/SqT X.K H p ys)/\∀ l,H l=none->Q (.ref l) (Ag H l (.lst ys))):=by
 intro Ab s σ H xs us Q I r h;obtain ⟨p,ys,rfl,hq,q⟩:=h;obtain ⟨u,rfl,rx⟩:=qDO r;cases rx;have fin:∀ (its:List Value),Vals ys its->ys.length<=sizeLine->∀ (h':Heap) (c':Nat),(∀ b o',s.heap.get? b=some o'->h'.get? b=some o')->
   h'.get? s.heap.objs.size=some { cls:=.type "list",dict:=none,data:=.seq its.toArray c',slots:=#[] }->EP X Ab σ Q (.ref s.heap.objs.size) { s with heap:=h' }:=fun its r' hz h' c' kp e=>
  ⟨.ref s.heap.objs.size,_,I.laid (t':=s.toks) kp (A6 _) (show ObjOk X.prog X.w _ h' _ (.lst ys) from ⟨hz,its,c',r',e⟩),rfl,q _ (I.hok.fresh (A6 _))⟩
 rcases hq with hq | hq
 ·obtain ⟨its,r',pl,hz⟩:=I.list hq;have hlen:=r'.length;obtain ⟨o,ho,hc,n,hd⟩:=pl.isList;exact call_list_seq p (.inl rfl) ho hc hd (fun h' c' kp e=>fin its r' hz h' c' kp e) (by simp only [C0] <;> lia)
 ·obtain ⟨its,r',pl,hz⟩:=I.tuple hq;have hlen:=r'.length;obtain ⟨o,ho,hc,n,hd⟩:=pl;exact call_list_seq p (.inr rfl) ho hc hd (fun h' c' kp e=>fin its r' hz h' c' kp e) (by simp only [C0] <;> lia)
theorem qAF:qCF X (.type "tuple") (fun xs H Q=>∃ p ys,xs=[.ref p]/\((SqL X.K H p ys/\∀ l,H l=none->Q (.ref l) (Ag H l (.tup ys)))\/(SqT X.K H p ys/\Q (.ref p) H))):=by
 intro Ab s σ H xs us Q I r h;obtain ⟨p,ys,rfl,h⟩:=h;obtain ⟨u,rfl,rx⟩:=qDO r;cases rx;rcases h with ⟨hq,q⟩ | ⟨hq,q⟩
 ·obtain ⟨its,r',pl,hz⟩:=I.list hq;have hlen:=r'.length;refine call_tuple_list pl.isList (fun h' kp=>?_) (by simp only [C0] <;> lia)
  have I1:Inv X Ab σ H { s with heap:=h' }:=I.kept (t':=s.toks) kp;have I2:Inv X Ab σ (Ag H h'.objs.size (.tup ys)) { s with heap:=h'.push { cls:=.type "tuple",data:=.seq its.toArray } }:=
   I1.laid (t':=s.toks) (fun b o e=>A4 _ e) (A6 _) (show ObjOk X.prog X.w _ _ _ (.tup ys) from ⟨hz,its,r',TupB.new _ _⟩)
  exact ⟨.ref h'.objs.size,_,I2,rfl,q _ (I1.hok.fresh (A6 _))⟩
 ·obtain ⟨its,r',pl,hz⟩:=I.tuple hq;exact call_tuple_same pl ⟨.ref p,H,I,rfl,q⟩
def tyV (K:PySem.W.Frag) (T:String) (x:V) (H:Hp):Prop:=match x with
 | .str _=>T = "str"
 | .int _=>T = "int"
 | .ref p=>(T = "list"/\∃ xs,SqL K H p xs)\/(T = "tuple"/\∃ o,K.lookup p=some o/\o.cls=.type "tuple"/\o.dict=none)\/
   (T = "dict"/\((∃ Af,H p=some (.dK Af))\/∃ Af,H p=some (.dT Af)))\/(T = "set"/\∃ S n,H p=some (.set S n))
 | _=>False
theorem qYC {Ab:List (Addr × Obj)} {σ:St} {H:Hp} {s:Shared} {T:String} {x:V} {v:Value} (I:Inv X Ab σ H s) (r:RelV x v) (ty:tyV X.K T x H) :
  s.TypeIs v T/\∀ a,v=.ref a->∃ ob,s.heap.get? a=some ob/\ob.dict=none:=by
 cases x with
 | str z=>
  obtain ⟨t,rfl⟩:=r;cases (show T = "str" from ty);exact ⟨typeIs_str s z t,fun _ e=>nomatch e⟩
 | int i=>
  obtain ⟨t,rfl⟩:=r;cases (show T = "int" from ty);exact ⟨typeIs_int s i t,fun _ e=>nomatch e⟩
 | ref p=>
  cases r;rcases ty with ⟨rfl,xs,hq⟩ | ⟨rfl,o,hk,hc,hd⟩ | ⟨rfl,hk⟩ | ⟨rfl,S,n,hk⟩
  ·obtain ⟨its,_,pl,_⟩:=I.list hq;refine ⟨pl.isList.typeIs,fun a e=>?_⟩;cases e;obtain ⟨o,n,e,c,hd,_⟩:=pl;exact ⟨o,e,hd⟩
  ·refine ⟨⟨o,I.kIn p o hk,hc⟩,fun a e=>?_⟩;cases e;exact ⟨o,I.kIn _ o hk,hd⟩
  ·have z:∃ o,s.heap.get? p=some o/\o.ExactDict:=by
    rcases hk with ⟨Af,hk⟩ | ⟨Af,hk⟩
    ·obtain ⟨_,_,_,_,o,_,_,e,ex,_⟩:=I.hok p _ hk;exact ⟨o,e,ex⟩
    ·obtain ⟨_,_,_,_,o,_,_,e,ex,_⟩:=I.hok p _ hk;exact ⟨o,e,ex⟩
   obtain ⟨o,e,ex⟩:=z;refine ⟨⟨o,e,ex.1⟩,fun a e2=>?_⟩;cases e2;exact ⟨o,e,ex.2.1⟩
  ·obtain ⟨o,_,_,_,e,ex,_⟩:=I.hok p _ hk;refine ⟨⟨o,e,ex.1⟩,fun a e2=>?_⟩;cases e2;exact ⟨o,e,ex.2.1⟩
 | _=>exact a9 ty
def tBM (K:PySem.W.Frag) (T:String) (r:V->List V->Hp->VK->Prop) (to:TE) (t:TA):TE:=fun σ H Q=>to σ H fun x H1=>tyV K T x H1/\t σ H1 fun xs H2=>r x xs H2 Q
variable {o e:Expr} {es:List Expr} {to:TE} {t:TA} {name:Str} {apos cpos:Pos} {T id:String} {r:V->List V->Hp->VK->Prop}
theorem qPY (pa:PlainAttrs T) (slot:Slot T name id) (hty:typeOf (.builtin id)=pure (.type "method_descriptor")) (hm:MtR X id r) (ho:PE X o to) (ha:PA X (e::es) t)
  (hbase:attributeBase o name X.env (eval o X.env)=eval o X.env:=by rfl)
  (hfew:((backTo cpos (starEach (e::es) X.env)).all (fun x=>!x.1) && (backToKw cpos (keywordEach [] X.env)).all (fun x=>x.1.isSome)
   && decide ((e::es).length+([]:List Keyword).length+(if ([]:List Keyword).isEmpty then 0 else 1)<30))=true:=by rfl)
  (hline:(apos.endLine == cpos.line)=true:=by rfl) (hs:starEach (e::es) X.env=(false,eval e X.env)::starEach es X.env:=by rfl) (hplain:(backTo cpos (starEach es X.env)).any (·.1)=false:=by rfl) :
  PE X (.Call (.Attribute o name apos) (e::es) [] cpos) (tBM X.K T r to t):=by
 intro Ab s σ H Q I h;refine wpAny_Call_method_late hbase hfew hline rfl (thn (ho Ab s σ H _ I h) fun v s1 ⟨x,H1,I1,r1,ty,q1⟩=>?_);obtain ⟨h1,h2⟩:=qYC I1 r1 ty;refine ⟨T,id,pa,slot,hty,h1,h2,?_⟩;have hA:=ha cpos Ab s1 σ H1 _ I1 q1;rw [hs] at hA ⊢;refine A21 (by show (false || (backTo cpos (starEach es X.env)).any (·.1))=false;rw [hplain] <;> rfl) (A47 ?_)
 exact thn hA fun us s2 ⟨vs,H2,I2,r2,q2⟩=>hm Ab s2 σ H2 x vs v us Q I2 r1 r2 q2
end
end L2
namespace L2
open PySem PySem.Spec PyProof.Rows
def MtM (X:Cx) (id:String) (r:V->List V->Hp->VK->Prop):Prop:=
 ∀ (Ab:List (Addr × Obj)) (s:Shared) (σ:St) (H:Hp) (x:V) (xs:List V) (v:Value) (us:List Value) (Q:VK),Inv X Ab σ H s->RelV x v->Vals xs us->r x xs H Q->
  wpAny (model X.prog X.w) X.A (call (.builtin id) (v::us)) (EP X Ab σ Q) X.xe s
theorem Vals.one:∀ {x:V} {us:List Value},Vals [x] us->∃ u,us=[u]/\RelV x u
 | _,_,.cons r .nil=>⟨_,rfl,r⟩
theorem Vals.two:∀ {x y:V} {us:List Value},Vals [x,y] us->∃ u v,us=[u,v]/\RelV x u/\RelV y v
 | _,_,_,.cons r (.cons q .nil)=>⟨_,_,rfl,r,q⟩
theorem Vals.reverse {xs:List V} {us:List Value} (h:Vals xs us):Vals xs.reverse us.reverse:=by
 induction h with
 | nil=>exact .nil
 | cons r t ih=>rw [A89,A89];exact Vals.append ih (.cons r .nil)
theorem Vals.rep {xs:List V} {us:List Value} (h:Vals xs us):∀ k:Nat,Vals (E4 k xs).flatten (E4 k us).flatten
 | 0=>.nil
 | k+1=>by
  rw [P7,P7,b5,b5];exact Vals.append h (Vals.rep h k)
theorem qMA (its:List Value):∀ (k:Nat) (acc:List Value),
  B39 (fun x1 x2=>x1++x2) acc.toArray (E4 k its.toArray)=(acc++(E4 k its).flatten).toArray
 | 0,acc=>by simp
 | k+1,acc=>by
  have e:acc.toArray++its.toArray=(acc++its).toArray:=by simp
  have e2:(acc++its)++(E4 k its).flatten=acc++(E4 (k+1) its).flatten:=by
   rw [P7,b5,j8]
  rw [<- e2,<- qMA its k (acc++its),<- e,P7,W8]
section
variable {X:Cx} {Ab:List (Addr × Obj)} {σ:St} {H:Hp} {s:Shared} {l b:Addr} {xs ys zs:List V}
theorem Inv.lset {its its':List Value} {n:Nat} {f:Array Value->Array Value} {t':Nat} (I:Inv X Ab σ H s) (hH:H l=some (.lst xs))
  (e:s.heap.get? l=some { cls:=.type "list",data:=.seq its.toArray n }) (hf:f its.toArray=its'.toArray) (hv:Vals ys its') (hz:ys.length<=sizeLine) :
  Inv X Ab σ (Ag H l (.lst ys)) { s with heap:=s.heap.update l (i0 f),toks:=t' }:=by
 have q:=PySem.IsL.update e f;rw [hf] at q;refine I.write (x:=l) (e:=l) (by rw [hH];exact trivial) (.inl rfl) (fun b' u hb hu=>(J1 s.heap (i0 f) (J4 hb)).trans hu) ⟨_,q⟩ ?_
 exact ⟨hz,its',_,hv,q⟩
theorem Inv.lnew {its:List Value} {t':Nat} (I:Inv X Ab σ H s) (hv:Vals ys its) (hz:ys.length<=sizeLine) :
  Inv X Ab σ (Ag H s.heap.objs.size (.lst ys)) { s with heap:=s.heap.push { cls:=.type "list",data:=.seq its.toArray },toks:=t' }:=
 I.laid (fun _ _ q=>A4 _ q) (A6 _) ⟨hz,its,0,hv,A9 _ rfl⟩
theorem Inv.fresh (I:Inv X Ab σ H s):H s.heap.objs.size=none:=I.hok.fresh (A6 _)
theorem Inv.lstM (I:Inv X Ab σ H s) (hH:H l=some (.lst xs)):xs.length<=sizeLine/\∃ (its:List Value) (n:Nat),Vals xs its/\xs.length=its.length/\s.heap.get? l=some { cls:=.type "list",data:=.seq its.toArray n }:=by
 obtain ⟨z,its,n,r,e⟩:=I.hok l _ hH;exact ⟨z,its,n,r,r.length,e⟩
theorem qUP {n:Nat} (h:n<=sizeLine):i4 n=false:=by
 unfold i4;exact decide_eq_false (by lia)
end
section
variable {X:Cx}
def qX1:V->List V->Hp->VK->Prop:=fun x vs H Q=>∃ l xs y,x=.ref l/\vs=[y]/\H l=some (.lst xs)/\xs.length<sizeLine/\Q .non (Ag H l (.lst (xs++[y])))
theorem qDW:MtM X "list.append" qX1:=by
 intro Ab s σ H x vs v us Q I rx rv h;obtain ⟨l,xs,y,rfl,rfl,hH,hz,q⟩:=h;cases rx;obtain ⟨u,rfl,ru⟩:=rv.one;obtain ⟨z,its,n,r,hl,e⟩:=I.lstM hH;refine call_meets F.slot_list_append ⟨_,e,rfl⟩ F.entry_list_append (F.args_list_append_2 _ _) (PySem.list_append l its.toArray n u (by rw [C0];lia)) ⟨e,?_⟩
 refine ⟨.non,_,I.lset (its':=its++[u]) hH e (by simp) (r.append (.cons ru .nil)) ?_,rfl,q⟩
 rw [A7,B4]
 lia
def rCat:R2:=fun x y H Q=>∃ l b xs zs,x=.ref l/\y=.ref b/\H l=some (.lst xs)/\H b=some (.lst zs)/\xs.length+zs.length<=sizeLine/\∀ p,H p=none->Q (.ref p) (Ag H p (.lst (xs++zs)))
theorem qEI:OpR X (binaryOp .Add) rCat:=by
 intro Ab s σ H x y v u Q I rx ry h;obtain ⟨l,b,xs,zs,rfl,rfl,hH,hB,hz,q⟩:=h;cases rx;cases ry;obtain ⟨z,its,n,r,hl,e⟩:=I.lstM hH;obtain ⟨z2,its2,n2,r2,hl2,e2⟩:=I.lstM hB;refine PySem.P.add_list e e2 ?_ (by rw [C0,C0];lia)
 have ea:its.toArray++its2.toArray=(its++its2).toArray:=by simp
 rw [ea];exact ⟨.ref _,_,I.lnew (t':=s.toks) (r.append r2) (by rw [A7];lia),rfl,q _ I.fresh⟩
def rRep:R2:=fun x y H Q=>∃ l k xs,x=.ref l/\y=.int k/\H l=some (.lst xs)/\-(2 ^ 63)<=k/\k<2 ^ 63/\xs.length * k.toNat<=sizeLine/\
 ∀ p,H p=none->Q (.ref p) (Ag H p (.lst (E4 k.toNat xs).flatten))
theorem qNE {α:Type} (xs:List α) (k:Nat):(E4 k xs).flatten.length=k * xs.length:=by
 induction k with
 | zero=>simp
 | succ k ih=>rw [P7,b5,A7,ih,Nat.succ_mul,x4]
theorem qOQ:OpR X (binaryOp .Mult) rRep:=by
 intro Ab s σ H x y v u Q I rx ry h;obtain ⟨l,k,xs,rfl,rfl,hH,h1,h2,hz,q⟩:=h;cases rx;obtain ⟨t,rfl⟩:=ry;obtain ⟨z,its,n,r,hl,e⟩:=I.lstM hH;have hlen:its.toArray.size * k.toNat<=sizeLine:=by rw [C0,<- hl];exact hz
 have hcap:¬ its.toArray.size * k.toNat > (2 ^ 63 - 1) / 8:=by
  have:(sizeLine:Nat)<=(2 ^ 63 - 1) / 8:=by decide
  lia
 have hfit:¬ (!Builtin.List.listFitsIndex k)=true:=by
  rw [fitsIndex_both h1 h2];exact C1
 have hlong:¬ i4 (its.toArray.size * k.toNat)=true:=by
  rw [qUP hlen];exact C1
 have hnew:B39 (fun x1 x2=>x1++x2) #[] (E4 (if its.toArray.isEmpty=true then 0 else k.toNat) its.toArray)=(E4 k.toNat its).flatten.toArray:=by
  have f0:∀ m:Nat,B39 (fun x1 x2=>x1++x2) #[] (E4 m its.toArray)=(E4 m its).flatten.toArray:=fun m=>by
   have:=qMA its m [];rw [List.nil_append] at this;exact this
  rw [f0];cases its with
  | nil=>simp
  | cons a r'=>rw [if_neg (by simp)]
 refine wpAny_binaryOp_repeat_ref (T:="list") (U:="int") (by decide) ⟨_,e,rfl⟩ (fun s'=>typeIs_int s' k t) noFill_list_mul F.fills_int_mul F.slot_int_rmul repeat_list F.slot_int_index.lookup
  (call_meets F.slot_int_rmul (typeIs_int s k t) F.entry_int_rmul (F.args_int_rmul_2 _ _) (int___rmul___int_list k t l its.toArray n)
   ⟨e,rfl,⟨_,e,rfl⟩,call_meets F.slot_list_mul ⟨_,e,rfl⟩ F.entry_list_mul (F.args_list_mul_2 _ _) (AutoListH.list___mul___list_int_3 l its.toArray n k t hfit hcap hlong) ⟨e,?_⟩⟩)
 rw [hnew];exact ⟨.ref _,_,I.lnew (t':=s.toks) (r.rep k.toNat) (by rw [qNE,X4];exact hz),rfl,q _ I.fresh⟩
end
section
variable {prog:Program} {w:World} {A:Around} {E:Value->Shared->Prop} {s:Shared}
set_option maxRecDepth 100000 in
end
section
variable {X:Cx}
end
end L2
namespace Att
open PySem PySem.W PySem.Calls PyProof.Rows
theorem qI7 {P:Params} {h:Heap}:∀ (ns:List Int) (vs:List Value),WellAll P h vs (ns.map WData.int)->IntsAre vs ns:=by
 intro ns
 induction ns with
 | nil=>
  intro vs w;rw [A28] at w;cases w;exact .nil
 | cons n ns ih=>
  intro vs w;rw [E5] at w;cases w with
  | cons a b=>
   cases a;exact .cons _ _ (ih _ b)
theorem qR9 {l:OpenLaw} {n:Nat} (hn:l.most=some n) {P:Params} {h:Heap} {args:List WData} {vals:List Value}
  (hpre:l.row.toRowW.claim.pre args=true) (hwl:WellAll P h vals args) :
  ∃ a vs ns,vals=[F3 a]/\args=[WData.list (ns.map WData.int)]/\h.get? a=some { cls:=.type "list",data:=.seq vs.toArray }/\IntsAre vs ns/\ns.length<=n:=by
 have hsh:WShape.hasAll [] args [.list .int]=true:=(pre_splitW hpre).1;have hc:l.pre.holds [] { args:=args }=true:=(pre_splitW hpre).2;obtain ⟨d,r,rfl,h1,h2⟩:=hasAllW_cons hsh;obtain rfl:=hasAllW_nil h2;obtain ⟨xs,rfl,h3⟩:=hasW_list h1;obtain ⟨ns,rfl⟩:=items_int h3;have hlen:ns.length<=n:=by
  unfold OpenLaw.pre at hc;have h4:(WTm.not (.lt (.lit (.int (n:Int))) (.len (.arg 0)))).holds [] { args:=[.list (ns.map .int)] }=true:=by
   have h4:=(holds_andW hc).1;rw [hn] at h4;exact h4
  have h5:=condW_of h4 (w_not (w_lt w_lit (w_len_list (w_arg rfl))));rw [A0] at h5;refine T5 fun q=>?_;have q':(n:Int)<((ns.length:Nat):Int):=by lia
  first
   | (rw [decide_eq_true q'] at h5;exact absurd h5 (by decide))
   | (simp at h5;lia)
 cases hwl with
 | cons w1 w2=>
  cases w2;cases w1 with
  | list ho hall=>exact ⟨_,_,ns,rfl,rfl,ho,qI7 ns _ hall,hlen⟩
theorem qRE (l:OpenLaw) (args:List WData):l.row.toRowW.claim.post args (.bool true) args=true:=
 postW_of (r:=l.row.toRowW) (X:=(true == true))
  (show WShape.has [] (.bool true) .bool=true by first | rfl | decide | simp [WShape.has,WShape.arms,WShape.armsAll])
  (show (WTm.eq .res (.lit (.bool true))).value [] { args:=args,res:=some (.bool true),after:=args }=some (.bool (true == true)) from w_eq_bool (w_res rfl) w_lit) rfl
theorem attach_call {l:OpenLaw} {n:Nat} {q:Program} {loose:List Str} {XP:(Str->Option Value)->Heap->Prop} {YP:World->Heap->Prop} {d:DefRec}
  (hn:l.most=some n) (hdf:d.params.defaults=[])
  (call:∀ (w:World) (s₀ s₁:Shared) (mg mb:Str->Option Value) (fa:Addr) (o:Obj) (pm cd doc:Value) (a:Addr) (vs:List Value) (ns:List Int),
   Ground q loose [] XP w s₀ mg mb s₁.heap->YP w s₁.heap->
   s₁.heap.get? fa=some o->o.data=.func (docDef d.name d.params d.body d.scope pm cd doc)->s₁.heap.CodeRec cd d.name->mg d.name=some (.ref fa)->
   s₁.heap.get? a=some { cls:=.type "list",data:=.seq vs.toArray }->IntsAre vs ns->ns.length<=n->s₁.gens=#[]->
   codeAny (model l.prog w) callerA (.call (.ref fa) ⟨[.ref a],[]⟩) (fun r s'=>r=.ok (.ret (.bool true))/\OldK s₁.heap s'.heap/\s'.os=s₁.os/\AllBare s'.gens) s₁) :
  WalkO q loose XP YP l.row.toRowW d [] (fun f vs=>B40 f vs):=by
 intro w s₀ s₁ mg mb G Y fa o pm cd doc dV kV ho hd hcd hD hmg hg args vals as hpre hlay hrd hwl hlo;obtain rfl:dV=.none:=Dflts.none hD hdf;obtain rfl:kV=.none:=Dflts.noKw hD;obtain ⟨a,vs,ns,rfl,rfl,hobj,hints,hlen⟩:=qR9 hn hpre hwl;refine enter_call (codeAny_mono (call w s₀ s₁ mg mb fa o pm cd doc a vs ns G Y ho (fd_plain hd) hcd hmg hobj hints hlen hg) fun r s' hq=>?_);obtain ⟨rfl,h2,h3,h4⟩:=hq;exact ⟨.inl ⟨.bool true,.bool true,[],rfl,fun _=>rfl,.bool true,qRE l _,fun _=>⟨List.Pairwise.nil,fun _ hm=>(nomatch hm)⟩⟩,h2,h3,h4⟩
section
variable {prog:Program} {w:World} {A:Around} {E:Value->Shared->Prop} {s:Shared} {K:Frag}
end
end Att
namespace L2
open PySem PySem.Spec PyProof.Rows
theorem qHP:∀ {vs:List Value} {ns:List Int},IntsAre vs ns->Vals (ns.map V.int) vs
 | _,_,.nil=>.nil
 | _,_,.cons n t h=>.cons ⟨t,rfl⟩ (qHP h)
def Only (H:Hp):Prop:=∀ b,H b=none\/∃ o xs,H b=some (.frz o (.lst xs))
theorem qUW {P:Program} {w:World} {K:PySem.W.Frag} {mg mb:Str->Option Value} {CX:CXT} {k:Nat} {fa a:Addr} {fd:FuncData} {x:Str} {sp:Sp} {s₁:Shared} {vs:List Value} {ns:List Int}
  (KX:K.In s₁.heap) (hns:s₁.heap.Ns mainGlobals mg) (hb:s₁.heap.Ns builtinsNs mb) (hbb:∀ x:Str,x ≠ "__name__"->mb x=bootBuiltins x) (hlim:s₁.heap.NoLimit) (hg:s₁.gens=#[])
  (ha:s₁.heap.get? a=some { cls:=.type "list",data:=.seq vs.toArray }) (hi:IntsAre vs ns) (hl:ns.length<=sizeLine) (hr:Room k callerA)
  (F:∀ base:Heap,K.In base->base.Ns mainGlobals mg->FnOk P w K mg base CX k fa fd [x] sp) (hbind:∀ (s:Shared) (u:Value),BindsTo s fd ⟨[u],[]⟩ [(x,u)])
  (hsp:∀ H:Hp,Only H->SqL K H a (ns.map V.int)->sp [.ref a] H (fun v _=>v=.bl true) fun _ _ _=>False)
  (hCX:∀ H e s',CX [] H s₁ (fun _ _ _=>False) e s'->False) :
  codeAny (model P w) callerA (.call (.ref fa) ⟨[.ref a],[]⟩) (fun r s'=>r=.ok (.ret (.bool true))/\OldK s₁.heap s'.heap/\s'.os=s₁.os/\AllBare s'.gens) s₁:=by
 have rv:=qHP hi;have lenV:=hi.length
 -- from an abstract heap in which nothing but the script may be tracked
 have core:∀ H:Hp,Only H->SqL K H a (ns.map V.int)->HOk P w H s₁.heap->(∀ b,H b ≠ none->b=a)->(H a ≠ none->K.lookup a=none)->
   codeAny (model P w) callerA (.call (.ref fa) ⟨[.ref a],[]⟩) (fun r s'=>r=.ok (.ret (.bool true))/\OldK s₁.heap s'.heap/\s'.os=s₁.os/\AllBare s'.gens) s₁:=by
  intro H hO hS hok hA hK;have base_of:∀ {b:Addr} {o:Obj},s₁.heap.get? b=some o->H b=none->(hidT s₁.heap H).get? b=some o:=fun e n=>qV1 e n;have noA:∀ {b:Addr} {o:Obj} {es:Array DictEntry} {ep:Nat},s₁.heap.get? b=some o->o.data=.dict es ep->H b=none:=fun {b o es ep} e d=>by
   cases q:H b with
   | none=>rfl
   | some u=>
    have e':b=a:=hA b (by rw [q];simp)
    subst e';rw [ha] at e;cases e;have d':B58 vs.toArray _=Data.dict es ep:=d;cases d'
  have nsK:∀ {b:Addr} {m:Str->Option Value},s₁.heap.Ns b m->(hidT s₁.heap H).Ns b m:=fun {b m} ⟨o,es,ep,e,d,r⟩=>⟨o,es,ep,base_of e (noA e d),d,r⟩;have hKb:K.In (hidT s₁.heap H):=fun b o e=>base_of (KX b o e) (by
   cases q:H b with
   | none=>rfl
   | some u=>
    have e':b=a:=hA b (by rw [q];simp)
    subst e';rw [hK (by rw [q];simp)] at e;cases e)
  have hM:Mod K mg (hidT s₁.heap H):=⟨hKb,nsK hns,⟨mb,nsK hb,hbb⟩,let ⟨mc,h1,h2⟩:=hlim;⟨mc,nsK h1,h2⟩⟩
  have e0:Env0 P w K mg (hidT s₁.heap H) callerA [] s₁ H:=⟨rfl,hM,fun b o e=>qXA e,Nat.le_of_eq (qSD _ _),trivial,fun b hb=>absurd (show b ∈ ([]:List Addr) from hb) (by simp),hok,.of_eq hg⟩
  refine codeAny_mono ((F _ hKb (nsK hns)).run callerA [] s₁ H ⟨[.ref a],[]⟩ [.ref a] [.ref a] _ _ hr e0 (hbind s₁ (.ref a)) (.cons rfl .nil) (hsp H hO hS)) fun r s' h=>?_;cases r with
  | error e=>exact (hCX H e s' h).elim
  | ok fl=>
   cases fl with
   | next=>exact a9 h
   | brk=>exact a9 h
   | cont=>exact a9 h
   | ret u=>
    obtain ⟨v,H',os,bare,un,hok',r',q⟩:=h;have q':v=.bl true:=q;subst q';obtain rfl:u=W6 true:=r';refine ⟨rfl,OldK.of_keep fun b o e=>?_,os,bare⟩;cases q:H b with
    | none=>exact un.keep b o e q (by intro z;exact absurd (show b ∈ ([]:List Addr) from z) (by simp)) (by simp)
    | some u=>
     rcases hO b with z | ⟨ob,xs,z⟩
     ·rw [q] at z;cases z
     ·have z2:=un.frzs b ob _ z;obtain ⟨e1,_⟩:=hok b _ z;obtain ⟨e2,_⟩:=hok' b _ z2;rw [e] at e1;cases e1;exact e2
 cases hk:K.lookup a with
 | some o=>
  -- the script is one of the module's own objects
  have e:=KX a o hk;rw [ha] at e;cases e;refine core (fun _=>none) (fun _=>.inl rfl) (.inr ⟨_,vs.toArray,_,hk,rfl,rfl,rfl,by rw [C0,lenV];exact hl,by simpa using rv⟩) (fun b u z=>by have z':(none:Option HO)=some u:=z;cases z') (fun b z=>absurd rfl z) fun z=>absurd rfl z
 | none=>
  refine core (fun b=>if b=a then some (.frz { cls:=.type "list",data:=.seq vs.toArray } (.lst (ns.map V.int))) else none) (fun b=>?_) (.inl (.inr ⟨{ cls:=.type "list",data:=.seq vs.toArray },if_pos rfl⟩)) (fun b u z=>?_) (fun b z=>?_) fun _=>hk
  ·by_cases hb:b=a
   ·exact .inr ⟨_,_,if_pos hb⟩
   ·exact .inl (if_neg hb)
  ·by_cases hb:b=a
   ·have z':=(if_pos hb).symm.trans z;cases z';subst hb;exact ⟨ha,by rw [A0];exact hl,vs,_,rv,ha⟩
   ·have z':=(if_neg hb).symm.trans z;cases z'
  ·by_cases hb:b=a
   ·exact hb
   ·exact absurd (if_neg hb) z
end L2
namespace L2
open PySem PySem.Spec PyProof.Rows
theorem walk_of {l:PySem.W.OpenLaw} {n k:Nat} {q:Program} {loose:List Str} {XP:(Str->Option Value)->Heap->Prop} {YP:World->Heap->Prop} {d:DefRec} {K:Params->PySem.W.Frag} {CX:World->CXT} {sp:World->Sp} {x:Str}
  (hn:l.most=some n) (hn2:n<=sizeLine) (hdf:d.params.defaults=[]) (hr:Room k callerA)
  (hY:∀ (w:World) (h:Heap),YP w h->(K w.params).In h)
  (F:∀ (w:World) (mg:Str->Option Value) (fa:Addr) (h:Heap),(K w.params).In h->h.Ns mainGlobals mg->mg d.name=some (.ref fa)->
   ∃ fd:FuncData,(∀ (s:Shared) (u:Value),BindsTo s fd ⟨[u],[]⟩ [(x,u)])/\
    ∀ base:Heap,(K w.params).In base->base.Ns mainGlobals mg->FnOk l.prog w (K w.params) mg base (CX w) k fa fd [x] (sp w))
  (hsp:∀ (w:World) (H:Hp) (a:Addr) (ns:List Int),ns.length<=n->Only H->SqL (K w.params) H a (ns.map V.int)->sp w [.ref a] H (fun v _=>v=.bl true) fun _ _ _=>False)
  (hCX:∀ (w:World) (H:Hp) (s:Shared) (e:Value) (s':Shared),CX w [] H s (fun _ _ _=>False) e s'->False) :
  PySem.W.WalkO q loose XP YP l.row.toRowW d [] (fun f vs=>B40 f vs):=by
 refine Att.attach_call hn hdf fun w s₀ s₁ mg mb fa o pm cd doc a vs ns G Y ho hd hcd hmg hobj hints hlen hg=>?_;have KX:=hY w _ Y;obtain ⟨fd,hb,hF⟩:=F w mg fa _ KX G.T.g hmg;exact qUW KX G.T.g G.T.b G.T.builtins G.T.nolimit hg hobj hints (J6 hlen hn2) hr hF hb (fun H hO hS=>hsp w H a ns hlen hO hS) fun H e s'=>hCX w H s₁ e s'
end L2
namespace L2
open PySem PySem.Spec PyProof.Rows
noncomputable def qEY (s:Stmt):Arguments:=match s with
 | .FunctionDef _ a _ _ _ _ _ _ _ _=>a
 | _=>{ posonlyargs:=[],args:=[],vararg:=none,kwonlyargs:=[],kw_defaults:=[],kwarg:=none,defaults:=[] }
noncomputable def qDM (s:Stmt):List Stmt:=match s with
 | .FunctionDef _ _ b _ _ _ _ _ _ _=>b
 | _=>[]
noncomputable def qAE (s:Stmt):Scope:=match s with
 | .FunctionDef _ _ _ _ _ _ sc _ _ _=>sc
 | _=>{ kind:=.function,names:=[],isGenerator:=false,isCoroutine:=false }
abbrev CX0:CXT:=fun _ _ _ _ _ _=>False
abbrev E0:XK:=fun _ _ _=>False
theorem qaN {X:Cx}:qTQ CX0 X E0:=fun _ _ _ _ _ _ _ h=>h.elim
structure Fun (K:PySem.W.Frag) (x qual:Str) (st:Stmt) (f:Addr) (fd:FuncData):Prop where
 ex:∃ (oc:Value) (od:Option Addr) (kV doc pm:Value) (an:Option Addr) (cdv ct:Value) (osl:Array (Option Value)),
  fd=T8 x qual (qEY st) (qDM st) (qAE st) .none kV doc pm an cdv ct/\K.lookup f=some ⟨oc,od,.func fd,osl⟩/\x6 K cdv qual=true
 kp:V8 K (.ref f)=true
section
variable {P:Program} {w:World} {K:PySem.W.Frag} {mg:Str->Option Value} {base:Heap}
theorem Fun.ok {x qual:Str} {st:Stmt} {f:Addr} {fd:FuncData} {N ps:List Str} {k:Nat} {sp:Sp} (F:Fun K x qual st f fd) (S:FnScope N ps (qAE st)) (len:∀ vs H Q E,sp vs H Q E->vs.length=ps.length)
  (hbody:∀ (cdv:Value) (A:Around) (outer:List Env) (s:Shared) (H:Hp) (vs:List V) (Q:VK) (E:XK),Room k (A.deeper (envOfC qual (qAE st) s.heap.objs.size f cdv))->sp vs H Q E->
   ∃ t,PSs (cxOf CX0 P w K mg base N qual (qAE st) f cdv A outer s H E).nox (qDM st) t/\t { nx:=fun _ H'=>Q .non H',rt:=Q } (start N vs) H):FnOk P w K mg base CX0 (k+1) f fd ps sp:=by
 obtain ⟨oc,od,kV,doc,pm,an,cdv,ct,osl,rfl,lk,hcd⟩:=F.ex;refine qb2 lk hcd S len fun A outer s H vs Q E hr hsp=>?_;obtain ⟨t,h,q⟩:=hbody cdv A outer s H vs Q E hr hsp;exact ⟨t,h.nox,q⟩
theorem Fun.binds {x qual:Str} {st:Stmt} {f:Addr} {fd:FuncData} {ps:List Str} (F:Fun K x qual st f fd)
  (h:∀ (kV doc pm:Value) (an:Option Addr) (cdv ct:Value) (us:List Value),us.length=ps.length->bindArgs (T8 x qual (qEY st) (qDM st) (qAE st) .none kV doc pm an cdv ct) ⟨us,[]⟩=pure (ps.zip us)):Binds K fd ps []:=by
 obtain ⟨oc,od,kV,doc,pm,an,cdv,ct,osl,rfl,lk,hcd⟩:=F.ex;exact .all (h kV doc pm an cdv ct)
theorem fun_mk {x qual:Str} {st:Stmt} {f:Addr} {oc:Value} {od an:Option Addr} {osl:Array (Option Value)} {kV doc pm cdv ct:Value} (l:K.lookup f=some ⟨oc,od,.func (T8 x qual (qEY st) (qDM st) (qAE st) .none kV doc pm an cdv ct),osl⟩)
  (c:x6 K cdv qual=true) (k:V8 K (.ref f)=true):Fun K x qual st f (T8 x qual (qEY st) (qDM st) (qAE st) .none kV doc pm an cdv ct):=⟨⟨oc,od,kV,doc,pm,an,cdv,ct,osl,rfl,l,c⟩,k⟩
end
theorem qIU {A:Around} {k:Nat} (hr:Room k A):A.units+1<cLine:=T9 (Nat.add_le_add_left (by decide:1<=64) _) hr.units
theorem qAH {n:Nat} (h:n<=1000):n<sizeLine:=T9 h (by decide)
section
variable {X:Cx}
theorem pv (i:Nat) {x:Str} {pos:Pos} (hN:X.N[i]?=some x:=by rfl) (hv:Vis X.env.scope x:=by first | exact E8 rfl | exact o6 (E8 rfl) | exact o6 (o6 rfl)) (hd:(x == ("__debug__" : Str))=false:=by decide)
  (hcd:(x == ("__classdict__" : Str))=false:=by decide):PE X (.Name x pos) (tVar i):=qZ0 hN hv hd hcd
end
theorem iteF {A B:Prop} (h:B):if false=true then A else B:=by
 rw [if_neg C1];exact h
theorem iteT {A B:Prop} (h:A):if true=true then A else B:=by
 rw [if_pos rfl];exact h
theorem ite2 {c A B:Prop} [Decidable c] (h1:c->A) (h2:¬ c->B):if c then A else B:=by
 by_cases h:c
 ·rw [if_pos h];exact h1 h
 ·rw [if_neg h];exact h2 h
def Same (H H':Hp):Prop:=∀ b o,H b=some o->H' b=some o
theorem Same.refl (H:Hp):Same H H:=fun _ _ h=>h
theorem Same.trans {H H1 H2:Hp} (a:Same H H1) (b:Same H1 H2):Same H H2:=fun c o h=>b c o (a c o h)
theorem Same.free {H H':Hp} (e:Same H H') {l:Addr} (h:H' l=B57):H l=B57:=by
 cases q:H l with
 | none=>rfl
 | some o=>
  rw [e l o q] at h;cases h
end L2
namespace L2
open PySem PySem.Spec PyProof.Rows
section
variable {κ:Type} [DecidableEq κ]
noncomputable def valV (Af:List (κ × V)) (k:κ):Option V:=(Af.find? fun kv=>decide (kv.1=k)).map (·.2)
noncomputable def putK (Af:List (κ × V)) (k:κ) (v:V):List (κ × V):=
 if (Af.any fun kv=>decide (kv.1=k))=true then Af.map (fun kv=>if kv.1=k then (kv.1,v) else kv) else Af++[(k,v)]
theorem qBU {p:κ × V} {r:List (κ × V)} {k:κ} (e:p.1=k):valV (p::r) k=some p.2:=by simp [valV,W9,e]
theorem qBZ {p:κ × V} {r:List (κ × V)} {k:κ} (e:¬ p.1=k):valV (p::r) k=valV r k:=by simp [valV,W9,e]
theorem qFN (k:κ):∀ Af:List (κ × V),(Af.any fun kv=>decide (kv.1=k))=(valV Af k).isSome
 | []=>rfl
 | p::r=>by
  rw [b4];by_cases e:p.1=k
  ·simp only [qBU e,decide_eq_true e,Bool.true_or,Option.isSome_some]
  ·rw [qBZ e,decide_eq_false e,B44];exact qFN k r
theorem qO0 (k j:κ) (y:V):∀ Af:List (κ × V),valV (Af.map fun kv=>if kv.1=k then (kv.1,y) else kv) j=(valV Af j).map fun x=>if j=k then y else x
 | []=>rfl
 | p::r=>by
  have ih:=qO0 k j y r;rw [E5];by_cases h:p.1=k
  ·rw [if_pos h];by_cases e:p.1=j
   ·rw [qBU (p:=(p.1,y)) e,qBU e,X0,if_pos (e.symm.trans h)]
   ·rw [qBZ (p:=(p.1,y)) e,qBZ e,ih]
  ·rw [if_neg h];by_cases e:p.1=j
   ·rw [qBU (p:=p) e,qBU e,X0,if_neg (fun z=>h (e.trans z))]
   ·rw [qBZ (p:=p) e,qBZ e,ih]
theorem qL9 (k j:κ) (y:V):∀ Af:List (κ × V),valV Af k=none->valV (Af++[(k,y)]) j=if j=k then some y else valV Af j
 | [],_=>by
  by_cases e:k=j
  ·rw [if_pos e.symm];exact qBU (p:=(k,y)) e
  ·rw [if_neg (fun z=>e z.symm)];exact qBZ (p:=(k,y)) e
 | p::r,hn=>by
  rw [List.cons_append];have hk:¬ p.1=k:=fun z=>by rw [qBU z] at hn;cases hn
  rw [qBZ hk] at hn;have ih:=qL9 k j y r hn;by_cases e:p.1=j
  ·rw [qBU e,qBU e,if_neg (fun z=>hk (e.trans z))]
  ·rw [qBZ e,qBZ e,ih]
theorem qFM (Af:List (κ × V)) (k j:κ) (y:V):valV (putK Af k y) j=if j=k then some y else valV Af j:=by
 unfold putK;by_cases a:(Af.any fun kv=>decide (kv.1=k))=true
 ·rw [if_pos a,qO0];rw [qFN] at a;by_cases e:j=k
  ·obtain ⟨x,hx⟩:=z8.mp a;rw [if_pos e,e,hx,X0,if_pos rfl]
  ·rw [if_neg e];cases valV Af j with
   | none=>rfl
   | some x=>rw [X0,if_neg e]
 ·rw [if_neg a];refine qL9 k j y Af ?_;rw [qFN] at a;cases q:valV Af k with
  | none=>rfl
  | some x=>rw [q] at a;exact (a rfl).elim
theorem qC0 (Af:List (κ × V)) (k:κ) (v:V):(putK Af k v).length<=Af.length+1:=by
 unfold putK
 split
 ·rw [A0];lia
 ·rw [A7,D5,Z6];lia
theorem qUF {Af:List (κ × V)} {k:κ} (v:V) (h:valV Af k=none):putK Af k v=Af++[(k,v)]:=by
 unfold putK;rw [qFN,h];exact if_neg (by decide)
theorem RelO.isSome_eq {o:Option V} {u:Option Value} (r:RelO o u):o.isSome=u.isSome:=by
 cases o with
 | none=>cases u with
  | none=>rfl
  | some _=>exact (show False from r).elim
 | some _=>cases u with
  | none=>exact (show False from r).elim
  | some _=>rfl
theorem KV.val {Af:List (κ × V)} {vs:List (κ × Value)} (r:KV Af vs) (k:κ):RelO (valV Af k) (valueAt vs k):=by
 unfold KV at r
 induction r with
 | nil=>exact Y7
 | @cons p q ps qs h t ih=>
  obtain ⟨h1,h2⟩:=h;by_cases e:p.1=k
  ·have e':q.1=k:=h1.symm.trans e;have b:valueAt (q::qs) k=some q.2:=by simp [valueAt,W9,e']
   rw [qBU e,b];exact h2
  ·have e':¬ q.1=k:=fun z=>e (h1.trans z);have b:valueAt (q::qs) k=valueAt qs k:=by simp [valueAt,W9,e']
   rw [qBZ e,b];exact ih
theorem KV.any {Af:List (κ × V)} {vs:List (κ × Value)} (r:KV Af vs) (k:κ):(Af.any fun kv=>decide (kv.1=k))=vs.any fun kv=>decide (kv.1=k):=by
 unfold KV at r
 induction r with
 | nil=>rfl
 | cons h t ih=>rw [b4,b4,ih,h.1]
theorem KV.repl {Af:List (κ × V)} {vs:List (κ × Value)} (r:KV Af vs) (k:κ) {y:V} {u:Value} (ry:RelV y u) :
  KV (Af.map fun kv=>if kv.1=k then (kv.1,y) else kv) (vs.map fun kv=>if kv.1=k then (kv.1,u) else kv):=by
 unfold KV at r ⊢
 induction r with
 | nil=>exact .nil
 | @cons p q ps qs h t ih=>
  rw [E5,E5];refine .cons ?_ ih;obtain ⟨h1,h2⟩:=h;by_cases e:p.1=k
  ·rw [if_pos e,if_pos (h1.symm.trans e)];exact ⟨h1,ry⟩
  ·rw [if_neg e,if_neg (fun z=>e (h1.trans z))];exact ⟨h1,h2⟩
theorem KV.put {Af:List (κ × V)} {vs:List (κ × Value)} (r:KV Af vs) (k:κ) {y:V} {u:Value} (ry:RelV y u):KV (putK Af k y) (stored vs k u):=by
 unfold putK stored;rw [r.any k];by_cases e:(vs.any fun kv=>decide (kv.1=k))=true
 ·rw [if_pos e,if_pos e];exact r.repl k ry
 ·rw [if_neg e,if_neg e];exact Z8 r ⟨rfl,ry⟩
theorem KV.keys {Af:List (κ × V)} {vs:List (κ × Value)} (r:KV Af vs):Af.map (·.1)=vs.map (·.1):=by
 unfold KV at r
 induction r with
 | nil=>rfl
 | cons h t ih=>rw [E5,E5,ih,h.1]
theorem KV.length {Af:List (κ × V)} {vs:List (κ × Value)} (r:KV Af vs):Af.length=vs.length:=C6 r
end
theorem qQ6 {P:Program} {w:World} {k:Key} {u:Value} (r:RelV (kV k) u):(qB3 P w).is k u=true:=by
 cases k with
 | inl i=>obtain ⟨t,e⟩:=(show ∃ t,u=Q2 i t from r);subst e;exact qNC P w i t
 | inr x=>obtain ⟨t,e⟩:=(show ∃ t,u=B23 x t from r);subst e;exact qNB P w x t
theorem qM8 {P:Program} {w:World}:∀ {ks:List Key} {us:List Value},Vals (ks.map kV) us->ItemsAre (qB3 P w) ks us
 | [],_,r=>by rw [A28] at r;cases r;exact .nil
 | k::ks,_,r=>by
  rw [E5] at r;cases r with
  | cons h t=>exact .cons (qQ6 h) (qM8 t)
abbrev KT (H:Hp):List (List Key × V)->List (List Key × Addr × Value)->Prop:=Paired fun p q=>p.1=q.1/\H q.2.1=some (.tup (p.1.map kV))/\RelV p.2 q.2.2
theorem KT.val {H:Hp} {Af:List (List Key × V)} {xs:List (List Key × Addr × Value)} (r:KT H Af xs) (k:List Key):RelO (valV Af k) ((atKey xs k).map (·.2)):=by
 induction r with
 | nil=>exact Y7
 | @cons p q ps qs h t ih=>
  obtain ⟨h1,_,h2⟩:=h;by_cases e:p.1=k
  ·have e':q.1=k:=h1.symm.trans e;have b:atKey (q::qs) k=some q.2:=by simp [atKey,W9,e']
   rw [qBU e,b];exact h2
  ·have e':¬ q.1=k:=fun z=>e (h1.trans z);have b:atKey (q::qs) k=atKey qs k:=by simp [atKey,W9,e']
   rw [qBZ e,b];exact ih
theorem KT.repl {H:Hp} {Af:List (List Key × V)} {xs:List (List Key × Addr × Value)} (r:KT H Af xs) (k:List Key) {y:V} {u:Value} (ry:RelV y u) :
  KT H (Af.map fun kv=>if kv.1=k then (kv.1,y) else kv) (xs.map (putAt k u)):=by
 induction r with
 | nil=>exact .nil
 | @cons p q ps qs h t ih=>
  rw [E5,E5];refine .cons ?_ ih;obtain ⟨h1,h2,h3⟩:=h;unfold putAt;by_cases e:p.1=k
  ·rw [if_pos e,if_pos (h1.symm.trans e)];exact ⟨h1,h2,ry⟩
  ·rw [if_neg e,if_neg (fun z=>e (h1.trans z))];exact ⟨h1,h2,h3⟩
theorem KT.put {H:Hp} {Af:List (List Key × V)} {xs:List (List Key × Addr × Value)} (r:KT H Af xs) (k:List Key) {b:Addr} {y:V} {u:Value} (hb:H b=some (.tup (k.map kV))) (ry:RelV y u) :
  KT H (putK Af k y) (storedH xs k b u):=by
 have e:(Af.any fun kv=>decide (kv.1=k))=(atKey xs k).isSome:=by
  rw [qFN,(r.val k).isSome_eq,j9]
 unfold putK storedH;rw [e];by_cases q:(atKey xs k).isSome=true
 ·rw [if_pos q,if_pos q];exact r.repl k ry
 ·rw [if_neg q,if_neg q];exact Z8 r ⟨rfl,hb,ry⟩
theorem KT.keeps {H H':Hp} {Af:List (List Key × V)} {xs:List (List Key × Addr × Value)} (r:KT H Af xs) (ht:∀ b ys,H b=some (.tup ys)->H' b=some (.tup ys)):KT H' Af xs:=
 Paired.mapP r fun _ _ z=>⟨z.1,ht _ _ z.2.1,z.2.2⟩
section
variable {P:Program} {w:World} {H:Hp} {h:Heap} {a:Addr}
theorem qYW {u:HO} (ok:HOk P w H h) (e:Rd H a u):ObjOk P w H h a u:=e.ok ok
theorem qSZ {Af:List (Key × V)} (ok:HOk P w H h) (e:Rd H a (.dK Af)):Af.length<=sizeLine/\(a == sysModules)=false/\∃ vs,KV Af vs/\h.DictOf (qB3 P w) a vs:=
 show ObjOk P w H h a (.dK Af) from qYW ok e
theorem qZM {Af:List (Key × V)} (ok:HOk P w H h) (e:H a=some (.dK Af)):Af.length<=sizeLine/\(a == sysModules)=false/\∃ vs,KV Af vs/\h.DictOf (qB3 P w) a vs:=qSZ ok (.inl e)
theorem qJG {ks:List Key} (ok:HOk P w H h) (e:H a=some (.tup (ks.map kV))):(tupleKind (qB3 P w)).is h ks a:=by
 obtain ⟨_,its,r,o,h1,h2,n,h3,_⟩:=(show ObjOk P w H h a (.tup (ks.map kV)) from ok a _ e);exact ⟨o,its.toArray,n,h1,h2,h3,by simpa using qM8 r⟩
theorem qSY {Af:List (List Key × V)} (ok:HOk P w H h) (e:Rd H a (.dT Af)):Af.length<=sizeLine/\(a == sysModules)=false/\
  ∃ xs,KT H Af xs/\h.DictOfH (tupleKind (qB3 P w)) a xs:=by
 obtain ⟨z,y,xs,r,o,es,ep,h1,h2,h3,h4,h5⟩:=(show ObjOk P w H h a (.dT Af) from qYW ok e);refine ⟨z,y,xs,r,o,es,ep,h1,h2,h3,h4,fun x hx=>?_,h5⟩;have all:∀ {l:List (List Key × V)} {m:List (List Key × Addr × Value)},KT H l m->∀ x ∈ m,(tupleKind (qB3 P w)).is h x.1 x.2.1:=by
  intro l m q
  induction q with
  | nil=>intro x hx;exact nomatch hx
  | @cons p q ps qs hq t ih=>
   intro x hx;rcases B6.mp hx with e | hx
   ·subst e;exact qJG ok (by rw [<- hq.1];exact hq.2.1)
   ·exact ih x hx
 exact all r x hx
theorem qb3 {Af:List (List Key × V)} (ok:HOk P w H h) (e:H a=some (.dT Af)):Af.length<=sizeLine/\(a == sysModules)=false/\
  ∃ xs,KT H Af xs/\h.DictOfH (tupleKind (qB3 P w)) a xs:=qSY ok (.inl e)
end
def DGet (H:Hp) (a:Addr) (y:V) (r:Option V):Prop:=
 (∃ Af k,Rd H a (.dK Af)/\y=kV k/\r=valV Af k)\/∃ Af k b,Rd H a (.dT Af)/\y=.ref b/\H b=some (.tup (k.map kV))/\r=valV Af k
def DPut (H:Hp) (a:Addr) (y v:V) (H':Hp):Prop:=
 (∃ Af k,H a=some (.dK Af)/\y=kV k/\Af.length<sizeLine/\H'=Ag H a (.dK (putK Af k v)))\/
 ∃ Af k b,H a=some (.dT Af)/\y=.ref b/\H b=some (.tup (k.map kV))/\Af.length<sizeLine/\H'=Ag H a (.dT (putK Af k v))
theorem DGet.k {H:Hp} {a:Addr} {Af:List (Key × V)} {k:Key} (e:H a=some (.dK Af)):DGet H a (kV k) (valV Af k):=.inl ⟨Af,k,.inl e,rfl,rfl⟩
theorem DPut.k {H:Hp} {a:Addr} {Af:List (Key × V)} {k:Key} {v:V} (e:H a=some (.dK Af)) (hl:Af.length<sizeLine):DPut H a (kV k) v (Ag H a (.dK (putK Af k v))):=.inl ⟨Af,k,e,rfl,hl,rfl⟩
theorem DPut.t {H:Hp} {a b:Addr} {Af:List (List Key × V)} {k:List Key} {v:V} (e:H a=some (.dT Af)) (eb:H b=some (.tup (k.map kV))) (hl:Af.length<sizeLine) :
  DPut H a (.ref b) v (Ag H a (.dT (putK Af k v))):=.inr ⟨Af,k,b,e,rfl,eb,hl,rfl⟩
section
variable {X:Cx} {Ab:List (Addr × Obj)} {σ:St} {H:Hp} {s:Shared} {a:Addr} {y v:V} {u r:Value} {o:Option V} {A:Around} {E:Value->Shared->Prop}
theorem Inv.big (I:Inv X Ab σ H s):sysModules<s.heap.objs.size:=by
 have h:mainGlobals<s.heap.objs.size:=(I.mod.glob.keeps I.bk).lt;exact R1 (by decide) h
theorem qT8 {Q:Value->Shared->Prop} (hu:A.units+1<cLine) (I:Inv X Ab σ H s) (g:DGet H a y (some v)) (ry:RelV y u) (h:∀ w' s',Inv X Ab σ H s'->RelV v w'->Q w' s') :
  wpAny (model X.prog X.w) A (getItem (.ref a) u) Q E s:=by
 rcases g with ⟨Af,k,e,ey,l⟩ | ⟨Af,k,b,e,ey,eb,l⟩
 ·subst ey;obtain ⟨z,hd,vs,rel,dd⟩:=qSZ I.hok e;obtain ⟨w',hw,rw'⟩:=RelO.some_of (v:=v) (o:=valueAt vs k) (by rw [l];exact rel.val k)
  exact wpAny_getItem_of (qQ6 ry) dd.mapOf hw (h w' _ (I.tok _) rw')
 ·subst ey;cases (show u=F3 b from ry);obtain ⟨z,hd,xs,rel,dd⟩:=qSY I.hok e;obtain ⟨w',hw,rw'⟩:=RelO.some_of (v:=v) (o:=(atKey xs k).map (·.2)) (by rw [l];exact rel.val k)
  obtain ⟨p,hp,hp2⟩:=j6.mp hw;refine wpAny_getItem_heap (tupleKind_room_in1 hu) (qJG I.hok eb) dd hp ?_;rw [hp2];exact h w' _ (I.tok _) rw'
theorem d_in {Q:Value->Shared->Prop} (hu:A.units+1<cLine) (I:Inv X Ab σ H s) (g:DGet H a y o) (ry:RelV y u) (h:∀ s',Inv X Ab σ H s'->Q (.bool o.isSome) s') :
  wpAny (model X.prog X.w) A (compareOp .In u (.ref a)) Q E s:=by
 rcases g with ⟨Af,k,e,ey,l⟩ | ⟨Af,k,b,e,ey,eb,l⟩
 ·subst ey;obtain ⟨z,hd,vs,rel,dd⟩:=qSZ I.hok e;refine wpAny_in_of (qQ6 ry) hd dd.mapOf ?_;rw [<- (rel.val k).isSome_eq,<- l];exact h _ (I.tok _)
 ·subst ey;cases (show u=F3 b from ry);obtain ⟨z,hd,xs,rel,dd⟩:=qSY I.hok e;refine wpAny_in_heap (tupleKind_room_in1 hu) (qJG I.hok eb) hd dd ?_;have q:=(rel.val k).isSome_eq;rw [j9] at q;rw [<- q,<- l];exact h _ (I.tok _)
theorem qXU {Q:Value->Shared->Prop} (hu:A.units+1<cLine) (I:Inv X Ab σ H s) (g:DGet H a y o) (ry:RelV y u) (h:∀ s',Inv X Ab σ H s'->Q (.bool (!o.isSome)) s') :
  wpAny (model X.prog X.w) A (compareOp .NotIn u (.ref a)) Q E s:=by
 rcases g with ⟨Af,k,e,ey,l⟩ | ⟨Af,k,b,e,ey,eb,l⟩
 ·subst ey;obtain ⟨z,hd,vs,rel,dd⟩:=qSZ I.hok e;refine wpAny_notIn_of (qQ6 ry) hd dd.mapOf ?_;rw [<- (rel.val k).isSome_eq,<- l];exact h _ (I.tok _)
 ·subst ey;cases (show u=F3 b from ry);obtain ⟨z,hd,xs,rel,dd⟩:=qSY I.hok e;refine wpAny_notIn_heap (tupleKind_room_in1 hu) (qJG I.hok eb) hd dd ?_;have q:=(rel.val k).isSome_eq;rw [j9] at q;rw [<- q,<- l];exact h _ (I.tok _)
theorem qNT {h':Heap} {t':Nat} {ob:HO} (I:Inv X Ab σ H s) (mu:Mut (H a)) (hs:Heap.SameBut a s.heap h') (he:∃ q,h'.get? a=some q) (new:ObjOk X.prog X.w (Ag H a ob) h' a ob) :
  Inv X Ab σ (Ag H a ob) { s with heap:=h',toks:=t' }:=
 I.write (x:=a) (e:=a) mu (.inl rfl) (fun b q hb z=>(hs.2 b hb).trans z) he new
theorem qT0 {P:Program} {w:World} {H':Hp} {h':Heap} {Af:List (Key × V)} {vs:List (Key × Value)} (z:Af.length<=sizeLine) (hd:(a == sysModules)=false) (rel:KV Af vs) (dd:h'.DictOf (qB3 P w) a vs) :
  ObjOk P w H' h' a (.dK Af):=⟨z,hd,vs,rel,dd⟩
theorem qT7 {H':Hp} {Q:Unit->Shared->Prop} (hu:A.units+1<cLine) (I:Inv X Ab σ H s) (g:DPut H a y v H') (ry:RelV y u) (rv:RelV v r) (h:∀ s',Inv X Ab σ H' s'->Q () s') :
  wpAny (model X.prog X.w) A (setItem (.ref a) u r) Q E s:=by
 rcases g with ⟨Af,k,e,ey,l,eH⟩ | ⟨Af,k,b,e,ey,eb,l,eH⟩
 ·subst ey eH;obtain ⟨z,hd,vs,rel,dd⟩:=qZM I.hok e;have hz:vs.length<=sizeLine:=by rw [<- rel.length];exact z
  have hl:(putK Af k v).length<=sizeLine:=by have:=qC0 Af k v;lia
  refine wpAny_setItem_pairs (hsz:=hz) (qQ6 ry) dd fun h' dd' hs=>h _ ?_;have he:∃ q,h'.get? a=some q:=let ⟨q,_,_,hq,_⟩:=dd';⟨q,hq⟩
  exact qNT I (by rw [e];exact Y7) hs he (qT0 hl hd (rel.put k rv) dd')
 ·subst ey eH;cases (show u=F3 b from ry);obtain ⟨z,hd,xs,rel,dd⟩:=qb3 I.hok e;have hz:xs.length<=sizeLine:=by rw [<- C6 rel];exact z
  have hl:(putK Af k v).length<=sizeLine:=by have:=qC0 Af k v;lia
  refine wpAny_setItem_heap (hsz:=hz) (tupleKind_room_in1 hu) (qJG I.hok eb) dd fun h' dd' hs=>h _ ?_;obtain ⟨q,es,ep,hq,h2,h3,h4,_,h5⟩:=dd';refine qNT I (by rw [e];exact Y7) hs ⟨q,hq⟩ ⟨hl,hd,_,(rel.put k eb rv).keeps fun c ys ec=>?_,q,es,ep,hq,h2,h3,h4,h5⟩
  rw [qAC (qDV ec e (fun z=>nomatch z))];exact ec
end
section
variable {X:Cx} {Ab:List (Addr × Obj)} {σ:St} {H:Hp} {s:Shared} {a:Addr} {Af:List (Key × V)} {k:Key} {u:Value} {A:Around} {E:Value->Shared->Prop}
end
def NoSl (i:Expr):Prop:=∀ ov iv,subscripted i false ov iv=operate [ov,iv] (getItem ov iv)
theorem qWU {prog:Program} {w:World} {A:Around} {E:Value->Shared->Prop} {s:Shared} {env:Env} {value slice:Expr} {pos:Pos} {T id:String} {Q:Value->Shared->Prop}
  (hl:typeLookup (.type T) "__getitem__" = pure (some (.builtin id))) (hs:NoSl slice)
  (h:wpAny (model prog w) A (eval value env) (fun o s₁=>wpAny (model prog w) A (eval slice env) (fun i s₂=>s₂.TypeIs o T/\wpAny (model prog w) A (getItem o i) Q E s₂) E s₁) E s) :
  wpAny (model prog w) A (eval (.Subscript value slice pos) env) Q E s:=by
 refine Subscript_ (wpAny_mono h (fun o s₁ h₁=>wpAny_mono h₁ (fun i s₂ h₂=>?_) fun _ _ x=>x) fun _ _ x=>x);obtain ⟨hT,h₂⟩:=h₂;unfold subscriptTail;refine wpAny_bind ?_;rw [getitemInPython_of_ne hT.not_modules];refine wpAny_bind (wpAny_specialOf hT hl ?_);have fin:wpAny (model prog w) A (subscripted slice false o i) (fun r s₃=>wpAny (model prog w) A (letTemporaryGo value o r >>= fun _=>pure r) Q E s₃) E s₂:=by
  rw [hs o i];exact wpAny_operating (wpAny_mono h₂ (fun r s₃ h₃=>wpAny_bind (wpAny_letTemporaryGo (wpAny_pure h₃))) fun _ _ x=>x)
 first
  | exact wpAny_pure (wpAny_bind fin)
  | exact wpAny_bind (wpAny_pure (wpAny_bind fin))
  | exact wpAny_bind fin
theorem qNS {X:Cx} {Ab:List (Addr × Obj)} {σ:St} {H:Hp} {s:Shared} {a:Addr} {y:V} {o:Option V} (I:Inv X Ab σ H s) (g:DGet H a y o):s.TypeIs (.ref a) "dict":=by
 rcases g with ⟨Af,k,e,_,_⟩ | ⟨Af,k,b,e,_,_,_⟩
 ·obtain ⟨_,_,vs,_,dd⟩:=qSZ I.hok e;exact dd.typeIs
 ·obtain ⟨_,_,xs,_,dd⟩:=qSY I.hok e;exact dd.typeIs
def qa5 (td ty:TE):TE:=fun σ H Q=>td σ H fun x H1=>ty σ H1 fun y H2=>∃ a v,x=.ref a/\DGet H2 a y (some v)/\Q v H2
def tDIn (ty td:TE):TE:=fun σ H Q=>ty σ H fun y H1=>td σ H1 fun x H2=>∃ a o,x=.ref a/\DGet H2 a y o/\Q (.bl o.isSome) H2
def qWT (ty td:TE):TE:=fun σ H Q=>ty σ H fun y H1=>td σ H1 fun x H2=>∃ a o,x=.ref a/\DGet H2 a y o/\Q (.bl (!o.isSome)) H2
def qa9 (td ty tv:TE):TS:=fun D σ H=>tv σ H fun v H1=>td σ H1 fun x H2=>ty σ H2 fun y H3=>∃ a H4,x=.ref a/\DPut H3 a y v H4/\D.nx σ H4
section
variable {X:Cx} {o i e value:Expr} {pos pos' tpos:Pos} {td ty tv:TE}
theorem qGL (hu:X.A.units+1<cLine) (ho:PE X o td) (hi:PE X i ty) (hs:NoSl i):PE X (.Subscript o i pos) (qa5 td ty):=by
 intro Ab s σ H Q I h;refine qWU PySem.F.slot_dict_getitem.lookup hs (thn (ho Ab s σ H _ I h) fun u s1 ⟨x,H1,I1,rx,q1⟩=>thn (hi Ab s1 σ H1 _ I1 q1) fun iv s2 ⟨y,H2,I2,ry,a,v,ex,g,q2⟩=>?_);subst ex;obtain rfl:u=F3 a:=rx;exact ⟨qNS I2 g,qT8 hu I2 g ry fun w' s3 I3 rw'=>⟨v,H2,I3,rw',q2⟩⟩
theorem qRM (hu:X.A.units+1<cLine) (hi:PE X i ty) (ho:PE X o td):PC X .In i o (tDIn ty td):=by
 intro Ab s σ H Q I h;refine thn (hi Ab s σ H _ I h) fun iv s1 ⟨y,H1,I1,ry,q1⟩=>thn (ho Ab s1 σ H1 _ I1 q1) fun u s2 ⟨x,H2,I2,rx,a,ov,ex,g,q2⟩=>?_;subst ex;obtain rfl:u=F3 a:=rx;exact d_in hu I2 g ry fun s3 I3=>⟨.bl ov.isSome,H2,I3,rfl,q2⟩
theorem qEP (hu:X.A.units+1<cLine) (hi:PE X i ty) (ho:PE X o td):PC X .NotIn i o (qWT ty td):=by
 intro Ab s σ H Q I h;refine thn (hi Ab s σ H _ I h) fun iv s1 ⟨y,H1,I1,ry,q1⟩=>thn (ho Ab s1 σ H1 _ I1 q1) fun u s2 ⟨x,H2,I2,rx,a,ov,ex,g,q2⟩=>?_;subst ex;obtain rfl:u=F3 a:=rx;exact qXU hu I2 g ry fun s3 I3=>⟨.bl (!ov.isSome),H2,I3,rfl,q2⟩
theorem qGK (hu:X.A.units+1<cLine) (ho:PE X o td) (hi:PE X i ty) (hv:PE X value tv) (hs:swapsWith value (some (.Subscript o i pos')) pos.line X.env=pure false) :
  PS X (.Assign [.Subscript o i pos'] value pos) (qa9 td ty tv):=by
 intro Ab s σ H D I h;refine wpAny_Assign_Subscript (thn (hv Ab s σ H _ I h) fun r s1 ⟨v,H1,I1,rv,q1⟩=>thn (ho Ab s1 σ H1 _ I1 q1) fun u s2 ⟨x,H2,I2,rx,q2⟩=>thn (hi Ab s2 σ H2 _ I2 q2) fun iv s3 ⟨y,H3,I3,ry,a,H4,ex,g,q3⟩=>?_) hs;subst ex;obtain rfl:u=F3 a:=rx;exact qT7 hu I3 g ry rv fun s4 I4=>⟨σ,H4,I4,q3⟩
end
theorem qP5 {P:Program} {w:World} {H:Hp} (h:Heap) (hb:sysModules<h.objs.size):ObjOk P w H (h.push { cls:=.type "dict",data:=.dict #[] }) h.objs.size (.dK []):=
 ⟨D8 _,beq_eq_false_iff_ne.mpr (J4 (C2 hb)),[],.nil,B27 h⟩
theorem qVD {P:Program} {w:World} {H:Hp} (h:Heap) (hb:sysModules<h.objs.size):ObjOk P w H (h.push { cls:=.type "dict",data:=.dict #[] }) h.objs.size (.dT []):=
 ⟨D8 _,beq_eq_false_iff_ne.mpr (J4 (C2 hb)),[],.nil,_,#[],0,A9 _ rfl,⟨rfl,rfl,rfl⟩,rfl,rfl,List.nodup_nil⟩
def qYH:TE:=fun _ H Q=>∀ p,H p=none->Q (.ref p) (Ag H p (.dK []))
def qYG:TE:=fun _ H Q=>∀ p,H p=none->Q (.ref p) (Ag H p (.dT []))
section
variable {X:Cx} {pos:Pos}
theorem qOK:PE X (.Dict [] [] pos) qYH:=fun Ab s σ H Q I h=>
 wpAny_Dict_empty ⟨.ref s.heap.objs.size,_,I.laid (a:=s.heap.objs.size) (o:=.dK []) (t':=s.toks) (fun _ _ q=>A4 _ q) (A6 _) (qP5 s.heap I.big),rfl,h _ (I.hok.fresh (A6 _))⟩
theorem qUM:PE X (.Dict [] [] pos) qYG:=fun Ab s σ H Q I h=>
 wpAny_Dict_empty ⟨.ref s.heap.objs.size,_,I.laid (a:=s.heap.objs.size) (o:=.dT []) (t':=s.toks) (fun _ _ q=>A4 _ q) (A6 _) (qVD s.heap I.big),rfl,h _ (I.hok.fresh (A6 _))⟩
end
def qQV:List (TE × TE)->St->Hp->(List (V × V)->Hp->Prop)->Prop
 | [],_,H,Q=>Q [] H
 | (tk,tv)::r,σ,H,Q=>tk σ H fun x H1=>tv σ H1 fun y H2=>qQV r σ H2 fun ps H3=>Q ((x,y)::ps) H3
abbrev VV:List (V × V)->List (Value × Value)->Prop:=Paired fun p q=>RelV p.1 q.1/\RelV p.2 q.2
def PPs (X:Cx) (pos:Pos) (keys:List (Option Expr)) (values:List Expr) (trs:List (TE × TE)):Prop:=
 ∀ (Ab:List (Addr × Obj)) (s:Shared) (σ:St) (H:Hp) (Q:List (V × V)->Hp->Prop),Inv X Ab σ H s->qQV trs σ H Q->
  wpAny (model X.prog X.w) X.A (evalPairs (pairTrees keys values X.env pos)) (fun vs s'=>∃ ps H',Inv X Ab σ H' s'/\VV ps vs/\Q ps H') X.xe s
theorem qRD {X:Cx} {pos:Pos}:PPs X pos [] [] []:=fun Ab s σ H Q I h=>pairTrees_nil_walk ⟨[],H,I,.nil,h⟩
theorem qKD {X:Cx} {pos:Pos} {k v:Expr} {ks:List (Option Expr)} {vs:List Expr} {tk tv:TE} {trs:List (TE × TE)} (hk:PE X k tk) (hv:PE X v tv) (hr:PPs X pos ks vs trs) :
  PPs X pos (some k::ks) (v::vs) ((tk,tv)::trs):=fun Ab s σ H Q I h=>
 pairTrees_cons_walk (thn (hk Ab s σ H _ I h) fun u s1 ⟨x,H1,I1,rx,q1⟩=>thn (hv Ab s1 σ H1 _ I1 q1) fun w2 s2 ⟨y,H2,I2,ry,q2⟩=>
  thn (hr Ab s2 σ H2 _ I2 q2) fun ws s3 ⟨ps,H3,I3,rel,q3⟩=>⟨(x,y)::ps,H3,I3,.cons ⟨rx,ry⟩ rel,q3⟩)
noncomputable def qFA (Af more:List (Key × V)):List (Key × V):=more.foldl (fun acc kv=>putK acc kv.1 kv.2) Af
theorem KV.merge:∀ {more:List (Key × V)} {rs:List (Key × Value)} {Af:List (Key × V)} {vs:List (Key × Value)},KV more rs->KV Af vs->KV (qFA Af more) (merged vs rs):=by
 intro more rs Af vs r;unfold KV at r
 induction r generalizing Af vs with
 | nil=>intro q;exact q
 | @cons p q ps qs h t ih=>
  intro r0;have e:KV (putK Af p.1 p.2) (stored vs q.1 q.2):=by
   have:=r0.put p.1 h.2;rw [<- h.1];exact this
  exact ih e
theorem qG3:∀ (more Af:List (Key × V)),(qFA Af more).length<=Af.length+more.length
 | [],Af=>by show Af.length<=Af.length+0;lia
 | p::r,Af=>by
  have h1:=qG3 r (putK Af p.1 p.2);have h2:=qC0 Af p.1 p.2;show (qFA (putK Af p.1 p.2) r).length<=_;rw [D5];lia
theorem qJL {P:Program} {w:World}:∀ {Af:List (Key × V)} {ws:List (Value × Value)},VV (Af.map fun kv=>(kV kv.1,kv.2)) ws->∃ rs,Carries (qB3 P w) ws rs/\KV Af rs
 | [],_,r=>by rw [A28] at r;cases r;exact ⟨[],Y7,.nil⟩
 | p::Af,_,r=>by
  rw [E5] at r;cases r with
  | @cons a b as bs h t=>
   obtain ⟨rs,c,q⟩:=qJL (P:=P) (w:=w) t;obtain ⟨b1,b2⟩:=b;exact ⟨(p.1,b2)::rs,⟨qQ6 h.1,rfl,c⟩,.cons ⟨rfl,h.2⟩ q⟩
def qa4 (trs:List (TE × TE)):TE:=fun σ H Q=>∀ p,H p=none->qQV trs σ (Ag H p (.dK [])) fun ps H2=>H2 p=some (.dK [])/\∃ Af:List (Key × V),ps=Af.map (fun kv=>(kV kv.1,kv.2))/\Af.length<=15/\Q (.ref p) (Ag H2 p (.dK (qFA [] Af)))
theorem qRL {X:Cx} {pos:Pos} {keys:List (Option Expr)} {values:List Expr} {trs:List (TE × TE)} (h:PPs X pos keys values trs) (hall:keys.all (·.isSome)=true) (hl:keys.length=values.length) (h0:keys ≠ [])
  (h15:keys.length<=15):PE X (.Dict keys values pos) (qa4 trs):=by
 intro Ab s σ H Q I q;have hn:=I.hok.fresh (A6 s.heap.objs.size);have I1:=I.laid (a:=s.heap.objs.size) (o:=.dK []) (h':=s.heap.push { cls:=.type "dict",data:=.dict #[] }) (t':=s.toks) (fun _ _ q=>A4 _ q) (A6 _) (qP5 s.heap I.big);refine wpAny_Dict_walk (knd:=qB3 X.prog X.w) hall hl h0 h15 (thn (h Ab _ σ _ _ I1 (q _ hn)) fun ws s2 ⟨ps,H2,I2,rel,e,Af,ep,lk,q2⟩=>?_);subst ep;obtain ⟨rs,c,rk⟩:=qJL (P:=X.prog) (w:=X.w) rel;obtain ⟨z,hd,vs0,r0,dd⟩:=qZM I2.hok e;cases r0;refine ⟨rs,c,dd,fun h' dd' hs=>⟨.ref s.heap.objs.size,_,?_,rfl,q2⟩⟩;have hz:(qFA [] Af).length<=sizeLine:=by
  have h1:=qG3 Af [];rw [Z6] at h1;rw [sizeLine_eq];lia
 have he:∃ q,h'.get? s.heap.objs.size=some q:=let ⟨q,_,_,hq,_⟩:=dd';⟨q,hq⟩
 exact qNT I2 (by rw [e];exact Y7) hs he (qT0 hz hd (rk.merge .nil) dd')
structure M1 (X:Cx) (o:Expr) (m:Str) (apos:Pos) (e:Expr) (cpos:Pos):Prop where
 base:attributeBase o m X.env (eval o X.env)=eval o X.env
 few:((backTo cpos (starEach [e] X.env)).all (fun x=>!x.1) && (backToKw cpos (keywordEach [] X.env)).all (fun x=>x.1.isSome)
  && decide (([e]:List Expr).length+([]:List Keyword).length+(if ([]:List Keyword).isEmpty then 0 else 1)<30))=true
 line:(apos.endLine == cpos.line)=true
 trees:backTo cpos (starEach [e] X.env)=[(false,eval e X.env)]
structure M2 (X:Cx) (o:Expr) (m:Str) (apos:Pos) (e f:Expr) (cpos:Pos):Prop where
 base:attributeBase o m X.env (eval o X.env)=eval o X.env
 few:((backTo cpos (starEach [e,f] X.env)).all (fun x=>!x.1) && (backToKw cpos (keywordEach [] X.env)).all (fun x=>x.1.isSome)
  && decide (([e,f]:List Expr).length+([]:List Keyword).length+(if ([]:List Keyword).isEmpty then 0 else 1)<30))=true
 line:(apos.endLine == cpos.line)=true
 trees:backTo cpos (starEach [e,f] X.env)=[(false,eval e X.env),(false,eval f X.env)]
section
variable {X:Cx} {Ab:List (Addr × Obj)} {σ:St} {H:Hp} {s:Shared} {a:Addr} {y d:V} {u r:Value} {o:Option V} {A:Around} {E:Value->Shared->Prop}
end
section
variable {X:Cx} {o e f:Expr} {apos cpos:Pos} {td ty tx:TE}
end
section
variable {X:Cx} {Ab:List (Addr × Obj)} {σ:St} {H:Hp} {s:Shared} {a:Addr} {Af:List (Key × V)} {A:Around} {E:Value->Shared->Prop}
end
section
variable {X:Cx} {Ab:List (Addr × Obj)} {σ:St} {H:Hp} {s:Shared} {a:Addr} {y:V} {u:Value} {A:Around} {E:Value->Shared->Prop}
end
end L2
namespace L2
open PySem PySem.Spec PyProof.Rows
section
variable {X:Cx}
end
section
variable {κ:Type} [DecidableEq κ]
theorem qI4:∀ {l:List κ} {k:κ},l.Nodup->¬ k ∈ l->(l++[k]).Nodup
 | [],k,_,_=>by simp
 | a::r,k,h,hk=>by
  obtain ⟨h1,h2⟩:=Q3.mp h;show (a::(r++[k])).Nodup;refine Q3.mpr ⟨fun m=>?_,qI4 h2 fun m=>hk (B6.mpr (o6 m))⟩;rcases B1.mp m with q | q
  ·exact h1 q
  ·exact hk (B6.mpr (E8 (A8.mp q).symm))
end
end L2
namespace L2
open PySem PySem.Spec PyProof.Rows
def noX:Value->Shared->Prop:=fun _ _=>False
noncomputable def qHA (env:Env):List (Str × NameKind)->List (Str × Addr)->List (Str × Addr)
 | [],acc=>acc
 | (n,k)::r,acc=>qHA env r (if (k == O3)=true then (n,(env.cells.lookup n).getD 0)::acc else acc)
theorem qIJ {env:Env}:∀ {names:List (Str × NameKind)} {acc:List (Str × Addr)},(∀ x,(x,O3) ∈ names->∃ c,env.cells.lookup x=some c)->(∀ x c,acc.lookup x=some c->env.cells.lookup x=some c)->
  ∀ x c,(qHA env names acc).lookup x=some c->env.cells.lookup x=some c
 | [],acc,_,ha,x,c,h=>ha x c h
 | (n,k)::r,acc,hf,ha,x,c,h=>by
  refine qIJ (names:=r) (fun y hy=>hf y (D4 _ hy)) (fun y d hd=>?_) x c h
  split at hd
  ·rename_i hk
   have hk':k=O3:=by simpa using hk
   subst hk';obtain ⟨e,he⟩:=hf n C9;by_cases hyn:y=n
   ·subst hyn;rw [Q4,he] at hd;rw [he];exact hd
   ·rw [d7,beq_eq_false_iff_ne.mpr hyn] at hd;exact ha y d hd
  ·exact ha y d hd
theorem qIK {env:Env}:∀ {names:List (Str × NameKind)} {acc:List (Str × Addr)} {x:Str},((x,O3) ∈ names\/∃ c,acc.lookup x=some c)->∃ c,(qHA env names acc).lookup x=some c
 | [],acc,x,h=>by
  rcases h with h | h
  ·exact absurd h (by simp)
  ·exact h
 | (n,k)::r,acc,x,h=>by
  refine qIK (names:=r) ?_;rcases h with h | ⟨c,h⟩
  ·rcases B6.mp h with e | h
   ·cases e;refine .inr ⟨(env.cells.lookup n).getD 0,?_⟩;rw [if_pos (by rfl),Q4]
   ·exact .inl h
  ·refine .inr ?_
   split
   ·by_cases hyn:x=n
    ·subst hyn;exact ⟨_,Q4⟩
    ·refine ⟨c,?_⟩;rw [d7,beq_eq_false_iff_ne.mpr hyn];exact h
   ·exact ⟨c,h⟩
theorem qII {env:Env} (f:Str × NameKind->List (Str × Addr)->Sem (ForInStep (List (Str × Addr))))
  (hf:∀ n k c,f (n,k) c=(if (k == O3)=true then (do let a <- cellOf env n;pure (P0 ((n,a)::c))) else pure (P0 c))) :
  ∀ (names:List (Str × NameKind)) (acc:List (Str × Addr)),(∀ x,(x,O3) ∈ names->∃ c,env.cells.lookup x=some c)->forIn names acc f=(pure (qHA env names acc):Sem _)
 | [],acc,_=>rfl
 | (n,k)::r,acc,h=>by
  have ih:=fun acc=>qII f hf r acc fun x hx=>h x (D4 _ hx);rw [R6,hf];by_cases hk:(k == O3)=true
  ·have hk':k=O3:=by simpa using hk
   subst hk';obtain ⟨c,hc⟩:=h n C9;rw [if_pos hk];unfold cellOf qHA;rw [hc,if_pos hk];exact ih _
  ·rw [if_neg hk];unfold qHA;rw [if_neg hk];exact ih _
theorem qQG {scope:Scope} {env:Env} (h:∀ x,(x,O3) ∈ scope.names->∃ c,env.cells.lookup x=some c):closureFor scope env=pure (qHA env scope.names []):=by
 unfold closureFor;dsimp only;rw [qII (env:=env) _ (fun n k c=>?_) scope.names [] h]
 ·rfl
 ·rfl
theorem qDI {env:Env} {x:Str}:∀ {names:List (Str × NameKind)},
  (names.map fun (n,k)=>if (k == O3 && env.scope.kind == .function && env.kindOf n == some .cell)=true then (n,B45) else (n,k)).lookup x =
   (names.lookup x).map fun k=>if (k == O3 && env.scope.kind == .function && env.kindOf x == some .cell)=true then B45 else k
 | []=>rfl
 | (n,k)::r=>by
  have ih:=@qDI env x r;rw [E5];by_cases hx:x=n
  ·subst hx;dsimp only;rw [Q4 (b:=k),X0]
   split
   ·rw [Q4]
   ·rw [Q4]
  ·have hb:(x == n)=false:=beq_eq_false_iff_ne.mpr hx;dsimp only;rw [d7 (k:=n) (b:=k),hb];dsimp only;rw [<- ih]
   split
   ·rw [d7,hb]
   ·rw [d7,hb]
structure LcZ where
 L:Addr
 cl:List (Str × Addr)
 ex:List Addr
 s₀:Shared
 H₀:Hp
noncomputable def lcCx (X:Cx) (scope:Scope) (own:List Str) (fv:List Nat) (z:LcZ):Cx where
 prog:=X.prog
 w:=X.w
 K:=X.K
 mg:=X.mg
 base:=X.base
 A:=X.A
 N:=own++fv.map fun i=>X.N.getD i Z7
 s₀:=z.s₀
 H₀:=z.H₀
 env:=compEnvC scope z.cl z.L X.env
 outer:=X.stack
 stack:=X.stack
 ex:=z.ex
 fn:=fun _=>false
 calm:=X.calm
 pn:=[]
 xe:=noX
structure LcScope (X:Cx) (scope:Scope) (own:List Str) (fv:List Nat):Prop where
 kind:scope.kind=.function
 nocell:∀ y ∈ scope.names,y.2 ≠ .cell
 names:∀ y ∈ scope.names,y.2=.local->scope.names.lookup y.1=some .local
 free:∀ y ∈ scope.names,y.2=.free->X.env.kindOf y.1=some .cell\/X.env.kindOf y.1=some .free
 nd:(own++fv.map fun i=>X.N.getD i Z7).Nodup
 fvs:∀ i ∈ fv,i<X.N.length/\scope.names.lookup (X.N.getD i Z7)=some .free
noncomputable def qI6 (own:List Str) (fv:List Nat) (σ:St):St:=(own.map fun _=>none)++fv.map fun i=>(σ[i]?).join
theorem qMG {prog:Program} {w:World} {A:Around} {R:Result->Shared->Prop} {s:Shared} {elt target iter:Expr} {ifs:List Expr} {scope:Scope} {pos:Pos} {it acc:Value} {env:Env} (I:Nat->Shared->Prop)
  (turn:∀ n s,I n s->wpAny (model prog w) A (pyNext it) (fun r s₁=>match r with
   | none=>R (.ok .next) s₁
   | some v=>wpAny (model prog w) A (letOwnedTupleGo target it v) (fun _ s₁=>wpAny (model prog w) A (assign target env v) (fun _ s₂=>
     wpAny (model prog w) A (forIn ifs true fun c r=>if r=true then do let ok <- isTrue c env (eval c env);pure (P0 ok) else pure (P0 r)) (fun ok s₃=>
      if ok=true then wpAny (model prog w) A (eval elt env) (fun x s₄=>
       wpAny (model prog w) A (call (.builtin "list.append") [acc,x]) (fun _ s₅=>∃ m,m<n/\I m s₅) noX s₄) noX s₃
      else ∃ m,m<n/\I m s₃) noX s₂) noX s₁) noX s₁) noX s)
  (n:Nat) (h:I n s) :
  codeAny (model prog w) A (.compLoop (.ListComp elt [⟨target,iter,ifs,0⟩] scope pos) 0 it acc env) R s:=by
 refine codeAny_loop rfl I (fun n s hI=>?_) n h;show wpAny _ A ((compTurn (.ListComp elt [⟨target,iter,ifs,0⟩] scope pos) 0 it acc env).onRaise (fun x=>do noteFrame x env;theTreesLotGoes x)) _ _ s
 refine wpAny_noted ?_;rw [compTurn_list];refine wpAny_bind (wpAny_standAt (wpAny_bind (wpAny_mono (turn n s hI) (fun r s₁ h₁=>?_) fun _ _ h'=>h'.elim)));cases r with
 | none=>exact wpAny_pure h₁
 | some v=>
  refine wpAny_bind (wpAny_mono h₁ (fun _ s₁ h₁=>?_) fun _ _ h'=>h'.elim);refine wpAny_bind (wpAny_mono h₁ (fun _ s₂ h₂=>wpAny_bind (wpAny_mono h₂ (fun ok s₃ h₃=>?_) fun _ _ h'=>h'.elim)) fun _ _ h'=>h'.elim);cases ok with
  | false=>exact wpAny_pure ⟨rfl,h₃⟩
  | true=>
   exact wpAny_bind (wpAny_bind (wpAny_mono h₃ (fun x s₄ h₄=>wpAny_bind (wpAny_mono h₄ (fun _ s₅ h₅=>wpAny_pure (wpAny_pure ⟨rfl,h₅⟩)) fun _ _ h'=>h'.elim)) fun _ _ h'=>h'.elim))
section
variable {X:Cx} {Ab:List (Addr × Obj)} {σ:St} {H:Hp} {s:Shared}
theorem Inv.other {h':Heap} {L:Addr} {n:Nat} (I:Inv X Ab σ H s) (hb:X.s₀.heap.objs.size<=L) (h0:H L=none) (h1:L ≠ X.env.locals) (h2:∀ x c,X.env.cells.lookup x=some c->c ≠ L) (h3:∀ p ∈ X.pn++Ab,p.1 ≠ L)
  (k:Heap.SameBut L s.heap h'):Inv X Ab σ H { s with heap:=h' }:=
 I.turned (t':=s.toks) (fun b o hb e=>(k.2 b hb).trans e) h0 h1 (.inr hb) h2 h3
theorem qZ7 {scope:Scope} {own:List Str} {fv:List Nat} {fp:List Addr} (I:Inv X Ab σ H s) (S:LcScope X scope own fv) (hf:∀ b ∈ fp,FpOk X Ab H b) (hsz:∀ b ∈ fp,b<s.heap.objs.size) :
  (lcCx X scope own fv ⟨s.heap.objs.size,qHA X.env scope.names [],fp,s,H⟩).Ok:=by
 have hfr:∀ x,(x,O3) ∈ scope.names->∃ c,X.env.cells.lookup x=some c:=fun x hx=>I.ok.has x (S.free _ hx rfl);have sub:=qIJ (env:=X.env) (names:=scope.names) (acc:=[]) hfr (fun x c z=>by simp at z)
 refine ⟨I.ok.mod,S.kind,I.ok.glob,I.ok.blt,A6 _,fun x y c h1 h2=>I.ok.inj x y c (sub _ _ h1) (sub _ _ h2),fun x hx=>?_,fun x c hx=>?_,I.ok.hd,I.ok.frames,.inl rfl,fun b hb=>⟨?_,fun x c e=>?_⟩,I.bs,J6 I.ok.bsz I.sz,fun b o e hb=>?_,fun b hb hb'=>?_,I.stack,I.stkFree⟩
 ·refine qIK (.inl ?_);have hx':(relabel scope X.env).names.lookup x=some .cell\/(relabel scope X.env).names.lookup x=some .free:=hx;unfold relabel at hx';rw [qDI] at hx';cases e:scope.names.lookup x with
  | none=>rw [e] at hx';simp at hx'
  | some k=>
   have hm:=P6 e;have nc:=S.nocell _ hm;rw [e] at hx';simp only [X0,Option.some.injEq] at hx';cases k with
   | free=>exact hm
   | cell=>exact absurd rfl nc
   | _=>simp at hx'
 ·cases hx
 ·exact C2 (hsz b hb)
 ·exact (hf b hb).2.2.2.2.1 x c (sub _ _ e)
 ·rcases (hf b hb).2.2.2.1 with z | z
  ·exact I.ok.noex b o e z
  ·exact absurd (E7 (B3 (I.ok.bs b o e).1) z) (X5 _)
 ·rcases B6.mp (I.stkSub b hb') with z | z
  ·exact (hf b hb).2.1 z
  ·exact (hf b hb).2.2.1 z
theorem qUT {scope:Scope} {own:List Str} {fv:List Nat} {fp:List Addr} {h₁:Heap} {tk:Nat} (I:Inv X Ab σ H s) (S:LcScope X scope own fv) (hf:∀ b ∈ fp,FpOk X Ab H b) (hsz:∀ b ∈ fp,b<s.heap.objs.size)
  (hns:h₁.Ns s.heap.objs.size (fun _=>none)) (hk:∀ b o,s.heap.get? b=some o->h₁.get? b=some o) :
  Inv (lcCx X scope own fv ⟨s.heap.objs.size,qHA X.env scope.names [],fp,s,H⟩) [] (qI6 own fv σ) H { s with heap:=h₁,toks:=tk }:=by
 have hfr:∀ x,(x,O3) ∈ scope.names->∃ c,X.env.cells.lookup x=some c:=fun x hx=>I.ok.has x (S.free _ hx rfl);have sub:=qIJ (env:=X.env) (names:=scope.names) (acc:=[]) hfr (fun x c z=>by simp at z)
 refine ⟨qZ7 I S hf hsz,rfl,I.bare,Un.kept hk,⟨_,hns,fun i x v h1 h2 h3=>?_⟩,fun x c e=>?_,I.hok.fresh (A6 _),fun x c e=>I.freeC x c (sub _ _ e),fun p hp=>absurd (show p ∈ ([]:List (Addr × Obj)) from hp) (by simp),I.hok.kept hk,?_⟩
 ·have h1:(own++fv.map fun i=>X.N.getD i Z7)[i]?=some x:=h1;unfold qI6 at h2;have hi:own.length<=i:=by
   apply T5;intro hi;rw [O9 (by simpa using hi),B5] at h2
   cases e:own[i]? with
   | none=>rw [e] at h2;cases h2
   | some z=>rw [e] at h2;cases h2
  rw [T0 (by simpa using hi),A0,B5] at h2
  rw [T0 hi,B5] at h1;cases e:fv[i - own.length]? with
  | none=>rw [e] at h1;cases h1
  | some j=>
   rw [e] at h1 h2;have hj:=S.fvs j (C3 e);have h1:X.N.getD j Z7=x:=I0 h1;have h2:(σ[j]?).join=some v:=I0 h2;have h2':σ[j]?=some (some v):=by
    cases q:σ[j]? with
    | none=>rw [q] at h2;cases h2
    | some y=>rw [q] at h2;exact congrArg some h2
   have hx:X.N[j]?=some x:=by
    rw [O4] at h1;rw [A3 hj.1] at h1 ⊢;exact congrArg some h1
   have hlk:scope.names.lookup x=some .free:=h1 ▸ hj.2;have hmem:=P6 hlk;obtain ⟨m,hn,hl⟩:=id I.loc;have hkd:=S.free _ hmem rfl;obtain ⟨u,ru,lk⟩:=hl j x v hx h2' (by
    rcases hkd with z | z
    ·exact .inr (.inl z)
    ·exact .inr (.inr z))
   refine ⟨u,ru,?_⟩;rcases lk with ⟨z,_⟩ | ⟨_,c,e1,z⟩
   ·rcases hkd with y | y
    ·have y':X.env.kindOf x=some .cell:=y;rw [z] at y';cases y'
    ·have y':X.env.kindOf x=some .free:=y;rw [z] at y';cases y'
   ·obtain ⟨c',e2⟩:=qIK (env:=X.env) (names:=scope.names) (acc:=[]) (x:=x) (.inl hmem);have e3:=sub _ _ e2;rw [e1] at e3;cases e3;obtain ⟨o,ho,hd⟩:=z;refine .inr ⟨?_,c,e2,o,hk _ _ ho,hd⟩;show (relabel scope X.env).names.lookup x=some .cell\/(relabel scope X.env).names.lookup x=some .free;unfold relabel;rw [qDI,hlk,X0]
    split
    ·exact .inl rfl
    ·exact .inr rfl
 ·obtain ⟨v,o,ho,hd⟩:=I.cell x c (sub _ _ e);exact ⟨v,o,hk _ _ ho,hd⟩
 ·unfold qI6;show _=(own++fv.map fun i=>X.N.getD i Z7).length;rw [A7,A7,A0,A0,A0]
theorem qXH {scope:Scope} {own:List Str} {fv:List Nat} {fp:List Addr} {pins':List (Addr × Obj)} {σ':St} {H':Hp} {s':Shared} {cl:List (Str × Addr)} (I:Inv X Ab σ H s) (hf:∀ b ∈ fp,FpOk X Ab H b)
  (J:Inv (lcCx X scope own fv ⟨s.heap.objs.size,cl,fp,s,H⟩) pins' σ' H' s'):Inv X Ab σ H' s':=
 I.call' (ch:=fp) J.os J.base J.hok J.bare fun b hb=>⟨(hf b hb).2.2.2.1,(hf b hb).2.1,(hf b hb).2.2.2.2.1,(hf b hb).2.2.2.2.2⟩
end
def PTs (X:Cx) (ifs:List Expr) (t:TT):Prop:=
 ∀ (Ab:List (Addr × Obj)) (s:Shared) (σ:St) (H:Hp) (Q:Bool->Hp->Prop),Inv X Ab σ H s->t σ H Q->
  wpAny (model X.prog X.w) X.A (forIn ifs true fun c r=>if r=true then do let ok <- isTrue c X.env (eval c X.env);pure (P0 ok) else pure (P0 r)) (TP X Ab σ Q) X.xe s
def qZW:TT:=fun _ H Q=>Q true H
theorem qB2 {X:Cx}:PTs X [] qZW:=fun Ab s σ H Q I h=>wpAny_tests_nil ⟨H,I,h⟩
theorem qCB {X:Cx} {c:Expr} {t:TT} (h:PT X c t):PTs X [c] t:=fun Ab s σ H Q I hq=>wpAny_tests_one (h Ab s σ H Q I hq)
def qZ8 (own:List Str) (fv:List Nat) (wi:TI) (g:TG) (tc:TT) (te:TE) (K:Addr->Hp->Prop):St->Hp->Prop:=fun σ H=>wi σ H fun J H1=>∀ p,H1 p=none->
 ∃ W:Nat->Nat->St->Hp->Prop,(∃ m,W 0 m (qI6 own fv σ) (Ag H1 p (.lst [])))/\∀ i m σ H,W i m σ H->
  (J.stop i H/\K p H)\/(J.go i H/\∃ N:St->Hp->Prop,(∀ σ' H',N σ' H'->∃ m',m'<m/\W (i+1) m' σ' H')/\∀ x H',J.yld i H x H'->g x σ H' fun σ2 H2=>tc σ2 H2 fun b H3=>
   if b=true then te σ2 H3 fun y H4=>∃ ys,H4 p=some (.lst ys)/\ys.length<sizeLine/\N σ2 (Ag H4 p (.lst (ys++[y])))
   else N σ2 H3)
def tLc (own:List Str) (fv:List Nat) (wi:TI) (g:TG) (tc:TT) (te:TE):TE:=fun σ H Q=>qZ8 own fv wi g tc te (fun p H'=>Q (.ref p) H') σ H
section
variable {X:Cx} {tg iter elt:Expr} {ifs:List Expr} {scope:Scope} {pos:Pos} {own:List Str} {fv:List Nat} {wi:TI} {g:TG} {tc:TT} {te:TE}
theorem qS0 {Ab:List (Addr × Obj)} {s:Shared} {σ:St} {H:Hp} {K:Addr->Hp->Prop} {use:Option (Value->Sem Unit)} {Q:Value->Shared->Prop} {E:Value->Shared->Prop} (hc:X.calm=true) (S:LcScope X scope own fv) (hi:PI X tg iter wi)
  (hg:∀ z,PG (lcCx X scope own fv z) tg g) (ht:∀ z,PTs (lcCx X scope own fv z) ifs tc) (he:∀ z,PE (lcCx X scope own fv z) elt te)
  (I:Inv X Ab σ H s) (h:qZ8 own fv wi g tc te K σ H) (hxe:∀ e s,X.xe e s->E e s)
  (fin:∀ (p:Addr) (L:Addr) (H':Hp) (s':Shared) (m:Str->Option Value),Inv X Ab σ H' s'->K p H'->s'.heap.Ns L m->X.s₀.heap.objs.size<=L->H' L=none->L ≠ X.env.locals->(∀ x c,X.env.cells.lookup x=some c->c ≠ L)->(∀ q ∈ X.pn++Ab,q.1 ≠ L)->
   compPost (model X.prog X.w) X.A E use Q (.ref p) L (.ok .next) s') (hs:∀ x,foldedSetIterable iter X.env x=pure x:=by intro _;rfl) :
  wpAny (model X.prog X.w) X.A (comprehension (.ListComp elt [⟨tg,iter,ifs,0⟩] scope pos) scope X.env (firstIterPos [⟨tg,iter,ifs,0⟩] pos) (newList []) false (eval iter X.env) use) Q E s:=by
 have hfr:∀ x,(x,O3) ∈ scope.names->∃ c,X.env.cells.lookup x=some c:=fun x hx=>I.ok.has x (S.free _ hx rfl);refine wpAny_comprehension_free rfl hs (qQG hfr) S.kind S.names (wpAny_mono (hi Ab s σ H _ I h) (fun v s1 h1=>wpAny_mono h1 (fun itv s2 h2=>?_) hxe) hxe);obtain ⟨it,fp,tn,J,H2,e,I2,T,st2,f2,q2⟩:=h2;subst e
 -- the list
 refine wpAny_newObj_type ?_;have fresh2:H2 s2.heap.objs.size=none:=I2.hok.fresh (A6 _);have I3:Inv X Ab σ (Ag H2 s2.heap.objs.size (.lst [])) { s2 with heap:=s2.heap.push { cls:=.type "list",dict:=none,data:=.seq ([]:List Value).toArray } }:=
  I2.laid (t':=s2.toks) (fun b u e=>A4 _ e) (A6 _) ⟨D8 _,[],0,.nil,A9 _ rfl⟩
 obtain ⟨W,⟨m0,w0⟩,turn⟩:=q2 s2.heap.objs.size fresh2;have lt2:∀ b ∈ fp,b<s2.heap.objs.size:=fun b hb=>by
  obtain ⟨o,e,_⟩:=T.obj 0 _ st2 b hb;exact B3 e
 have f3:∀ b ∈ fp,FpOk X Ab (Ag H2 s2.heap.objs.size (.lst [])) b:=fun b hb=>⟨by rw [qAC (C2 (lt2 b hb))];exact (f2 b hb).1,(f2 b hb).2⟩
 generalize hp:s2.heap.objs.size=p at *;generalize hH3:Ag H2 p (.lst [])=H3 at *;have st3:tn 0 (s2.heap.push { cls:=.type "list",dict:=none,data:=.seq ([]:List Value).toArray }):=T.keep _ _ _ st2 fun b _ o e=>A4 _ e;have lt3:∀ b ∈ fp,b<(s2.heap.push { cls:=.type "list",dict:=none,data:=.seq ([]:List Value).toArray }).objs.size:=fun b hb=>by
  rw [M6];have:=lt2 b hb;rw [hp];exact P8 this
 generalize hs3:({ s2 with heap:=s2.heap.push { cls:=.type "list",dict:=none,data:=.seq ([]:List Value).toArray } }:Shared)=s3 at *;have st3':tn 0 s3.heap:=by rw [<- hs3];exact st3
 have lt3':∀ b ∈ fp,b<s3.heap.objs.size:=by rw [<- hs3];exact lt3
 -- the block's frame
 refine wpAny_newFunctionEnv S.nocell (by intro y hy;simp at hy) (fun h₁ hns₁ hsb₁=>?_) S.kind
 have keep1:∀ b o,s3.heap.get? b=some o->h₁.get? b=some o:=fun b o e=>hsb₁.extBut b o (C2 (B3 e)) (A4 _ e);have J0:Inv (lcCx X scope own fv ⟨s3.heap.objs.size,qHA X.env scope.names [],fp,s3,H3⟩) [] (qI6 own fv σ) H3 { s3 with heap:=h₁,toks:=s3.toks+([]:List (Str × Value)).length }:=qUT I3 S f3 lt3' hns₁ keep1;have cOk:=qZ7 I3 S f3 lt3';generalize hz:(⟨s3.heap.objs.size,qHA X.env scope.names [],fp,s3,H3⟩:LcZ)=z at *;have st4:tn 0 h₁:=T.keep _ _ _ st3' fun b _ o e=>keep1 b o e;have fr4:∀ b ∈ fp,H3 b=none:=fun b hb=>(f3 b hb).1;have stat:∀ {H':Hp},(∀ b ∈ fp,H' b=none)->∀ b ∈ fp,FpOk (lcCx X scope own fv z) [] H' b:=fun hn b hb=>by
  subst hz;refine ⟨hn b hb,(cOk.exf b hb).1,cOk.exfs b hb,.inl hb,(cOk.exf b hb).2,fun q hq=>absurd (show q ∈ ([]:List (Addr × Obj)) from hq) (by simp)⟩
 have envE:({ newEnv scope s3.heap.objs.size X.env.globals (qHA X.env scope.names []) X.env.qual none .none (some X.env) builtinsNs with scope:=relabel scope X.env }:Env)=(lcCx X scope own fv z).env:=by
  subst hz
  rfl
 have loop:∀ sA:Shared,sA={ s3 with heap:=h₁,toks:=s3.toks+([]:List (Str × Value)).length }->codeAny (model X.prog X.w) X.A (.compLoop (.ListComp elt [⟨tg,iter,ifs,0⟩] scope pos) 0 (.ref it) (.ref p) (lcCx X scope own fv z).env)
   (compPost (model X.prog X.w) X.A E use Q (.ref p) s3.heap.objs.size) sA:=by
  rintro sA rfl;refine qMG (fun n s'=>∃ i σ' H',Inv (lcCx X scope own fv z) [] σ' H' s'/\tn i s'.heap/\(∀ b ∈ fp,H' b=none)/\W i n σ' H') ?_ m0 ⟨0,_,H3,J0,st4,fr4,w0⟩;rintro n s4 ⟨i,σ4,H4,I4,st4,fr4,w4⟩;rcases turn i n σ4 H4 w4 with ⟨stop,qn⟩ | ⟨go,Nx,hNx,step⟩
  ·refine thn (T.done (lcCx X scope own fv z) rfl rfl rfl hc i [] s4 σ4 H4 noX I4 (stat fr4) st4 stop) fun r s5 ⟨hr,I5⟩=>?_;subst hr;subst hz;have I6:Inv X Ab σ H4 s5:=qXH I3 f3 I5;obtain ⟨m,hn,_⟩:=id I5.loc;have fpL:=I3.fpOk (H':=H4) (b:=s3.heap.objs.size) (A6 _) I5.free;refine fin p s3.heap.objs.size H4 s5 m I6 qn hn I3.sz fpL.1 fpL.2.1 fpL.2.2.2.2.1 fpL.2.2.2.2.2
  ·refine thn (T.item (lcCx X scope own fv z) rfl rfl rfl hc i [] s4 σ4 H4 noX I4 (stat fr4) st4 go) fun r s5 ⟨u,hr,h5⟩=>?_;subst hr;refine thn h5 fun _ s6 ⟨x,H6,I6,r6,y6,st6,fr6⟩=>?_;have I6':=I6.pinned (stat fr6) (T.obj _ _ st6);have again:∀ {σ7:St} {H7:Hp} {s7:Shared} {m':Nat},m'<n->Inv (lcCx X scope own fv z) ([]++qLW fp s6.heap) σ7 H7 s7->W (i+1) m' σ7 H7->
     ∃ m,m<n/\∃ i σ' H',Inv (lcCx X scope own fv z) [] σ' H' s7/\tn i s7.heap/\(∀ b ∈ fp,H' b=none)/\W i m σ' H':=fun {σ7 H7 s7 m'} hm I7 w7=>by
    refine ⟨m',hm,i+1,σ7,H7,I7.unpinned,T.keep _ _ _ st6 fun b hb o e=>(I7.pin (b,o) (J7 _ (J7 _ (qF7 hb e)))).1,fun b hb=>?_,w7⟩;obtain ⟨o,e,d⟩:=T.obj _ _ st6 b hb;exact (I7.pin (b,o) (J7 _ (J7 _ (qF7 hb e)))).2.1
   refine thn (hg z _ s6 σ4 H6 x u _ I6' r6 (step x H6 y6)) fun _ s7 ⟨σ7,H7,I7,q7⟩=>?_;refine thn (ht z _ s7 σ7 H7 _ I7 q7) fun b s8 ⟨H8,I8,q8⟩=>?_;cases b with
   | false=>
    obtain ⟨m',hm,w8⟩:=hNx _ _ q8;exact again hm I8 w8
   | true=>
    refine thn (he z _ s8 σ7 H8 _ I8 q8) fun v s9 ⟨y,H9,I9,r9,ys,ep,hl,w9⟩=>?_;refine thn (qDW (X:=lcCx X scope own fv z) _ s9 σ7 H9 (.ref p) [y] (.ref p) [v] (fun _ H'=>Nx σ7 H') I9 rfl (.cons r9 .nil) ⟨p,ys,y,rfl,rfl,ep,hl,w9⟩) fun _ s10 ⟨_,H10,I10,_,q10⟩=>?_;obtain ⟨m',hm,w10⟩:=hNx _ _ q10;exact again hm I10 w10
 rw [envE];exact codeAny_compStart_list (loop _ rfl) (T.self _ _ _ _ _ st4 (loop _ rfl))
theorem qC6 (hc:X.calm=true) (S:LcScope X scope own fv) (hi:PI X tg iter wi) (hg:∀ z,PG (lcCx X scope own fv z) tg g) (ht:∀ z,PTs (lcCx X scope own fv z) ifs tc) (he:∀ z,PE (lcCx X scope own fv z) elt te)
  (hs:∀ x,foldedSetIterable iter X.env x=pure x:=by intro _;rfl):PE X (.ListComp elt [⟨tg,iter,ifs,0⟩] scope pos) (tLc own fv wi g tc te):=by
 intro Ab s σ H Q I h;rw [eval_ListComp];refine qS0 (use:=none) (K:=fun p H'=>Q (.ref p) H') hc S hi hg ht he I h (fun _ _ q=>q) (fun p L H' s' m I' q hn h1 h2 h3 h4 h5=>?_) hs;exact ⟨m,hn,fun h' hs'=>⟨.ref p,H',I'.other (n:=0) h1 h2 h3 h4 h5 hs',rfl,q⟩⟩
theorem qLU {i:Nat} {x:Str} {pos' spos:Pos} (hN:X.N.Nodup) (hx:X.N[i]?=some x) (hl:X.env.scope.names.lookup x=some .local) (hc:X.calm=true) (S:LcScope X scope own fv) (hi:PI X tg iter wi) (hg:∀ z,PG (lcCx X scope own fv z) tg g)
  (ht:∀ z,PTs (lcCx X scope own fv z) ifs tc) (he:∀ z,PE (lcCx X scope own fv z) elt te) (hsw:swapsWith (.ListComp elt [⟨tg,iter,ifs,0⟩] scope pos) (some (.Name x pos')) spos.line X.env=pure true)
  (hs:∀ x,foldedSetIterable iter X.env x=pure x:=by intro _;rfl):PS X (.Assign [.Name x pos'] (.ListComp elt [⟨tg,iter,ifs,0⟩] scope pos) spos) (tAsg (tLc own fv wi g tc te) (qSI i)):=by
 intro Ab s σ H D I h;rw [exec_Assign_Name_used _ _ _ _ hsw];refine wpAny_bind (wpAny_standAt (wpAny_bind ?_));show wpAny _ X.A (do let _ <- comprehension (.ListComp elt [⟨tg,iter,ifs,0⟩] scope pos) scope X.env _ (newList []) false (eval iter X.env) (some (assign (.Name x pos') X.env))) _ _ s
 refine wpAny_bind (wpAny_mono (qS0 (use:=some (assign (.Name x pos') X.env)) (K:=fun p H'=>D.nx (σ.set i (some (.ref p))) H') (Q:=fun _ s'=>SP X Ab D .next s') (E:=X.xe) hc S hi hg ht he I h (fun _ _ q=>q) (fun p L H' s' m I' q hn h1 h2 h3 h4 h5=>?_) hs)
  (fun _ s' hq=>wpAny_pure (wpAny_pure hq)) fun _ _ e=>e)
 show wpAny _ X.A (assign (.Name x pos') X.env (.ref p)) _ _ _;refine wpAny_assign_Name (qLF (v:=.ref p) I' hN hx (.inl hl) rfl (fun s2 I2 ⟨a,hsb,ha⟩=>?_) (.inr hl));have hLa:L ≠ a:=by
  rcases ha with z | z
  ·rw [z];exact h3
  ·exact fun y=>h4 x a z y.symm
 exact ⟨m,hn.sameBut hsb hLa,fun h' hs'=>⟨_,H',I2.other (n:=0) h1 h2 h3 h4 h5 hs',q⟩⟩
end
abbrev LcG (I:It) (g:TG) (tc:TT) (te:TE) (Kf:Hp->Prop) (σ0:St) (H0:Hp) (p:Addr):Prop:=∃ W:Nat->Nat->St->Hp->Prop,(∃ m,W 0 m σ0 H0)/\∀ i m σ H,W i m σ H->(I.stop i H/\Kf H)\/(I.go i H/\∃ N:St->Hp->Prop,(∀ σ' H',N σ' H'->∃ m',m'<m/\W (i+1) m' σ' H')/\∀ x H',I.yld i H x H'->g x σ H' fun σ2 H2=>tc σ2 H2 fun b H3=>if b=true then te σ2 H3 fun y H4=>∃ ys,H4 p=some (.lst ys)/\ys.length<sizeLine/\N σ2 (Ag H4 p (.lst (ys++[y]))) else N σ2 H3)
theorem qCI {lo:Int} {n:Nat} {g:TG} {tc:TT} {te:TE} {Kf:Hp->Prop} {σ0:St} {H0:Hp} {p:Addr} (Pv:Nat->St->Hp->Prop) (h0:Pv 0 σ0 H0)
  (hs:∀ i σ H,i<n->Pv i σ H->g (.int (lo+i)) σ H fun σ2 H2=>tc σ2 H2 fun b H3=>if b=true then te σ2 H3 fun y H4=>∃ ys,H4 p=some (.lst ys)/\ys.length<sizeLine/\Pv (i+1) σ2 (Ag H4 p (.lst (ys++[y]))) else Pv (i+1) σ2 H3)
  (hd:∀ σ H,Pv n σ H->Kf H) :
  LcG (Itr lo n) g tc te Kf σ0 H0 p:=by
 refine ⟨fun i m σ H=>m=n - i/\i<=n/\Pv i σ H,⟨n,by simp,D8 _,h0⟩,?_⟩
 rintro i m σ H ⟨rfl,hi,q⟩;by_cases hlt:i<n
 ·refine .inr ⟨hlt,Pv (i+1),fun σ' H' p'=>⟨n - (i+1),by omega,rfl,hlt,p'⟩,fun x H' y=>?_⟩
  obtain ⟨e,y⟩:=y;subst e y;exact hs i σ _ hlt q
 ·have e:i=n:=by omega
  subst e;exact .inl ⟨A6 _,hd σ H q⟩
theorem qDJ {K:PySem.W.Frag} {a:Addr} {xs:List V} {g:TG} {tc:TT} {te:TE} {Kf:Hp->Prop} {σ0:St} {H0:Hp} {p:Addr} (Pv:Nat->St->Hp->Prop) (h0:Pv 0 σ0 H0) (hl:∀ i σ H,i<=xs.length->Pv i σ H->SqL K H a xs)
  (hs:∀ i x σ H,xs[i]?=some x->Pv i σ H->g x σ H fun σ2 H2=>tc σ2 H2 fun b H3=>if b=true then te σ2 H3 fun y H4=>∃ ys,H4 p=some (.lst ys)/\ys.length<sizeLine/\Pv (i+1) σ2 (Ag H4 p (.lst (ys++[y]))) else Pv (i+1) σ2 H3)
  (hd:∀ σ H,Pv xs.length σ H->Kf H) :
  LcG (Itl K a) g tc te Kf σ0 H0 p:=by
 refine ⟨fun i m σ H=>m=xs.length - i/\i<=xs.length/\Pv i σ H,⟨xs.length,by simp,D8 _,h0⟩,?_⟩
 rintro i m σ H ⟨rfl,hi,q⟩;have hq:=hl i σ H hi q;by_cases hlt:i<xs.length
 ·refine .inr ⟨⟨xs,xs[i],hq,by simp [hlt]⟩,Pv (i+1),fun σ' H' p'=>⟨xs.length - (i+1),by omega,rfl,hlt,p'⟩,fun x H' y=>?_⟩
  obtain ⟨e,y⟩:=y;subst e;exact hs i x σ _ (y xs hq) q
 ·have e:i=xs.length:=by omega
  subst e;exact .inl ⟨⟨xs,hq,A6 _⟩,hd σ H q⟩
theorem qER {K:PySem.W.Frag} {a:Addr} {xs:List V} {g:TG} {tc:TT} {te:TE} {Kf:Hp->Prop} {σ0:St} {H0:Hp} {p:Addr} (Pv:Nat->St->Hp->Prop) (h0:Pv 0 σ0 H0) (hl:∀ i σ H,i<=xs.length->Pv i σ H->SqT K H a xs)
  (hs:∀ i x σ H,xs[i]?=some x->Pv i σ H->g x σ H fun σ2 H2=>tc σ2 H2 fun b H3=>if b=true then te σ2 H3 fun y H4=>∃ ys,H4 p=some (.lst ys)/\ys.length<sizeLine/\Pv (i+1) σ2 (Ag H4 p (.lst (ys++[y]))) else Pv (i+1) σ2 H3)
  (hd:∀ σ H,Pv xs.length σ H->Kf H) :
  LcG (Itt K a) g tc te Kf σ0 H0 p:=by
 refine ⟨fun i m σ H=>m=xs.length - i/\i<=xs.length/\Pv i σ H,⟨xs.length,by simp,D8 _,h0⟩,?_⟩
 rintro i m σ H ⟨rfl,hi,q⟩;have hq:=hl i σ H hi q;by_cases hlt:i<xs.length
 ·refine .inr ⟨⟨xs,xs[i],hq,by simp [hlt]⟩,Pv (i+1),fun σ' H' p'=>⟨xs.length - (i+1),by omega,rfl,hlt,p'⟩,fun x H' y=>?_⟩
  obtain ⟨e,y⟩:=y;subst e;exact hs i x σ _ (y xs hq) q
 ·have e:i=xs.length:=by omega
  subst e;exact .inl ⟨⟨xs,hq,A6 _⟩,hd σ H q⟩
noncomputable def qS1 (scope:Scope) (own:List Str) (fv:List Nat) (osc:Scope) (N:List Str):Bool:=
 decide (scope.kind=.function) && scope.names.all (fun y=>decide (y.2 ≠ .cell)) && scope.names.all (fun y=>decide (y.2 ≠ .local) || decide (scope.names.lookup y.1=some .local)) &&
 scope.names.all (fun y=>decide (y.2 ≠ .free) || (decide (osc.names.lookup y.1=some .cell) || decide (osc.names.lookup y.1=some .free))) && decide ((own++fv.map fun i=>N.getD i Z7).Nodup) &&
 fv.all fun i=>decide (i<N.length) && decide (scope.names.lookup (N.getD i Z7)=some .free)
theorem lcs {X:Cx} {scope:Scope} {own:List Str} {fv:List Nat} (h:qS1 scope own fv X.env.scope X.N=true):LcScope X scope own fv:=by
 unfold qS1 at h;simp only [O1,decide_eq_true_eq,F2,A30] at h;obtain ⟨⟨⟨⟨⟨h1,h2⟩,h3⟩,h4⟩,h5⟩,h6⟩:=h;exact ⟨h1,h2,fun y hy e=>(h3 y hy).resolve_left fun z=>z e,fun y hy e=>(h4 y hy).resolve_left fun z=>z e,h5,h6⟩
theorem qaQ {N:List Str} (h:decide N.Nodup=true):N.Nodup:=of_decide_eq_true h
theorem qI0 {X:Cx} {K:PySem.W.Frag} {es:List Expr} {k n:Nat} {t:TGs} {pos:Pos} (hK:X.K=K) (hc:X.calm=true) (h:PGs X es t) (hn:(assignEach es X.env).length=n) (hst:(assignEach es X.env).findIdx? (·.1)=none):PG X (.Tuple es k pos) (gTup K n t):=by
 subst hK hn;exact qLX hc h rfl hst
theorem qN2 {X:Cx} {K:PySem.W.Frag} {tg l:Expr} {tl:TE} (hK:X.K=K) (hl:PE X l tl):PI X tg l (iTup K tl):=by subst hK;exact qDQ hl
theorem qKI {X:Cx} {K:PySem.W.Frag} (hK:X.K=K):IxR X (rIxT K):=by subst hK;exact qC8
theorem qOW {X:Cx} {K:PySem.W.Frag} (hK:X.K=K):IxR X (rIxL K):=by subst hK;exact qC1
theorem qJB {X:Cx} {K:PySem.W.Frag} (hK:X.K=K):OpR X (compareOp .In) (rIn K false):=by subst hK;exact qDT
theorem qFL {X:Cx} {K:PySem.W.Frag} (hK:X.K=K):qCF X (.type "tuple") (fun xs H Q=>∃ p ys,xs=[.ref p]/\((SqL K H p ys/\∀ l,H l=none->Q (.ref l) (Ag H l (.tup ys)))\/(SqT K H p ys/\Q (.ref p) H))):=by subst hK;exact qAF
end L2
namespace L2
open PySem PySem.Spec PyProof.Rows
theorem qL5 {xs:Array Nat} {j:Nat} (up:∀ a b,a<b->b<xs.size->xs.getD a j<xs.getD b j):∀ (fuel lo hi:Nat),lo<=hi->hi<=xs.size->hi - lo<=fuel->(∀ i,i<lo->xs.getD i j<j)->(∀ i,hi<=i->i<xs.size->j<=xs.getD i j)->
  k7 xs j fuel lo hi<=xs.size/\(∀ i,i<k7 xs j fuel lo hi->xs.getD i j<j)/\(∀ i,k7 xs j fuel lo hi<=i->i<xs.size->j<=xs.getD i j)
 | 0,lo,hi,h1,h2,h3,a,b=>by
  have e:lo=hi:=by lia
  subst e;exact ⟨h2,a,b⟩
 | fuel+1,lo,hi,h1,h2,h3,a,b=>by
  unfold k7;by_cases hlt:lo<hi
  ·rw [if_pos hlt];dsimp only;have hm1:lo<=(lo+hi) / 2:=by lia
   have hm2:(lo+hi) / 2<hi:=by lia
   by_cases hc:xs.getD ((lo+hi) / 2) j<j
   ·rw [if_pos hc];refine qL5 up fuel _ _ (by lia) h2 (by lia) (fun i hi'=>?_) b
    by_cases e:i=(lo+hi) / 2
    ·rw [e];exact hc
    ·exact R1 (up i ((lo+hi) / 2) (by lia) (by lia)) hc
   ·rw [if_neg hc];refine qL5 up fuel _ _ (by lia) (by lia) (by lia) a (fun i hi' hs=>?_)
    by_cases e:i=(lo+hi) / 2
    ·rw [e];lia
    ·have:=up ((lo+hi) / 2) i (by lia) hs
     lia
  ·rw [if_neg hlt];have e:lo=hi:=by lia
   subst e;exact ⟨h2,a,b⟩
theorem qQT {xs:Array Nat} (j:Nat) (h:xs.toList.Pairwise (·<·)):∀ a b,a<b->b<xs.size->xs.getD a j<xs.getD b j:=fun a b hab hb=>by
 have:=c7.mp h a b (by simpa using R1 hab hb) (by simpa using hb) hab
 rw [C5,C5,B7 (R1 hab hb),B7 hb];simpa using this
theorem qCX {xs:Array Nat} {j:Nat} (h:xs.toList.Pairwise (·<·)):B8 xs j<=xs.size/\(∀ i,i<B8 xs j->xs.getD i j<j)/\(∀ i,B8 xs j<=i->i<xs.size->j<=xs.getD i j):=by
 unfold B8;exact qL5 (qQT j h) xs.size 0 xs.size (D8 _) (A6 _) (by lia) (fun i hi=>absurd hi (by lia)) (fun i hi hs=>absurd hs (by lia))
theorem qB5 {α:Type} (xs:Array α) (p:Nat) (x:α):(C4 xs p x).toList=xs.toList.take p++x::xs.toList.drop p:=by
 unfold C4;simp [Array.toList_extract,D3]
structure T7 (byText:Bool) (t:SetTable) (n:Nat):Prop where
 mask:t.mask=7
 dum:t.dummies=#[]
 plain:t.plain=true
 led:t.led=!byText
 size:t.place.size=n
 up:t.place.toList.Pairwise (·<·)
 le:∀ j ∈ t.place.toList,j<=7
section
variable {byText:Bool} {t:SetTable} {n:Nat}
theorem T7.slot (T:T7 byText t n) (j:Nat):(t.slot j=.empty/\j ∉ t.place.toList)\/(∃ i,t.slot j=.live i/\j ∈ t.place.toList):=by
 unfold B46;dsimp only;have hd:A31 t.dummies j=false:=by rw [T.dum];rfl
 obtain ⟨b1,b2,b3⟩:=qCX (j:=j) T.up;by_cases hc:t.place[B8 t.place j]?=some j
 ·rw [if_pos (by rw [hc];simp)]
  exact .inr ⟨_,rfl,by rw [<- B47];exact A32 hc⟩
 ·rw [if_neg (by simpa using hc),hd,if_neg (by simp)]
  refine .inl ⟨rfl,fun hm=>?_⟩;obtain ⟨i,hi,he⟩:=P5.mp hm;have hi':i<t.place.size:=by simpa using hi
  have he':t.place.getD i j=j:=by
   rw [C5,B7 hi'];simpa using he
  have h1:¬ i<B8 t.place j:=fun z=>by have:=b2 i z;lia
  have h2:B8 t.place j=i:=by
   apply B28 (T5 h1);apply T5;intro z;have:=b3 (B8 t.place j) (A6 _) (by lia)
   have:=qQT j T.up _ _ z hi'
   lia
  apply hc;rw [h2,B7 hi'];simpa using he
def pr (i pt:Nat):SetTable.Probe:={ j:=i,more:=0,i:=i,perturb:=pt,dummy:=none }
theorem T7.adv (T:T7 byText t n) (i pt:Nat):t.advance (pr i pt)=pr ((i * 5+1+pt / 32) % 8) (pt / 32):=by
 unfold B10 pr SetTable.leap L6;rw [T.mask];dsimp only;rw [if_neg (by lia),if_neg (by lia),B02]
theorem T7.go1 (T:T7 byText t n) (h:Int) (f i pt:Nat) :
  (D9 t (fun _=>h+1) h (f+1) (pr i pt)=some (.empty i none)/\i ∉ t.place.toList)\/
  (D9 t (fun _=>h+1) h (f+1) (pr i pt)=D9 t (fun _=>h+1) h f (pr ((i * 5+1+pt / 32) % 8) (pt / 32))/\i ∈ t.place.toList):=by
 rcases T.slot i with ⟨e,m⟩ | ⟨k,e,m⟩
 ·left
  refine ⟨?_,m⟩;unfold D9;rw [show (pr i pt).j=i from rfl,e]
  rfl
 ·right
  refine ⟨?_,m⟩;rw [D9];rw [show (pr i pt).j=i from rfl,e];dsimp only;rw [if_neg (by simp;lia),T.adv]
def F8 (i:Nat):Nat:=(i * 5+1) % 8
def F8n:Nat->Nat->Nat
 | 0,i=>i
 | m+1,i=>F8n m (F8 i)
theorem T7.go0 (T:T7 byText t n) (h:Int) (f:Nat):∀ (m i:Nat),(∃ j,D9 t (fun _=>h+1) h (m+f) (pr i 0)=some (.empty j none)/\j ∉ t.place.toList/\∃ q,q<m/\j=F8n q i)\/(∀ q,q<m->F8n q i ∈ t.place.toList)
 | 0,i=>.inr fun q hq=>absurd hq (by lia)
 | m+1,i=>by
  rcases T.go1 h (m+f) i 0 with ⟨e,z⟩ | ⟨e,z⟩
  ·exact .inl ⟨i,by rw [show m+1+f=m+f+1 by lia];exact e,z,0,by lia,rfl⟩
  ·rw [show m+1+f=m+f+1 by lia,e]
   have e2:(i * 5+1+0 / 32) % 8=F8 i:=by unfold F8;lia
   rw [e2];rcases T.go0 h f m (F8 i) with ⟨j,e3,z3,q,hq,e4⟩ | e3
   ·exact .inl ⟨j,e3,z3,q+1,by lia,e4⟩
   ·refine .inr fun q hq=>?_;cases q with
    | zero=>exact z
    | succ q=>exact e3 q (by lia)
theorem qZP:∀ i:_root_.Fin 8,∀ j:_root_.Fin 8,∃ q:_root_.Fin 8,F8n q.1 i.1=j.1:=by decide
theorem qZO:∀ (q i:Nat),i<8->F8n q i<8
 | 0,i,h=>h
 | q+1,i,h=>qZO q (F8 i) (X1 _ (by decide))
theorem T7.goK (T:T7 byText t n) (hn:n<=7) (h:Int) (f:Nat):∀ (k i pt:Nat),i<8->pt<32 ^ k->∃ j,D9 t (fun _=>h+1) h (k+(8+f)) (pr i pt)=some (.empty j none)/\j ∉ t.place.toList/\j<=7
 | 0,i,pt,hi,hp=>by
  have e:pt=0:=by lia
  subst e;rw [A33];rcases T.go0 h f 8 i with ⟨j,e,z,q,hq,e2⟩ | e
  ·exact ⟨j,e,z,by have:=qZO q i hi;lia⟩
  ·exfalso
   have sub:[0,1,2,3,4,5,6,7] ⊆ t.place.toList:=fun j hj=>by
    have hj8:j<8:=by
     simp at hj
     lia
    obtain ⟨q,hq⟩:=qZP ⟨i,hi⟩ ⟨j,hj8⟩;rw [<- show F8n q.1 i=j from hq];exact e q.1 q.2
   have:=O5 (by decide:[0,1,2,3,4,5,6,7].Nodup) sub
   have hs:=T.size;simp at this
   lia
 | k+1,i,pt,hi,hp=>by
  rw [show k+1+(8+f)=k+(8+f)+1 by lia]
  rcases T.go1 h (k+(8+f)) i pt with ⟨e,z⟩ | ⟨e,z⟩
  ·exact ⟨i,e,z,by lia⟩
  ·rw [e];refine T.goK hn h f k _ _ (X1 _ (by decide)) ?_
   rw [R3] at hp
   lia
theorem T7.free (T:T7 byText t n) (hn:n<=7) (h:Int):∃ j,t.freeSlot h=some (j,false)/\j ∉ t.place.toList/\j<=7:=by
 have hb:F4 h<32 ^ 13:=by
  unfold F4;have h1:0<=h % (2 ^ 64:Int):=R7 _ (by decide)
  have h2:h % (2 ^ 64:Int)<2 ^ 64:=P3 _ (by decide)
  have:((2:Int) ^ 64)=18446744073709551616:=by decide
  rw [this] at h1 h2 ⊢;have h3:(32:Nat) ^ 13=36893488147419103232:=by decide
  lia
 obtain ⟨j,e,z,l⟩:=T.goK hn h 199 13 (F4 h % 8) (F4 h) (X1 _ (by decide)) hb
 refine ⟨j,?_,z,l⟩;have hst:t.probeStart h=pr (F4 h % 8) (F4 h):=by
  unfold SetTable.probeStart pr L6;rw [T.mask];dsimp only;rw [if_neg (by lia),B02]
 unfold A90 B36;rw [hst,show 10 * R4 t.mask=13+(8+199) by rw [T.mask];rfl,e]
 rfl
theorem T7.lay (T:T7 byText t n) (hn:n<=3) {es:Array (Int × Value)} (he:es.size=n) (h:Int) (x:Value) :
  ∃ p t',layNew t es h x=(C4 es p (h,x),t',false,false)/\T7 byText t' (n+1)/\t'.tooFull=false/\p<=es.size:=by
 obtain ⟨j,e,z,l⟩:=T.free (by lia) h
 obtain ⟨b1,b2,b3⟩:=qCX (j:=j) T.up;have hd:A31 t.dummies j=false:=by rw [T.dum];rfl
 have tl:(C4 t.place (B8 t.place j) j).toList=t.place.toList.take (B8 t.place j)++j::t.place.toList.drop (B8 t.place j):=qB5 _ _ _;have sz:(C4 t.place (B8 t.place j) j).size=n+1:=by
  rw [<- B2,tl,A7,D5,B9,F1,B2,T.size];rw [T.size] at b1
  lia
 have T':T7 byText { t with place:=C4 t.place (B8 t.place j) j,dummies:=t.dummies } (n+1):=by
  refine ⟨T.mask,T.dum,T.plain,T.led,sz,?_,?_⟩
  ·show (C4 t.place (B8 t.place j) j).toList.Pairwise (·<·);rw [tl];have geti:∀ i,i<t.place.size->t.place.getD i j=t.place.toList.getD i j:=fun i hi=>by
    rw [C5,O4,F6]
   have lo:∀ a ∈ t.place.toList.take (B8 t.place j),a<j:=fun a ha=>by
    obtain ⟨i,hi,hai⟩:=P5.mp ha;rw [B9,B2] at hi;have hi1:i<B8 t.place j:=by lia
    have hi2:i<t.place.size:=by lia
    have:=b2 i hi1;rw [C5,B7 hi2] at this;rw [A91] at hai;rw [<- hai];simpa using this
   have hi:∀ a ∈ t.place.toList.drop (B8 t.place j),j<a:=fun a ha=>by
    have hm:a ∈ t.place.toList:=Q8 ha;obtain ⟨i,hi,hai⟩:=P5.mp ha;rw [F1,B2] at hi;have hi2:B8 t.place j+i<t.place.size:=by lia
    have:=b3 _ (A16 _ i) hi2;rw [C5,B7 hi2] at this;rw [A92] at hai;have h3:j<=a:=by
     rw [<- hai];simpa using this
    rcases A74 h3 with h4 | h4
    ·exact h4
    ·exact absurd (h4 ▸ hm) z
   refine c5.mpr ⟨T.up.sublist (b0 _ _),O6.mpr ⟨hi,T.up.sublist (A00 _ _)⟩,fun a ha b hb=>?_⟩;rcases B6.mp hb with e | hb
   ·rw [e];exact lo a ha
   ·exact R1 (lo a ha) (hi b hb)
  ·show ∀ i ∈ (C4 t.place (B8 t.place j) j).toList,i<=7;rw [tl];intro i hi;rcases B1.mp hi with hi | hi
   ·exact T.le i (W3 hi)
   ·rcases B6.mp hi with e | hi
    ·lia
    ·exact T.le i (Q8 hi)
 have fits:X7 { t with place:=C4 t.place (B8 t.place j) j,dummies:=t.dummies } (n+1)=true:=by
  unfold X7 b6;dsimp only;rw [sz,T.dum,T.mask];have:((#[]:Array Nat)).size=0:=rfl;simp only [this,beq_self_eq_true,J5,decide_eq_true_eq]
  lia
 have szE:(C4 es (B8 t.place j) (h,x)).size=n+1:=by
  rw [<- B2,qB5,A7,D5,B9,F1,B2];rw [T.size] at b1
  lia
 refine ⟨B8 t.place j,{ t with place:=C4 t.place (B8 t.place j) j,dummies:=t.dummies },?_,T',?_,by rw [he,<- T.size];exact b1⟩
 ·unfold layNew;rw [e];dsimp only;unfold B53;rw [hd];dsimp only;rw [szE];unfold A75;simp only [E9,if_false];rw [fits];simp
 ·unfold B11 b6;dsimp only;rw [sz,T.dum,T.mask];have:((#[]:Array Nat)).size=0:=rfl;rw [this];exact decide_eq_false (by lia)
end
end L2
namespace L2
open PySem PySem.Spec PyProof.Rows
theorem qJK {α:Type}:∀ (l:List α) (i:Nat) (h:i<l.length),(l[i]::l.eraseIdx i).Perm l
 | [],i,h=>absurd h (by simp)
 | a::r,0,h=>.refl _
 | a::r,i+1,h=>by
  have hi:i<r.length:=by simpa using h
  have ih:=qJK r i hi;show (r[i]::a::r.eraseIdx i).Perm (a::r);exact (List.Perm.swap _ _ _).trans (ih.cons a)
theorem qRG {α:Type} (next:Nat->Nat):∀ (fuel k:Nat) (left:List α) (out:Array α),fuel=left.length->(B03 next fuel k left out).toList.Perm (out.toList++left)
 | 0,k,left,out,h=>by
  have:left=[]:=X8.mp h.symm;subst this;unfold B03;simp
 | fuel+1,k,left,out,h=>by
  have hl:0<left.length:=by lia
  have hm:next k % left.length<left.length:=X1 _ hl;unfold B03;rw [A3 hm];dsimp only;refine (qRG next fuel (k+1) _ _ (by rw [List.length_eraseIdx_of_lt hm];lia)).trans ?_
  rw [Array.toList_push,j8];exact l9 _ (qJK left _ hm)
theorem qRF {α:Type} (next:Nat->Nat) (xs:Array α):(pickOrder next xs).toList.Perm xs.toList:=by
 unfold pickOrder;have:=qRG next xs.size 0 xs.toList #[] (by simp)
 simpa using this
abbrev Ents:List Int->List (Int × Value)->Prop:=Paired fun k e=>∃ tk,e=(hashInt k,Q2 k tk)
theorem Ents.perm:∀ {es es':List (Int × Value)} {ks:List Int},Ents ks es->es'.Perm es->∃ ks',Ents ks' es'/\ks'.Perm ks:=by
 intro es es' ks h p;have key:∀ {a b:List (Int × Value)},a.Perm b->∀ ks,Ents ks b->∃ ks',Ents ks' a/\ks'.Perm ks:=by
  intro a b p
  induction p with
  | nil=>intro ks h;exact ⟨ks,h,.refl _⟩
  | cons x p ih=>
   intro ks h;cases h with
   | cons r t=>
    obtain ⟨ks',h1,h2⟩:=ih _ t;exact ⟨_::ks',.cons r h1,h2.cons _⟩
  | swap x y l=>
   intro ks h;cases h with
   | cons r t=>
    cases t with
    | cons r' t'=>exact ⟨_,.cons r' (.cons r t'),.swap _ _ _⟩
  | trans p q ih1 ih2=>
   intro ks h;obtain ⟨k1,h1,h2⟩:=ih2 ks h;obtain ⟨k2,h3,h4⟩:=ih1 k1 h1;exact ⟨k2,h3,h4.trans h2⟩
 exact key p ks h
theorem Ents.elems {prog:Program} {w:World} {es:List (Int × Value)} {ks:List Int} (h:Ents ks es):ElemsOf (intKind prog w) es:=by
 intro e he;have key:∀ {ks:List Int} {es:List (Int × Value)},Ents ks es->∀ e ∈ es,∃ k tk,e=(hashInt k,Q2 k tk):=by
  intro ks es h
  induction h with
  | nil=>intro e he;cases he
  | cons r t ih=>
   intro e he;rcases B6.mp he with z | z
   ·subst z;obtain ⟨tk,e⟩:=r;exact ⟨_,tk,e⟩
   ·exact ih e z
 obtain ⟨k,tk,rfl⟩:=key h e he;exact ⟨⟨k,by simp [intKind,A10],rfl⟩,rfl⟩
theorem Ents.find {prog:Program} {w:World} {k:Int}:∀ {es:List (Int × Value)} {ks:List Int},Ents ks es->((A76 (fun e=>(intKind prog w).is k e.2) es).isSome=true ↔ k ∈ ks)
 | _,_,.nil=>by simp
 | _,_,.cons r t=>by
  obtain ⟨tk,rfl⟩:=r
  rename_i k' ks' es'
  have ih:=Ents.find (prog:=prog) (w:=w) (k:=k) t;rw [List.findIdx?_cons,B6];have hi:(intKind prog w).is k (Q2 k' tk)=decide (k=k'):=by
   by_cases e:k=k'
   ·simp [intKind,A10,e]
   ·have e':¬ k'=k:=fun z=>e z.symm;simp [intKind,A10,e,e']
  dsimp only;rw [hi];by_cases e:k=k'
  ·simp [e]
  ·simp only [e,decide_false,E9,if_false,false_or,j9];exact ih
noncomputable def byT (w:World):Bool:=w.params.followText "set-order"
def SetI (w:World) (a:Addr) (zs:List Int) (h:Heap):Prop:=
 ∃ (es:Array (Int × Value)) (ep:Nat) (t:SetTable) (ks:List Int),h.get? a=some { cls:=.type "set",data:=.set es ep t }/\T7 (byT w) t es.size/\Ents ks es.toList/\ks.Perm zs/\zs.Nodup/\zs.length<=4
theorem SetI.at {w:World} {a:Addr} {zs:List Int} {h h':Heap} (x:SetI w a zs h) (k:∀ o,h.get? a=some o->h'.get? a=some o):SetI w a zs h':=
 let ⟨es,ep,t,ks,h1,r⟩:=x;⟨es,ep,t,ks,k _ h1,r⟩
theorem T7.fits {b:Bool} {t:SetTable} {n:Nat} (T:T7 b t n) (hn:n<=7):t.fits n=true:=by
 unfold X7 b6;rw [T.size,T.dum,T.mask];have:((#[]:Array Nat)).size=0:=rfl;simp only [this,beq_self_eq_true,J5,decide_eq_true_eq]
 lia
noncomputable def addI (zs:List Int) (k:Int):List Int:=if k ∈ zs then zs else zs++[k]
section
variable {prog:Program} {w:World} {A:Around} {E:Value->Shared->Prop} {s:Shared}
theorem SetI.size {a:Addr} {zs:List Int} {h:Heap} {es:Array (Int × Value)} {ks:List Int} (he:Ents ks es.toList) (hp:ks.Perm zs):es.size=zs.length:=by
 rw [<- hp.length_eq,C6 he,B2]
theorem qU6 {a:Addr} {zs:List Int} {k:Int} {tk:Tok} {Q:Bool->Shared->Prop} (hS:SetI w a zs s.heap) (hroom:zs.length<=3\/k ∈ zs)
  (h:∀ h',Heap.SameBut a s.heap h'->SetI w a (addI zs k) h'->∀ b,Q b { s with heap:=h' }):wpAny (model prog w) A (setAddHashed a (.int k tk) (hashInt k)) Q E s:=by
 obtain ⟨es,ep,t,ks,ho,T,he,hp,hnd,hlen⟩:=id hS;have hsz:es.size=zs.length:=SetI.size (a:=a) (h:=s.heap) he hp;have hel:ElemsOf (intKind prog w) es.toList:=he.elems;have hb:es.size<scanBound:=by rw [hsz];unfold scanBound;lia
 have hf:t.fits es.size=true:=T.fits (by lia)
 unfold setAddHashed setAddHashedIn;refine wpAny_holding (wpAny_bind (wpAny_setState_of ho rfl hf ?_));dsimp only;rw [byScan_of (knd:=intKind prog w) (x:=.int k tk) rfl hb hel];simp only [↓reduceIte];unfold setAddByScan;refine wpAny_bind ?_;refine wpAny_bind (wpAny_rule ?_);refine wpAny_bind (wpAny_setScan_of (knd:=intKind prog w) (k:=k) (intKind_is _ _ _ _) ho rfl hf hel ?_);have hfd:=Ents.find (prog:=prog) (w:=w) (k:=k) he;cases hr:A76 (fun e=>(intKind prog w).is k e.2) es.toList with
 | some j=>
  dsimp only;rw [hr] at hfd;have hk:k ∈ zs:=hp.mem_iff.mp (hfd.mp rfl);refine wpAny_pure (wpAny_pure ?_);have e:s={ s with heap:=s.heap }:=by cases s;rfl
  rw [e];refine h s.heap (A93 a s.heap) ?_ _;unfold addI;rw [if_pos hk];exact hS
 | none=>
  dsimp only;rw [hr] at hfd;have hk:¬ k ∈ zs:=fun z=>by have:=hfd.mpr (hp.mem_iff.mpr z);cases this
  have h3:zs.length<=3:=hroom.resolve_right hk;obtain ⟨p,t',e1,T',tf,hpe⟩:=T.lay (by lia) rfl (hashInt k) (.int k tk)
  rw [e1];dsimp only;refine wpAny_bind (wpAny_pure ?_);rw [T'.plain];simp only [↓reduceIte];rw [hashByValue_scannable 8 (x:=.int k tk) rfl];refine wpAny_bind (wpAny_pure ?_);have hszE:(C4 es p (hashInt k,Q2 k tk)).size=es.size+1:=by
   rw [<- B2,qB5,A7,D5,B9,F1,B2]
   lia
  rw [show plainKind (Q2 k tk)=true from rfl];simp only [↓reduceIte];show wpAny _ _ (storeSet a (C4 es p (hashInt k,.int k tk)) t' >>= _) _ _ _;refine wpAny_bind (wpAny_storeSet_of ho rfl ?_ (by rw [hszE,hsz,sizeLine_eq];lia))
  rw [tf];simp only [Q1,E9,↓reduceIte];refine wpAny_pure (wpAny_pure ?_);refine h _ (M8 s.heap a _) ?_ _;have hg:(s.heap.update a (A94 (C4 es p (hashInt k,.int k tk)) t')).get? a=some { cls:=.type "set",data:=.set (C4 es p (hashInt k,.int k tk)) (ep+1) t' }:=by
   have:=L5 (A94 (C4 es p (hashInt k,.int k tk)) t') ho (by rw [putSet_of _ _ (ep:=ep) (es:=es) (t:=t) rfl];rfl)
   rw [putSet_of _ _ (ep:=ep) (es:=es) (t:=t) rfl] at this;exact this
  have hpm:(C4 es p (hashInt k,Q2 k tk)).toList.Perm (es.toList++[(hashInt k,.int k tk)]):=by
   rw [qB5];have e3:es.toList++[(hashInt k,Q2 k tk)]=es.toList.take p++(es.toList.drop p++[(hashInt k,Q2 k tk)]):=by
    rw [<- j8,A34]
   rw [e3];exact l9 _ (u8 _ _).symm
  obtain ⟨ks',h4,h5⟩:=Ents.perm (ks:=ks++[k]) (Z8 he ⟨tk,rfl⟩) hpm;refine ⟨_,_,t',ks',hg,by rw [hszE];exact T',h4,?_,?_,?_⟩
  ·unfold addI;rw [if_neg hk];exact h5.trans (hp.append_right _)
  ·unfold addI;rw [if_neg hk];exact qI4 hnd hk
  ·unfold addI;rw [if_neg hk,A7,B4]
   lia
end
noncomputable def dedI:List Int->List Int:=fun l=>l.foldl addI []
theorem qVH (zs:List Int) (k:Int):(addI zs k).length<=zs.length+1:=by
 unfold addI
 split <;> simp
theorem qCJ:∀ (l zs:List Int),(l.foldl addI zs).length<=zs.length+l.length
 | [],zs=>by simp
 | k::r,zs=>by
  have h1:=qCJ r (addI zs k);have h2:=qVH zs k;rw [W8,D5]
  lia
section
variable {prog:Program} {w:World} {A:Around} {R:Result->Shared->Prop} {I:Addr} {fp wr:List Addr} {G:Array GenState->Array GenState->Prop} {n:Nat} {P:Nat->Value->Prop} {St:Nat->Shared->Prop}
theorem qLL (W:WalksS prog w A.in1 I fp wr G n P St) (S:Addr) (hSf:S ∉ fp) (ns:List Int) (hnn:ns.length=n) (h4:n<=4) (hval:∀ i v,P i v->∃ t,v=.int (ns.getD i 0) t) :
  ∀ (k i:Nat) (s:Shared),n - i=k->i<=n->St i s->SetI w S (dedI (ns.take i)) s.heap->
   (∀ s',Moved (S::wr) G s s'->SetI w S (dedI ns) s'.heap->R (.ok (.ret .none)) s')->
   codeAny (model prog w) A (.builtin "set.update.loop" ⟨[.ref S,.ref I],[]⟩) R s:=by
 have hSw:S ∉ wr:=fun h=>hSf (W.sub _ h);have hsub:∀ b ∈ wr,b ∈ S::wr:=fun b hb=>D4 _ hb;intro k
 induction k with
 | zero=>
  intro i s hk hi hst hS hR;have hin:i=n:=by lia
  subst hin;refine codeAny_builtin F.entry_set_update_loop ?_;rw [J3 F.plain_set_update_loop _];show wpAny _ A.in1 (pyNext (.ref I) >>= _) _ _ s;refine wpAny_bind (W.done s _ _ hst fun s' hm=>?_);show wpAny _ A.in1 (ret L7) _ _ s';rw [D3 (by lia)] at hS
  exact wpAny_pure (hR s' (hm.mono hsub) (hS.at fun o e=>hm.heap S _ hSw e))
 | succ k ih=>
  intro i s hk hi hst hS hR;have hlt:i<n:=by lia
  refine codeAny_builtin F.entry_set_update_loop ?_;rw [J3 F.plain_set_update_loop _];show wpAny _ A.in1 (pyNext (.ref I) >>= _) _ _ s;refine wpAny_bind (W.item i s _ _ hlt hst fun v s' hP hst' hm=>?_);obtain ⟨t,rfl⟩:=hval i v hP;have hS':SetI w S (dedI (ns.take i)) s'.heap:=hS.at fun o e=>hm.heap S _ hSw e;show wpAny _ A.in1 (holding [Q2 (ns.getD i 0) t] (setAdd S (.int (ns.getD i 0) t)) >>= _) _ _ s';refine wpAny_bind (wpAny_holding ?_);unfold setAdd;refine wpAny_holding ?_;refine wpAny_bind ((intKind prog w).pyHash (k:=ns.getD i 0) (intKind_is _ _ _ _) ?_);have hroom:(dedI (ns.take i)).length<=3:=by
   have:=qCJ (ns.take i) [];rw [B9] at this;unfold dedI;simp at this
   lia
  refine qU6 (s:={ s' with toks:=s'.toks+1 }) hS' (.inl hroom) fun h' hsb hS2 b=>?_;have e2:addI (dedI (ns.take i)) (ns.getD i 0)=dedI (ns.take (i+1)):=by
   have hi':i<ns.length:=by lia
   rw [C7,A3 hi',C8];unfold dedI;rw [A01,W8,A54,O4,A3 hi',Y6]
  rw [e2] at hS2;refine wpAny_pure ⟨plainId_quiet F.plain_set_update_loop _,ih (i+1) _ (by lia) hlt (W.frame _ s' _ _ hst' (R8 _) fun b hb o e=>?_) hS2 fun s'' hm'' hS''=>?_⟩
  ·rw [hsb.2 b (fun h:b=S=>hSf (by rw [<- h];exact hb))];exact e
  ·refine hR s'' (Moved.trans W.gtrans ((hm.mono hsub).then_heap (R8 _) fun b o hb e=>?_) hm'') hS'';rw [hsb.2 b (fun h:b=S=>hb (by rw [h];exact C9))];exact e
end
end L2
namespace L2
open PySem PySem.Spec PyProof.Rows
noncomputable abbrev freshSet (w:World):Obj:={ cls:=.type "set",dict:=none,data:=.set #[] 0 (.fresh 0 0 (!byT w)) }
section
variable {prog:Program} {w:World} {A:Around} {E:Value->Shared->Prop} {s:Shared}
theorem qLN (a:Value) {Q₁:Value->Shared->Prop} (h:Q₁ (.ref s.heap.objs.size) { s with heap:=s.heap.push (freshSet w) }) :
  codeAny (model prog w) A (.call (.builtin "set.__new__") ⟨[.type "set",a],[]⟩) (wants Q₁ E) s:=by
 refine codeAny_of_tree ?_;show wpAny _ A.in1 (do checkBuiltinCall "set.__new__" ⟨[.type "set",a],[]⟩;again (.builtin "set.__new__" ⟨[.type "set",a],[]⟩)) _ _ s
 refine wpAny_bind (wpAny_of_eq (F.newCall_set_1 a) (wpAny_pure ⟨plainId_quiet F.plain_set_new _,codeAny_builtin F.entry_set_new ?_⟩));rw [J3 F.plain_set_new _];unfold Builtin.«set.__new__» B35;have hsub:=sub_set_self;obtain ⟨hp,g,d,tk,os⟩:=s;dsimp only
 wp_walk
 refine wpAny_askSetting (wpAny_pure ?_);dsimp only;simp only [newObj];refine wpAny_bind (wpAny_alloc (wpAny_pure ?_));exact wpAny_pure h
theorem SetI.fresh {a:Addr} {h:Heap} (e:h.get? a=some (freshSet w)):SetI w a [] h:=
 ⟨#[],0,_,[],e,⟨rfl,rfl,rfl,rfl,rfl,.nil,fun _ z=>nomatch z⟩,.nil,.refl _,.nil,D8 _⟩
set_option maxHeartbeats 3200000 in
theorem qQI {l:Addr} {items:Array Value} {ns:List Int} {Q:Value->Shared->Prop} (hh:A.handled=none) (hl:s.heap.IsList l items) (hi:IntsAre items.toList ns) (h4:items.size<=4)
  (h:∀ (h':Heap) (tk:Nat),SetI w s.heap.objs.size (dedI ns) h'->(∀ b o,s.heap.get? b=some o->h'.get? b=some o)->Q (.ref s.heap.objs.size) { s with heap:=h',toks:=tk }) :
  wpAny (model prog w) A (call (.type "set") [.ref l]) Q E s:=by
 have hlen:ns.length=items.size:=by have:=IntsAre.length hi;simpa using this.symm
 obtain ⟨c,tl,hmro⟩:=M9.mro;have hmade:=M9.made;have hsub:=M9.sub;refine wpAny_call (codeAny_of_tree ?_);show wpAny _ _ (callAny (.type "set") _) _ _ _;refine wpAny_pure ⟨A77 _ (by decide +kernel),codeAny_builtin A95 ?_⟩
 rw [A78 (weight_type_call_type "set" [.ref l] []) rfl];have h1:=M9.notType;have h2:=M9.canCreate;have hct:=B12 (.ref l)
 repeat (any_goals (first | assumption | wp_step))
 refine codeAny_mono (qLN (.ref l) (E:=E) (Q₁:=fun obj s₁=>obj=.ref s.heap.objs.size/\s₁={ s with heap:=s.heap.push (freshSet w) }) ⟨rfl,rfl⟩) fun r s₁ hr=>?_;cases r with
 | error e=>exact hr
 | ok fl=>
  cases fl with
  | ret obj=>
   obtain ⟨rfl,rfl⟩:=hr;have hS:(s.heap.push (freshSet w)).get? s.heap.objs.size=some (freshSet w):=A9 _ rfl;have hT:Shared.TypeIs { s with heap:=s.heap.push (freshSet w) } (.ref s.heap.objs.size) "set":=⟨_,hS,rfl⟩;have hli:=M9.init.lookup;have hbi:=M9.init.bind (.ref s.heap.objs.size)
   repeat (any_goals (first | assumption | wp_step))
   refine codeAny_mono (codeAny_call_builtin (R:=wants (fun r s₂=>r=.none/\∃ h' tk,s₂={ s with heap:=h',toks:=tk }/\SetI w s.heap.objs.size (dedI ns) h'/\
     (∀ b o,s.heap.get? b=some o->h'.get? b=some o)) E) M9.init.plain B13 (check_set_init_1 hT ?_)) fun r₂ s₂ hr₂=>?_
   ·obtain ⟨ol,hol,hcl,nl,hdl⟩:=hl;obtain ⟨ocls,odict,odata,oslots⟩:=ol;simp only at hcl hdl;subst hcl;subst hdl;have hol':(s.heap.push (freshSet w)).get? l=some { cls:=.type "list",dict:=odict,data:=.seq items nl,slots:=oslots }:=A4 _ hol;have hsls:=F.sub_list_set;have hslf:=F.sub_list_frozenset;have hne:(f9 "list" == f9 "dict")=false:=by decide
    have hl1:(s.heap.push (freshSet w)).IsList l items:=⟨_,hol',rfl,nl,rfl⟩;unfold Builtin.«set.__init__» noKeywords o8;generalize hPI:pyIter=PI
    wp_walk
    subst hPI;refine wpAny_pyIter_list hl1 ?_;refine wpAny_bind (wpAny_runValue ?_);have hlS:l<s.heap.objs.size:=B3 hol;have hh3:A.in1.in1.in1.handled=none:=by simp [hh]
    have hneI:l ≠ (s.heap.push (freshSet w)).objs.size:=by
     rw [M6];exact C2 (P8 hlS)
    have hSf:s.heap.objs.size ∉ [(s.heap.push (freshSet w)).objs.size,l]:=by
     rw [M6];simp only [B6,A8,F7,or_false,not_or];exact ⟨C2 (B14 _),X3 hlS⟩
    have hval:∀ (i:Nat) (v:Value),items[i]?=some v->∃ t,v=.int (ns.getD i 0) t:=fun i v hv=>
     r8 hi i v (by rw [F6];exact hv)
    refine qLL ((A45 hh3 _ l hneI items).toS) s.heap.objs.size hSf ns hlen h4 hval (items.size - 0) 0 _ (by lia) (D8 _)
     ⟨⟨_,A9 _ rfl,rfl,rfl⟩,(hl1.push _)⟩ ?hS0 ?hR
    case hS0=>exact SetI.fresh (A4 _ hS)
    case hR=>
     intro s' hm hS';obtain ⟨h',g',d',tk',os'⟩:=s';have eg:g'=s.gens:=hm.gens;have ed:d'=s.drawn:=hm.drawn;have eo:os'=s.os:=hm.os;subst eg;subst ed;subst eo;show wpAny _ _ _ _ _ _;refine wpAny_pure ?_;show wpAny _ _ (ret L7) _ _ _;refine wpAny_pure ⟨rfl,h',tk',rfl,hS',fun b o e=>?_⟩;have hb:=B3 e;have hb1:b ≠ s.heap.objs.size:=C2 hb;have hb2:b ≠ (s.heap.push (freshSet w)).objs.size:=by
      rw [M6];exact C2 (P8 hb)
     exact hm.heap b o (by simp only [B6,A8,F7,or_false,not_or];exact ⟨hb1,hb2⟩) (A4 _ (A4 _ e))
   ·cases r₂ with
    | error e=>exact hr₂
    | ok fl₂=>
     cases fl₂ with
     | ret r=>
      obtain ⟨rfl,h',tk,rfl,hS',hk'⟩:=hr₂
      repeat (any_goals (first | assumption | wp_step))
      exact h _ _ hS' hk'
     | next=>exact hr₂
     | brk=>exact hr₂
     | cont=>exact hr₂
  | next=>exact hr
  | brk=>exact hr
  | cont=>exact hr
end
end L2
namespace L2
open PySem PySem.Spec PyProof.Rows
theorem slot_si_next:Slot "set_iterator" "__next__" "set_iterator.__next__":=
 .of (owner:="set_iterator") (n:="__next__") (by rw [typeLookup_type,builtinLookup_eq_fast];kernel_rfl) (by decide +kernel) (by decide +kernel) (by decide +kernel)
  (by first | exact .inl (by decide +kernel) | exact .inr (by decide +kernel)) (by rw [isSubtype_type];kernel_rfl)
theorem qGX:Slot "set_iterator" "__iter__" "set_iterator.__iter__":=
 .of (owner:="set_iterator") (n:="__iter__") (by rw [typeLookup_type,builtinLookup_eq_fast];kernel_rfl) (by decide +kernel) (by decide +kernel) (by decide +kernel)
  (by first | exact .inl (by decide +kernel) | exact .inr (by decide +kernel)) (by rw [isSubtype_type];kernel_rfl)
theorem qCU:entryFor table "set_iterator.__next__" = some Builtin.«set_iterator.__next__»:=entryFor_of_tree (by kernel_rfl)
theorem qKT:entryFor table "set_iterator.__iter__" = some Builtin.«dict_keyiterator.__iter__»:=
 entryFor_alias (id':="dict_keyiterator.__iter__") (by kernel_rfl) rfl (by decide +kernel) (by kernel_rfl)
theorem qFB:entryFor table "set.__iter__" = some Builtin.«frozenset.__iter__»:=
 entryFor_alias (id':="frozenset.__iter__") (by kernel_rfl) rfl (by decide +kernel) (by kernel_rfl)
theorem qON:Manifest.owners.lookup (String.ofList "set_iterator".toList.reverse.reverse)=some Manifest.sig_set_iterator:=by kernel_rfl
theorem qDG (a:Value):argsOk "set_iterator.__next__" ⟨[a],[]⟩:=by
 unfold argsOk;rw [signature?_of (id:="set_iterator.__next__") (n:="__next__".toList.reverse) (o:="set_iterator".toList.reverse) (by kernel_rfl) qON];kernel_rfl
theorem qMQ (a:Value):argsOk "set_iterator.__iter__" ⟨[a],[]⟩:=by
 unfold argsOk;rw [signature?_of (id:="set_iterator.__iter__") (n:="__iter__".toList.reverse) (o:="set_iterator".toList.reverse) (by kernel_rfl) qON];kernel_rfl
noncomputable def qC3 (w:World) (a:Addr) (ep:Nat) (es:Array (Int × Value)):List (Int × Value):=if byT w=true then (pickOrder (w.params.setOrder a ep) es).toList else es.toList
noncomputable def qBW (w:World) (t:SetTable) (i:Nat):Nat:=if byT w=true then 0 else if i=0 then 0 else t.place.getD (i - 1) 0+1
theorem qBV (w:World) (a:Addr) (ep:Nat) (es:Array (Int × Value)):(qC3 w a ep es).Perm es.toList:=by
 unfold qC3
 split
 ·exact qRF _ _
 ·exact .refl _
theorem T7.below_at {b:Bool} {t:SetTable} {n:Nat} (T:T7 b t n) (i:Nat) (hi:i<=n):B8 t.place (if i=0 then 0 else t.place.getD (i - 1) 0+1)=i:=by
 obtain ⟨b1,b2,b3⟩:=qCX (j:=if i=0 then 0 else t.place.getD (i - 1) 0+1) T.up
 have hs:=T.size;have gd:∀ a c d,a<t.place.size->t.place.getD a c=t.place.getD a d:=fun a c d ha=>by
  rw [C5,C5,B7 ha]
  rfl
 by_cases h0:i=0
 ·rw [if_pos h0] at b1 b2 b3 ⊢;subst h0;apply A22;intro z;have:=b2 0 z;omega
 ·rw [if_neg h0] at b1 b2 b3 ⊢;have h1:¬ B8 t.place (t.place.getD (i - 1) 0+1)<i:=fun z=>by
   have:=b3 (i - 1) (by omega) (by omega)
   rw [gd (i - 1) (t.place.getD (i - 1) 0+1) 0 (by omega)] at this
   omega
  have h2:¬ i<B8 t.place (t.place.getD (i - 1) 0+1):=fun z=>by
   have q:=b2 i z;have:=qQT 0 T.up (i - 1) i (by omega) (by omega)
   rw [gd i (t.place.getD (i - 1) 0+1) 0 (by omega)] at q
   omega
  omega
def SetIt (w:World) (a I:Addr) (es:Array (Int × Value)) (ep:Nat) (t:SetTable) (i:Nat) (h:Heap):Prop:=
 (∃ o,h.get? I=some o/\o.cls=.type "set_iterator"/\o.data=.fields #[.int (qBW w t i) 0,.int i 0,.ref a,.int es.size 0,.int ep 0])/\h.get? a=some { cls:=.type "set",data:=.set es ep t }
section
variable {prog:Program} {w:World} {A:Around} {E:Value->Shared->Prop} {s:Shared} {a I:Addr} {es:Array (Int × Value)} {ep:Nat} {t:SetTable} {i:Nat}
theorem SetIt.typeIs (x:SetIt w a I es ep t i s.heap):s.TypeIs (.ref I) "set_iterator":=let ⟨⟨o,h1,h2,_⟩,_⟩:=x;⟨o,h1,h2⟩
theorem qLO {Q:Option (Value × Nat)->Shared->Prop} (T:T7 (byT w) t es.size) (h8:es.size<=7) (ho:s.heap.get? a=some { cls:=.type "set",data:=.set es ep t }) (hi:i<=es.size)
  (h:Q (match (qC3 w a ep es)[i]? with | some e=>some (e.2,qBW w t (i+1)) | none=>none) s):wpAny (model prog w) A (setNext a (qBW w t i) i ep) Q E s:=by
 have hf:=T.fits h8;unfold setNext;refine wpAny_bind (wpAny_setState_of ho rfl hf ?_);dsimp only;unfold setsByText;refine wpAny_bind (wpAny_bind (wpAny_askSetting (wpAny_pure ?_)));show wpAny _ _ (if byT w=true then _ else _) _ _ _
 cases hb:byT w with
 | true=>
  rw [if_pos rfl];simp only [bne_self_eq_false,E9,if_false];refine wpAny_bind ?_;unfold setWalk;refine wpAny_bind (wpAny_setState_of ho rfl hf ?_);dsimp only;unfold setsByText;refine wpAny_bind (wpAny_bind (wpAny_askSetting (wpAny_pure ?_)));show wpAny _ _ (if byT w=true then _ else _) _ _ _
  rw [hb,if_pos rfl];refine wpAny_bind (wpAny_askSetting (wpAny_pure (wpAny_pure ?_)));have e:qC3 w a ep es=(pickOrder (w.params.setOrder a ep) es).toList:=by unfold qC3;rw [if_pos hb]
  have e2:∀ j,qBW w t j=0:=fun j=>by unfold qBW;rw [if_pos hb]
  rw [e,F6,e2] at h;rw [e2];show Q (Option.map _ (pickOrder (w.params.setOrder a ep) es)[i]?) s;cases hx:(pickOrder (w.params.setOrder a ep) es)[i]? with
  | none=>rw [hx] at h;exact h
  | some v=>rw [hx] at h;exact h
 | false=>
  rw [if_neg (by simp)]
  show wpAny _ _ (if (!t.plain && decide (es.size > 1))=true then _ else _) _ _ _
  rw [T.plain];simp only [V4,E2,E9,if_false];refine wpAny_bind ?_;show wpAny _ _ (if (!t.led && !es.isEmpty)=true then _ else _) _ _ _
  rw [T.led,hb];simp only [l7,V4,E2,E9,if_false];refine wpAny_pure (wpAny_pure ?_);have e:qC3 w a ep es=es.toList:=by unfold qC3;rw [if_neg (by rw [hb];simp)]
  have e2:∀ j,qBW w t j=if j=0 then 0 else t.place.getD (j - 1) 0+1:=fun j=>by unfold qBW;rw [if_neg (by rw [hb];simp)]
  rw [e,F6] at h;rw [e2,T.below_at i hi];cases hx:es[i]? with
  | none=>rw [hx] at h;exact h
  | some v=>
   rw [hx] at h;have hlt:i<t.place.size:=by rw [T.size];exact (u9.mp hx).1
   rw [B7 hlt];dsimp only at h ⊢;have e3:qBW w t (i+1)=t.place[i]+1:=by
    rw [e2,if_neg (by omega),A79,C5,B7 hlt]
    rfl
   rw [e3] at h;exact h
theorem qWW {Q:Option Value->Shared->Prop} (T:T7 (byT w) t es.size) (h8:es.size<=7) (hit:SetIt w a I es ep t i s.heap) (hne:a ≠ I) {e:Int × Value} (hx:(qC3 w a ep es)[i]?=some e)
  (hQ:∀ h',SetIt w a I es ep t (i+1) h'->(∀ b o,b ≠ I->s.heap.get? b=some o->h'.get? b=some o)->Q (some e.2) { s with heap:=h' }):wpAny (model prog w) A (pyNext (.ref I)) Q E s:=by
 obtain ⟨⟨o,ho,hc,hd⟩,hs⟩:=id hit;have hi:i<es.size:=by
  have:=(A5.mp hx).1;rw [(qBV w a ep es).length_eq,B2] at this;exact this
 unfold pyNext;refine wpAny_bind (wpAny_attempt (wpAny_callSpecial?_slot (name:=D2 "__next__") hit.typeIs slot_si_next (wpAny_call_entry slot_si_next hit.typeIs qCU ?_ (qDG _))));unfold Builtin.«set_iterator.__next__»;refine wpAny_bind (wpAny_pure ?_);refine wpAny_bind (wpAny_fieldsOf ho hd ?_);dsimp only;unfold setEntries;refine wpAny_bind (wpAny_bind (wpAny_setState_of hs rfl (T.fits h8) (wpAny_pure ?_)));rw [if_neg (by simp)]
 simp only [F0];refine wpAny_bind (qLO T h8 hs (T6 hi) ?_);rw [hx];dsimp only;show wpAny _ _ (setField (.ref I) 0 (rawInt _) >>= _) _ _ s;refine wpAny_bind (wpAny_setField ho hd (by simp) ?_)
 have g1:=L5 (b7 (·.setIfInBounds 0 (rawInt ((qBW w t (i+1):Nat):Int)))) ho (V7 (M7 hd _));have d1:=M7 hd (·.setIfInBounds 0 (rawInt ((qBW w t (i+1):Nat):Int)));refine wpAny_bind (wpAny_setField g1 d1 (by simp) ?_)
 have g2:=L5 (b7 (·.setIfInBounds 1 (rawInt ((i:Int)+1)))) g1 (V7 (M7 d1 _));have d2:=M7 d1 (·.setIfInBounds 1 (rawInt ((i:Int)+1)));refine wpAny_pure ⟨_,rfl,wpAny_pure (hQ _ ⟨⟨_,g2,(b8 ..).trans ((b8 ..).trans hc),?_⟩,?_⟩ fun b o' hb e=>?_)⟩
 ·rw [d2];simp [rawInt]
 ·exact (J1 _ _ (J4 hne)).trans ((J1 _ _ (J4 hne)).trans hs)
 ·exact (J1 _ _ (J4 hb)).trans ((J1 _ _ (J4 hb)).trans e)
theorem qYP {Q:Option Value->Shared->Prop} (hh:A.handled=none) (T:T7 (byT w) t es.size) (h8:es.size<=7) (hit:SetIt w a I es ep t es.size s.heap)
  (hQ:∀ h',(∀ b o,b ≠ I->s.heap.get? b=some o->h'.get? b=some o)->Q none { s with heap:=h' }):wpAny (model prog w) A (pyNext (.ref I)) Q E s:=by
 obtain ⟨⟨o,ho,hc,hd⟩,hs⟩:=id hit;unfold pyNext;refine wpAny_bind (wpAny_attempt (wpAny_callSpecial?_slot (name:=D2 "__next__") hit.typeIs slot_si_next (wpAny_call_entry slot_si_next hit.typeIs qCU ?_ (qDG _))));unfold Builtin.«set_iterator.__next__»;refine wpAny_bind (wpAny_pure ?_);refine wpAny_bind (wpAny_fieldsOf ho hd ?_);dsimp only;unfold setEntries;refine wpAny_bind (wpAny_bind (wpAny_setState_of hs rfl (T.fits h8) (wpAny_pure ?_)));rw [if_neg (by simp)]
 simp only [F0];have hx:(qC3 w a ep es)[es.size]?=none:=J9 (by rw [(qBV w a ep es).length_eq,B2];exact A6 _)
 refine wpAny_bind (qLO T h8 hs (A6 _) ?_);rw [hx];dsimp only;show wpAny _ _ (setField (.ref I) 2 .none >>= _) _ _ s;refine wpAny_bind (wpAny_setField ho hd (by simp) ?_)
 show wpAny _ _ (newExc (.type "StopIteration") [] >>= _) _ _ _;refine wpAny_bind ?_;simp only [newExc,newTuple];refine wpAny_bind (wpAny_newObj_type ?_ (by size_fits))
 refine wpAny_bind (m:=firstArgMember _ _) (wpAny_of_eq (a:=L7) (by first | rfl | (simp only [firstArgMember];rfl)) ?_)
 refine wpAny_newObj_type ?_ (by size_fits)
 simp only [raiseNew];refine wpAny_bind (wpAny_handled ?_);rw [show A.in1.handled=none from hh];refine wpAny_bind (wpAny_pure (wpAny_throw ?_));refine wpAny_bind (wpAny_isInstance (T:="StopIteration") (b:=true) ⟨_,A9 _ rfl,rfl⟩ isSubtype_stop ?_);exact wpAny_pure (hQ _ (((M8 ..).extBut.push _).push _))
theorem qR7 {Q:Value->Shared->Prop} (hit:SetIt w a I es ep t i s.heap) (h:Q (.ref I) s):wpAny (model prog w) A (pyIter (.ref I)) Q E s:=by
 refine wpAny_pyIter_slot hit.typeIs qGX (wpAny_call_entry qGX hit.typeIs qKT ?_ (qMQ _));show wpAny _ _ (ret (.ref I)) _ _ s;exact wpAny_pure ⟨_,rfl,"set_iterator",_,hit.typeIs,slot_si_next.lookup,h⟩
theorem qYO {Q:Value->Shared->Prop} (T:T7 (byT w) t es.size) (h8:es.size<=7) (hs:s.heap.get? a=some { cls:=.type "set",data:=.set es ep t })
  (hQ:Q (.ref s.heap.objs.size) { s with heap:=s.heap.push { cls:=.type "set_iterator",data:=.fields #[.int 0 0,.int 0 0,.ref a,.int es.size 0,.int ep 0] } }):wpAny (model prog w) A (pyIter (.ref a)) Q E s:=by
 have hT:s.TypeIs (.ref a) "set":=⟨_,hs,rfl⟩;have hf:=T.fits h8;refine wpAny_pyIter_slot hT t0 (wpAny_call_entry t0 hT qFB ?_ (A96 _));unfold Builtin.«frozenset.__iter__» A12 A02 setEntries;refine wpAny_bind (wpAny_bind (wpAny_pure ?_));show wpAny _ _ (pure a) _ _ s;refine wpAny_pure ?_;refine wpAny_bind (wpAny_bind (wpAny_bind (wpAny_setState_of hs rfl hf (wpAny_pure (wpAny_pure ?_)))));unfold setDrawn setsByText;refine wpAny_bind (wpAny_bind (wpAny_setState_of hs rfl hf ?_));dsimp only;refine wpAny_bind (wpAny_bind (wpAny_askSetting (wpAny_pure (wpAny_pure ?_))));show wpAny _ _ (if (!byT w && (!t.plain && decide (es.size > 1)))=true then _ else _) _ _ _
 rw [T.plain];simp only [V4,E2,Q1,E9,if_false];refine wpAny_bind (wpAny_pure ?_);unfold setEpoch;refine wpAny_bind (wpAny_bind (wpAny_setState_of hs rfl hf (wpAny_pure ?_)));refine wpAny_bind (wpAny_newObj_type (wpAny_pure ⟨_,rfl,"set_iterator",_,⟨_,A9 _ rfl,rfl⟩,slot_si_next.lookup,?_⟩));simpa [rawInt] using hQ
theorem qR8 {Q:Bool->Shared->Prop} (hT:s.TypeIs (.ref a) "set") (h:Q false s):wpAny (model prog w) A (t5 (.ref a)) Q E s:=by
 unfold t5;refine wpAny_bind (wpAny_specialOf hT PySem.F.slot_set_len.lookup ?_);generalize hid:("set.__len__" : String)=id0
 wp_delta
 rw [show splitId id0=some ("set","__len__") from by subst hid;decide +kernel]
 subst hid;refine wpAny_bind (wpAny_isInstance (T:="set") (b:=true) hT (by rw [isSubtype_type];kernel_rfl) ?_)
 refine wpAny_ite_split (fun hab=>absurd hab (by decide)) (fun _=>?_)
 refine wpAny_ite_split (fun _=>?_) (fun hab=>absurd (by decide +kernel) hab)
 refine wpAny_bind (wpAny_typeOf hT ?_);exact wpAny_pure h
theorem qYN (T:T7 (byT w) t es.size) (h8:es.size<=7):PySem.W.KdlSrc prog w "set" a a es.size (fun i v=>∃ e,(qC3 w a ep es)[i]?=some e/\v=e.2) (fun h=>h.get? a=some { cls:=.type "set",data:=.set es ep t }) where
 type:=fun s h=>⟨_,h,rfl⟩
 there:=fun h x=>⟨B3 x,B3 x⟩
 keep:=fun h h' x k=>k a (.inl rfl) _ x
 notList:=by decide
 notTuple:=by decide
 hint:=fun A E s Q x q=>qR8 ⟨_,x,rfl⟩ q
 iter:=fun A s hh x=>by
  have hne:a ≠ s.heap.objs.size:=C2 (B3 x);refine ⟨_,fun i h=>SetIt w a s.heap.objs.size es ep t i h,fun E Q q=>qYO T h8 x q,?_,⟨⟨_,A9 _ rfl,rfl,?_⟩,A4 _ x⟩⟩
  ·refine ⟨fun b hb=>?_,fun i h h' st k=>?_,fun i s' Q E hi st q=>?_,fun s' Q E st q=>?_,fun i s' Q E st q=>qR7 st q⟩
   ·have e:b=s.heap.objs.size:=by simpa using hb
    simp [e]
   ·obtain ⟨⟨o,h1,h2,h3⟩,h4⟩:=st;exact ⟨⟨o,k _ (by simp) _ h1,h2,h3⟩,k _ (by simp) _ h4⟩
   ·have hl:i<(qC3 w a ep es).length:=by rw [(qBV w a ep es).length_eq,B2];exact hi
    refine qWW T h8 st hne (A3 hl) fun h' st' k=>?_;exact q _ h' s'.toks ⟨_,A3 hl,rfl⟩ st' fun b o hb e=>k b o (fun z=>hb (by simp [z])) e
   ·refine qYP hh T h8 st fun h' k=>?_;exact q h' s'.toks fun b o hb e=>k b o (fun z=>hb (by simp [z])) e
  ·unfold qBW
   split <;> rfl
end
end L2
namespace L2
open PySem PySem.Spec PyProof.Rows
theorem qC2 {ns:List Int}:∀ {us:List Value},Vals (ns.map V.int) us->IntsAre us ns:=by
 induction ns with
 | nil=>intro us h;cases h;exact .nil
 | cons n r ih=>
  intro us h;cases h with
  | cons r1 r2=>
   obtain ⟨t,rfl⟩:=r1;exact IntsAre.cons _ _ (ih r2)
theorem qEL:∀ {us:List Value} {ns:List Int},IntsAre us ns->Vals (ns.map V.int) us:=qHP
section
variable {X:Cx}
def SetO (w:World) (a:Addr) (zs:List Int):HO:=.ext (SetI w a zs)
theorem qL2 (hc:X.calm=true):qCF X (.type "set") (fun xs H Q=>∃ p ns,xs=[.ref p]/\SqL X.K H p (ns.map V.int)/\ns.length<=4/\∀ a,H a=none->Q (.ref a) (Ag H a (SetO X.w a (dedI ns)))):=by
 intro Ab s σ H xs us Q I r h;obtain ⟨p,ns,rfl,hq,h4,q⟩:=h;obtain ⟨u,rfl,rx⟩:=qDO r;cases rx;obtain ⟨its,rv,pl,hz⟩:=I.list hq;have hlen:=rv.length;rw [A0] at hlen;refine qQI (ns:=ns) (I.ok.hd hc) pl.isList (by simpa using qC2 rv) (by simp;lia) fun h' tk hS hk=>?_
 refine ⟨.ref s.heap.objs.size,_,I.laid (t':=tk) hk (A6 _) ?_,rfl,q _ (I.hok.fresh (A6 _))⟩;obtain ⟨es,ep,t,ks,e,_⟩:=id hS;exact ⟨hS,⟨_,e⟩,fun h1 h2 x k=>x.at k⟩
theorem Inv.track {Ab:List (Addr × Obj)} {s:Shared} {σ:St} {H:Hp} {T:Addr} {o:HO} (I:Inv X Ab σ H s) (h0:H T=none) (h1:X.s₀.heap.objs.size<=T) (h2:T ≠ X.env.locals) (h3:∀ x c,X.env.cells.lookup x=some c->c ≠ T) (h4:∀ p ∈ X.pn++Ab,p.1 ≠ T)
  (new:ObjOk X.prog X.w (Ag H T o) s.heap T o):Inv X Ab σ (Ag H T o) s:=by
 have old:∀ b ob,X.s₀.heap.get? b=some ob->b ≠ T:=fun b ob e=>C2 (E7 (B3 e) h1);have some':∀ b u,H b=some u->(Ag H T o) b=some u:=fun b u e=>by rw [qAC (qA7 e h0)];exact e
 refine ⟨I.ok,I.os,I.bare,⟨I.base.keep,I.base.slot,fun b ob e n hx=>?_,I.base.there,fun b xs e=>some' _ _ (I.base.tups b xs e),fun b ob u e=>some' _ _ (I.base.frzs b ob u e),fun b ps e=>?_⟩,I.loc,I.cell,?_,fun x c e=>?_,fun p hp=>?_,fun b u e=>?_,I.len⟩
 ·rw [qAC (old b ob e)];exact I.base.free b ob e n hx
 ·exact some' _ _ (I.base.tbls b ps e)
 ·rw [qAC (J4 h2)];exact I.free
 ·rw [qAC (h3 x c e)];exact I.freeC x c e
 ·obtain ⟨e1,n,r⟩:=I.pin p hp;exact ⟨e1,by rw [qAC (h4 p hp)];exact n,r⟩
 ·by_cases hb:b=T
  ·subst hb;rw [qA1] at e;cases e;exact new
  ·rw [qAC hb] at e;exact (I.hok b u e).stay (fun c v _ q=>q) (fun c q=>some' _ _ q) (fun c ys q=>some' _ _ q) fun c t q=>some' _ _ q
theorem qU5 {Ab:List (Addr × Obj)} {s:Shared} {σ:St} {H:Hp} {Q:VK} {A:Around} {E:Value->Shared->Prop} {vs:List Value} {ns:List Int} {D:Addr} (I:Inv X Ab σ (Ag H D (.lst (ns.map V.int))) s) (hD:H D=none) (h64:ns.length<64)
  (q:∀ ns':List Int,ns'.Perm ns->ns'.Pairwise (·<=·)->Q (.ref D) (Ag H D (.lst (ns'.map V.int)))) :
  wpAny (model X.prog X.w) A (call (.builtin "list.sort") [.ref D]) (fun _ s'=>EP X Ab σ Q (.ref D) s') E s:=by
 obtain ⟨z,its,n,rv,hl,e⟩:=I.lstM qA1;have hI:=qC2 rv;have hlen:=rv.length;rw [A0] at hlen;refine wpAny_call_entry slot_list_sort ⟨_,e,rfl⟩ entry_list_sort (list_sort_tree (ns:=ns) (n:=n) e hI (by lia) fun out ns' a1 a2 a3=>⟨_,rfl,?_⟩) (args_list_sort _)
 have hat:=sortedHeap_at (vs:=its) (out:=out) e;obtain ⟨e2,hat⟩:=hat;refine ⟨.ref D,Ag H D (.lst (ns'.map V.int)),?_,rfl,q ns' a2 a3⟩;have hu:Ag (Ag H D (.lst (ns.map V.int))) D (.lst (ns'.map V.int))=Ag H D (.lst (ns'.map V.int)):=qHQ;rw [<- hu];refine I.write (x:=D) (e:=D) (t':=s.toks) (by rw [qA1];exact trivial) (.inl rfl) (fun b u hb hbu=>?_) ⟨_,hat⟩ ?_
 ·rw [sortedHeap_old hb (B3 hbu)];exact hbu
 ·refine ⟨?_,out.toList,e2,qEL a1,by simpa using hat⟩
  rw [A0,a2.length_eq,<- A0 (f:=V.int)];exact z
theorem qJD {Ab:List (Addr × Obj)} {s:Shared} {σ:St} {H:Hp} {vs:List Value} {ns:List Int} (I:Inv X Ab σ H s) (hv:IntsAre vs ns) (hz:ns.length<=sizeLine) :
  Inv X Ab σ (Ag H s.heap.objs.size (.lst (ns.map V.int))) { s with heap:=s.heap.push { cls:=.type "list",data:=.seq vs.toArray } }:=
 I.lnew (t':=s.toks) (qEL hv) (by rw [A0];exact hz)
theorem qCE (hc:X.calm=true):qCF X (.builtin "sorted") (fun xs H Q=>∃ p ns,xs=[.ref p]/\(SqL X.K H p (ns.map V.int)\/SqT X.K H p (ns.map V.int)\/H p=some (SetO X.w p ns))/\ns.length<64/\
  ∀ (a:Addr) (ns':List Int),H a=none->ns'.Perm ns->ns'.Pairwise (·<=·)->Q (.ref a) (Ag H a (.lst (ns'.map V.int)))):=by
 intro Ab s σ H xs us Q I r h;obtain ⟨p,ns,rfl,hq,h64,q⟩:=h;obtain ⟨u,rfl,rx⟩:=qDO r;cases rx;refine x9 kind_sorted plain_sorted entry_sorted (args_sorted1 _) ?_;unfold Builtin.«sorted»;refine wpAny_bind (m:=checkCount "sorted" 1 1 _) (wpAny_pure ?_);have fin:∀ (s1:Shared) (vs:List Value) (zs:List Int),Inv X Ab σ H s1->IntsAre vs zs->zs.Perm ns->wpAny (model X.prog X.w) X.A.in1 (do
   let l <- newList vs
   let _ <- holding [l] (call (.builtin "list.sort") [l] [])
   ret l) (fun fin s'=>∃ r,fin=.done (.ret r)/\EP X Ab σ Q r s') X.xe s1:=by
  intro s1 vs zs I1 hv hp;have hlen:=IntsAre.length hv;have hz:zs.length<=sizeLine:=by rw [hp.length_eq,sizeLine_eq];lia
  refine wpAny_bind (wpAny_newList ?_ (by rw [hlen];exact hz))
  have hf:=I1.hok.fresh (A6 s1.heap.objs.size);refine wpAny_bind (wpAny_holding (wpAny_mono (qU5 (E:=X.xe) (vs:=vs) (qJD I1 hv hz) hf (by rw [hp.length_eq];exact h64) fun ns' a b=>q _ ns' hf (a.trans hp) b) (fun _ s' x=>?_) fun _ _ e=>e))
  exact wpAny_pure ⟨_,rfl,x⟩
 rcases hq with hq | hq | hq
 ·obtain ⟨its,rv,pl,hz⟩:=I.list hq;obtain ⟨o,ho,hc',n,hd⟩:=pl.isList;have hlen:=rv.length;refine wpAny_bind (wpAny_collect_seq p (.inl rfl) ho hc' hd (fun h' hk=>?_) (by simp;lia))
  exact fin _ _ ns (I.kept (t':=s.toks) hk) (by simpa using qC2 rv) (.refl _)
 ·obtain ⟨its,rv,pl,hz⟩:=I.tuple hq;obtain ⟨o,ho,hc',n,hd⟩:=pl;have hlen:=rv.length;refine wpAny_bind (wpAny_collect_seq p (.inr rfl) ho hc' hd (fun h' hk=>?_) (by simp;lia))
  exact fin _ _ ns (I.kept (t':=s.toks) hk) (by simpa using qC2 rv) (.refl _)
 ·obtain ⟨hS,_,_⟩:=(show ObjOk X.prog X.w H s.heap p (.ext (SetI X.w p ns)) from I.hok p _ hq);obtain ⟨es,ep,t,ks,e,T,he,hp,hnd,h4⟩:=hS;have hsz:es.size=ns.length:=SetI.size (a:=p) (h:=s.heap) he hp;obtain ⟨ks',h1,h2⟩:=he.perm (qBV X.w p ep es);refine wpAny_bind (A59 (A:=X.A.in1) (qYN (ep:=ep) T (by lia)) (I.ok.hd hc) e (by rw [hsz,sizeLine_eq];lia) fun h' tk acc hk hacc=>?_)
  refine fin _ _ ks' (I.kept (t':=tk) hk) ?_ (h2.trans hp);obtain ⟨l1,l2⟩:=hacc;have key:∀ {ks:List Int} {l:List (Int × Value)},Ents ks l->∀ vs:List Value,vs.length=l.length->(∀ (i:Nat) (v:Value),vs[i]?=some v->∃ e:Int × Value,l[i]?=some e/\v=e.2)->IntsAre vs ks:=by
   intro ks l h
   induction h with
   | nil=>
    intro vs hl _;have:vs=[]:=X8.mp hl;subst this;exact .nil
   | cons r t ih=>
    intro vs hl hv;cases vs with
    | nil=>simp at hl
    | cons v vs=>
     obtain ⟨tk,rfl⟩:=r;obtain ⟨e,he,rfl⟩:=hv 0 v rfl;simp at he;subst he;exact IntsAre.cons _ _ (ih vs (by simpa using hl) fun i v hi=>by simpa using hv (i+1) v (by simpa using hi))
  refine key h1 acc.toList ?_ fun i v hi=>l2 i v (by rw [<- F6];exact hi)
  rw [B2,l1,(qBV X.w p ep es).length_eq,B2]
end
end L2
namespace L2
open PySem PySem.Spec PyProof.Rows
section
variable {X:Cx}
noncomputable def qFW (lo hi:Int):List V:=(E6 (hi - lo).toNat).map fun (i:Nat)=>V.int (lo+i)
theorem qTF:qCF X (.type "range") (fun xs H Q=>∃ j,xs=[.int j]/\∀ p,H p=none->Q (.ref p) (Ag H p (.rng 0 j))):=by
 intro Ab s σ H xs us Q I r h;obtain ⟨j,rfl,q⟩:=h;obtain ⟨u,rfl,t,rfl⟩:=qDO r;refine call_range_1 ⟨.ref s.heap.objs.size,_,I.laid (fun b o e=>A4 _ e) (A6 _) ?_,rfl,q _ (I.hok.fresh (A6 _))⟩;exact ⟨_,_,_,A9 _ rfl⟩
theorem qTE:qCF X (.type "range") (fun xs H Q=>∃ i j,xs=[.int i,.int j]/\∀ p,H p=none->Q (.ref p) (Ag H p (.rng i j))):=by
 intro Ab s σ H xs us Q I r h;obtain ⟨i,j,rfl,q⟩:=h;obtain ⟨u,v,rfl,⟨t,rfl⟩,⟨t',rfl⟩⟩:=qJW r;refine call_range_2 ⟨.ref s.heap.objs.size,_,I.laid (fun b o e=>A4 _ e) (A6 _) ?_,rfl,q _ (I.hok.fresh (A6 _))⟩;exact ⟨_,_,_,A9 _ rfl⟩
theorem qUA {lo hi:Int} {n:Nat} {acc:List Value} (hn:n=(hi - lo).toNat) (hl:acc.length=n) (h:∀ (i:Nat) (v:Value),acc[i]?=some v->∃ t,v=.int (lo+i * 1) t):Vals (qFW lo hi) acc:=by
 have key:∀ (m:Nat) (acc:List Value),acc.length=m->∀ lo:Int,(∀ (i:Nat) (v:Value),acc[i]?=some v->∃ t,v=.int (lo+i) t)->Vals ((E6 m).map fun (i:Nat)=>V.int (lo+i)) acc:=by
  intro m
  induction m with
  | zero=>
   intro acc hl lo h;have:acc=[]:=X8.mp hl;subst this;exact .nil
  | succ m ih=>
   intro acc hl lo h;cases acc with
   | nil=>simp at hl
   | cons v acc=>
    rw [A23,E5,m5];have h0:=h 0 v rfl;refine .cons h0 ?_;have h1:=ih acc (by simpa using hl) (lo+1) fun i v hi=>by
     have:=h (i+1) v (by simpa using hi)
     obtain ⟨t,e⟩:=this;refine ⟨t,?_⟩;rw [e];congr 1
     push_cast
     lia
    have e:((fun (i:Nat)=>V.int (lo+i)) ∘ Nat.succ)=fun (i:Nat)=>V.int (lo+1+i):=by
     funext i
     simp only [Function.comp];congr 1
     push_cast
     lia
    rw [e];exact h1
 unfold qFW;rw [<- hn];refine key n acc hl lo fun i v hi=>?_;obtain ⟨t,e⟩:=h i v hi;exact ⟨t,by rw [e,Int.mul_one]⟩
theorem qPW (lo hi:Int):(qFW lo hi).length=(hi - lo).toNat:=by unfold qFW;simp
theorem qaA {lo hi:Int}:Q9 lo hi 1=((hi - lo).toNat:Nat):=by rw [rangeSize_one];split <;> lia
theorem qKY {prog:Program} {w:World} {A:Around} {E:Value->Shared->Prop} {s:Shared} {R:List Value->Shared->Prop} {r:Addr} {a b:Int} {t u v:Tok} {n:Nat} (hh:A.handled=none) (hr:IsRange s.heap r a b 1 t u v) (hsmall:A60 a b 1=true)
  (hn:Q9 a b 1=n) (hlen:n<=2 ^ 24)
  (h:∀ (h':Heap) (tk:Nat) (acc:Array Value),(∀ b o,s.heap.get? b=some o->h'.get? b=some o)->ItemsOf (fun i v=>∃ t,v=.int (a+i * 1) t) acc n->R acc.toList { s with heap:=h',toks:=tk }) :
  wpAny (model prog w) A (collect (.ref r)) R E s:=by
 unfold collect;refine wpAny_bind (wpAny_runValue (codeAny_builtin entry_proto_collect' ?_));rw [J3 PySem.F.plain_proto_collect _];show wpAny _ A.in1 (newList [] >>= fun l=>again (.builtin "list.__iadd__" ⟨[l,.ref r],[]⟩)) _ _ s;refine wpAny_bind (wpAny_newObj_type ?_);refine wpAny_pure ⟨plainId_quiet A13 _,codeAny_builtin entry_list_iadd' ?_⟩;rw [J3 A13 _];have hS₁:(s.heap.push { cls:=.type "list",data:=.seq ([]:List Value).toArray }).get? s.heap.objs.size=some { cls:=.type "list",data:=.seq #[] }:=A9 _ rfl;show wpAny _ A.in1 (Builtin.List.listExtendWith (.ref s.heap.objs.size) (.ref r) (.ref s.heap.objs.size)) _ _ _;have key:=wpAny_extend_range (prog:=prog) (w:=w) (A:=A) (s:={ s with heap:=s.heap.push { cls:=.type "list",data:=.seq ([]:List Value).toArray } })
  (R:=fun (q:Result) (s':Shared)=>∃ (h':Heap) (tk:Nat) (acc':Array Value) (c':Nat),q=.ok (.ret (.ref s.heap.objs.size))/\s'={ s with heap:=h',toks:=tk }/\
   (∀ b o,s.heap.get? b=some o->h'.get? b=some o)/\h'.get? s.heap.objs.size=some { cls:=.type "list",dict:=none,data:=.seq acc' c',slots:=#[] }/\ItemsOf (fun i v=>∃ t,v=.int (a+i * 1) t) acc' n)
  hh (A4 _ hr) hsmall hn hlen s.heap.objs.size (.ref s.heap.objs.size) 0 hS₁
  (fun h' tk acc' c' hk hS' hacc=>⟨h',tk,acc',c',rfl,rfl,fun b o e=>hk b o (C2 (B3 e)) (A4 _ e),hS',hacc⟩)
 refine wpAny_mono key (fun fin s' x=>?_) fun e s' x=>?_
 ·cases fin with
  | done f=>
   obtain ⟨h',tk,acc',c',e,rfl,hk,hS',hacc⟩:=x;cases e;show wpAny _ A (load s.heap.objs.size >>= _) _ _ _;refine wpAny_bind (wpAny_load hS' ?_);exact wpAny_pure (h h' tk acc' hk hacc)
  | again c₁=>
   refine ⟨x.1,codeAny_mono x.2 fun q s₂ y=>?_⟩;obtain ⟨h',tk,acc',c',rfl,rfl,hk,hS',hacc⟩:=y;show wpAny _ A (load s.heap.objs.size >>= _) _ _ _;refine wpAny_bind (wpAny_load hS' ?_);exact wpAny_pure (h h' tk acc' hk hacc)
 ·obtain ⟨_,_,_,_,e',_⟩:=x;cases e'
theorem qMV {prog:Program} {w:World} {A:Around} {E:Value->Shared->Prop} {s:Shared} {Q:Value->Shared->Prop} {r:Addr} {a b:Int} {t u v:Tok} {n:Nat} (hh:A.handled=none) (hr:IsRange s.heap r a b 1 t u v) (hsmall:A60 a b 1=true)
  (hn:Q9 a b 1=n) (hlen:n<=2 ^ 24)
  (h:∀ (h':Heap) (tk:Nat) (acc:Array Value),(∀ b o,s.heap.get? b=some o->h'.get? b=some o)->ItemsOf (fun i v=>∃ t,v=.int (a+i * 1) t) acc n->Q (.ref h'.objs.size) { s with heap:=h'.push { cls:=.type "tuple",data:=.seq acc },toks:=tk }) :
  wpAny (model prog w) A (call (.type "tuple") [.ref r]) Q E s:=by
 have hcode:codeAny (model prog w) A.in1 (.call (.builtin "tuple.__new__") ⟨[.type "tuple",.ref r],[]⟩) (wants (fun obj s₁=>s₁.TypeIs obj "tuple"/\Q obj s₁) E) s:=by
  refine codeAny_of_tree ?_;show wpAny _ A.in1.in1 (do checkBuiltinCall "tuple.__new__" ⟨[.type "tuple",.ref r],[]⟩;again (.builtin "tuple.__new__" ⟨[.type "tuple",.ref r],[]⟩)) _ _ s
  refine wpAny_bind (wpAny_of_eq (F.newCall_tuple_1 _) (wpAny_pure ⟨plainId_quiet A97 _,codeAny_builtin F.entry_tuple_new ?_⟩));rw [J3 A97 _];have hsub:=sub_tuple_self;have hinit:=init_tuple_lookup;have hmh:=madeHere_tuple;have hTI:s.TypeIs (.ref r) "range":=⟨_,hr,rfl⟩
  wp_walk using wpAny_typeOf hTI,qKY (prog:=prog) (w:=w) (A:=A.in1.in1) hh hr hsmall hn hlen
  intro h' tk acc hk hacc;show wpAny _ _ (J8 acc.toList.toArray >>= fun v=>ret v) _ _ _;unfold J8;refine wpAny_bind (wpAny_newObj_type ?_ (by show acc.toList.toArray.size<=sizeLine;simp only [Array.toArray_toList];rw [hacc.1,sizeLine_eq];lia))
  refine wpAny_pure ?_;have e:acc.toList.toArray=acc:=by simp
  rw [e];exact ⟨⟨_,A9 _ rfl,rfl⟩,h h' tk acc hk hacc⟩
 refine callType_codes (Q₁:=fun obj s₁=>s₁.TypeIs obj "tuple"/\Q obj s₁) A55 (F.typeCall_tuple_1 _) F.entry_object_init hcode fun obj s₁ h₁=>?_;exact ⟨h₁.1,A48 obj _,object_init_meets A55.init.lookup A55.made (by decide) prog w A.in1 _ s₁ ⟨h₁.1,rfl,h₁.2⟩⟩
theorem qFC (hc:X.calm=true):qCF X (.type "tuple") (fun xs H Q=>∃ p lo hi,xs=[.ref p]/\H p=some (.rng lo hi)/\-1000000<=lo/\lo<=1000000/\-1000000<=hi/\hi<=1000000/\∀ l,H l=none->Q (.ref l) (Ag H l (.tup (qFW lo hi)))):=by
 intro Ab s σ H xs us Q I r h;obtain ⟨p,lo,hi,rfl,hp,l1,l2,l3,l4,q⟩:=h;obtain ⟨u,rfl,rx⟩:=qDO r;cases rx;obtain ⟨t,u,v,e⟩:=(show ∃ t u v,s.heap.get? p=some { cls:=.type "range",data:=.fields #[.int lo t,.int hi u,.int 1 v] } from I.hok p _ hp);refine qMV (n:=(hi - lo).toNat) (I.ok.hd hc) (show IsRange s.heap p lo hi 1 t u v from e) (small_one (by lia) (by lia) (by lia) (by lia)) qaA (by lia) fun h' tk acc hk hacc=>?_
 obtain ⟨a1,a2⟩:=hacc;have I1:Inv X Ab σ H { s with heap:=h',toks:=tk }:=I.kept hk;refine ⟨.ref h'.objs.size,_,I1.laid (t':=tk) (fun b o e=>A4 _ e) (A6 _) (show ObjOk X.prog X.w _ _ _ (.tup (qFW lo hi)) from ⟨?_,acc.toList,qUA rfl (by simpa using a1) fun i v hi=>a2 i v (by rw [<- F6];exact hi),?_⟩),rfl,q _ (I1.hok.fresh (A6 _))⟩
 ·rw [qPW,sizeLine_eq]
  lia
 ·have:=TupB.new h' acc;simpa using this
theorem qPV:∀ (bs:List Bool),((E6 bs.length).all fun i=>(bs[i]?).getD true)=bs.all id:=by
 intro bs;rw [O7,F2,F2]
 constructor
 ·intro h b hb;obtain ⟨i,hi,e⟩:=P5.mp hb;have:=h i (D6.mpr hi);rw [A3 hi,e] at this;exact this
 ·intro h i hi;have hi':=D6.mp hi;rw [A3 hi'];exact h _ (d8 hi')
theorem qGA (hc:X.calm=true):qCF X (.builtin "all") (fun xs H Q=>∃ (p:Addr) (bs:List Bool),xs=[.ref p]/\SqL X.K H p (bs.map V.bl)/\Q (.bl (bs.all id)) H):=by
 intro Ab s σ H xs us Q I r h;obtain ⟨p,bs,rfl,hq,q⟩:=h;obtain ⟨u,rfl,rx⟩:=qDO r;cases rx;obtain ⟨its,rv,pl,hz⟩:=I.list hq;have hl:=pl.isList;have hlt:p<s.heap.objs.size:=by obtain ⟨_,e,_⟩:=hl;exact B3 e
 have hlen:=rv.length;rw [A0] at hlen;refine call_all_walk (wpAny_pyIter_list hl ?_);refine ⟨s.heap.objs.size,[s.heap.objs.size,p],[s.heap.objs.size],its.toArray.size,_,_,fun i=>(bs[i]?).getD true,rfl,A45 (A:=X.A.in1) (I.ok.hd hc) _ p (C2 hlt) its.toArray,
  ⟨⟨_,A9 _ rfl,rfl,rfl⟩,hl.push _⟩,fun i v s' Q' E' hP hQ=>?_,fun h' tk hk=>?_⟩
 ·have hP':its[i]?=some v:=by simpa using hP
  have hi:i<bs.length:=by rw [hlen];exact (A5.mp hP').1
  obtain ⟨u,hu,ru⟩:=rv.get (i:=i) (x:=.bl bs[i]) (by rw [B5,A3 hi];rfl)
  rw [hP'] at hu;cases hu;cases ru;dsimp only at hQ;rw [A3 hi,Y6] at hQ;exact wpAny_truthy_bool hQ
 ·have e:((E6 its.toArray.size).all fun i=>(bs[i]?).getD true)=bs.all id:=by
   rw [C0,<- hlen];exact qPV bs
  refine ⟨.bl (bs.all id),H,I.kept fun b x e=>hk b x (fun hm=>by rw [A8.mp hm] at e;exact X5 _ (B3 e)) (A4 _ e),?_,q⟩
  rw [e]
  rfl
theorem qB6:qCF X (.builtin "isinstance") (fun xs H Q=>∃ x T t b,xs=[x,.ty T]/\TyOf X.K H x t/\Q0 X.K t (.type T)=some b/\Q (.bl b) H):=by
 intro Ab s σ H xs us Q I r h;obtain ⟨x,T,t,b,rfl,ht,hk,q⟩:=h;obtain ⟨u,v,rfl,r1,r2⟩:=qJW r;cases r2;exact qS7 I r1 ht hk fun tk=>⟨.bl b,H,I.tok _,rfl,q⟩
theorem qI3 (hu:X.A.units<cLine):OpR X (compareOp .Eq) (fun x y H Q=>∃ p l xs,x=.ref p/\y=.ref l/\SqL X.K H p xs/\SqL X.K H l []/\Q (.bl xs.isEmpty) H):=by
 intro Ab s σ H x y v u Q I rx ry h;obtain ⟨p,l,xs,rfl,rfl,h1,h2,q⟩:=h;cases rx;cases ry;obtain ⟨its,r1,p1,z1⟩:=I.list h1;obtain ⟨its2,r2,p2,z2⟩:=I.list h2;cases r2;cases xs with
 | nil=>
  cases r1;exact SeqAt.eq_listAt (e:=fun _=>true) p1.isList p2.isList rfl hu (fun j h _=>absurd h (by simp)) ⟨.bl true,H,I,rfl,q⟩
 | cons a r=>
  cases r1;exact SeqAt.eq_list_lengthsAt p1.isList p2.isList (by simp) hu ⟨.bl false,H,I,rfl,q⟩
end
theorem qMI {X:Cx} {K:PySem.W.Frag} {w:World} (hK:X.K=K) (hw:X.w=w) (hc:X.calm=true):qCF X (.builtin "sorted") (fun xs H Q=>∃ p ns,xs=[.ref p]/\(SqL K H p (ns.map V.int)\/SqT K H p (ns.map V.int)\/H p=some (SetO w p ns))/\ns.length<64/\
  ∀ (a:Addr) (ns':List Int),H a=none->ns'.Perm ns->ns'.Pairwise (·<=·)->Q (.ref a) (Ag H a (.lst (ns'.map V.int)))):=by subst hK hw;exact qCE hc
theorem qTD {X:Cx} {K:PySem.W.Frag} {w:World} (hK:X.K=K) (hw:X.w=w) (hc:X.calm=true):qCF X (.type "set") (fun xs H Q=>∃ p ns,xs=[.ref p]/\SqL K H p (ns.map V.int)/\ns.length<=4/\∀ a,H a=none->Q (.ref a) (Ag H a (SetO w a (dedI ns)))):=by subst hK hw;exact qL2 hc
end L2
namespace L2
open PySem PySem.Spec PyProof.Rows
def Ite (K:PySem.W.Frag) (l:Addr):It:=
 ⟨fun i H=>∃ xs x,SqL K H l xs/\xs[i]?=some x,fun i H v H'=>∃ T x,H T=none/\v=.ref T/\H'=Ag H T (.tup [.int (i:Int),x])/\∀ xs,SqL K H l xs->xs[i]?=some x,fun i H=>∃ xs,SqL K H l xs/\xs.length<=i⟩
section
variable {X:Cx}
theorem Inv.turnedL {Ab:List (Addr × Obj)} {s:Shared} {σ:St} {H:Hp} {h':Heap} {t':Nat} {ch:List Addr} (I:Inv X Ab σ H s) (k:∀ b o,b ∉ ch->s.heap.get? b=some o->h'.get? b=some o) (hc:∀ b ∈ ch,FpOk X Ab H b):Inv X Ab σ H { s with heap:=h',toks:=t' }:=by
 have nit:∀ b u,H b=some u->b ∉ ch:=fun b u e z=>by rw [(hc b z).1] at e;cases e
 refine I.step (g':=s.gens) (d':=s.drawn) (ch:=ch) (fun b hb=>⟨(hc b hb).2.2.2.1,(hc b hb).2.1,(hc b hb).2.2.2.2.1,(hc b hb).2.2.2.2.2⟩) (fun b o _ _ hc' e _=>k b o hc' e) (fun b o _ _ hc' e _=>⟨o.slots,k b o hc' e⟩) (fun _ _ _ _ n=>n)
  (fun b o hc' e=>⟨o,k b o hc' e⟩) (fun _ _ e=>e) (fun _ _ _ e=>e) (fun _ _ e=>e) (fun m hm=>?_) (fun b u e=>?_) I.bare
 ·obtain ⟨o,es,ep,ho,r⟩:=hm;exact ⟨o,es,ep,k _ o (fun z=>(hc _ z).2.1 rfl) ho,r⟩
 ·refine (I.hok b u e).stay (fun c v hc' q=>k c v ?_ q) (fun _ q=>q) fun _ _ q=>q;rcases hc' with z | z
  ·rw [z];exact nit b u e
  ·exact nit c _ z
theorem qLB {P:Program} {w:World} {K:PySem.W.Frag} {elts:List Expr} {k:Nat} {pos:Pos} (l it e:Addr) (hne:e ≠ it):Turn P w K (.Tuple elts k pos) (Ite K l) [e,it] e (fun i h=>(∃ old,IsEnum h e it i old)/\h.IsListIter it l i) where
 mem:=by simp
 obj:=fun i h st b hb=>by
  obtain ⟨⟨old,h1⟩,o,h2,_,h4⟩:=st;have e':b=e\/b=it:=by simpa using hb
  rcases e' with rfl | rfl
  ·exact ⟨_,h1,fun v z=>by
    have z':A11 _=y8 v:=z;cases z'⟩
  ·exact ⟨o,h2,fun v z=>by rw [h4] at z;cases z⟩
 keep:=fun i h h' st kk=>by
  obtain ⟨⟨old,h1⟩,h2⟩:=st;exact ⟨⟨old,kk e (by simp) _ h1⟩,h2.at fun o q=>kk it (by simp) o q⟩
 item:=by
  intro X hP hw hK hc i Ab s σ H E I hf st hg;subst hP hw hK;obtain ⟨xs,x,hq,hx⟩:=hg;obtain ⟨its,rv,p,hz⟩:=I.list hq;obtain ⟨u,hu,ru⟩:=rv.get hx;obtain ⟨⟨old,h1⟩,h2⟩:=st;refine wpAny_pyNext_enum_item h1 h2 p.isList (x:=u) (by simpa using hu) hne fun h' a1 a2 a3 a4 a5=>?_
  refine ⟨_,rfl,wpAny_letOwnedTupleGo_enum a1 fun h2 b1 b2=>?_⟩;have ltE:e<s.heap.objs.size:=B3 h1;have I1:Inv X Ab σ H { s with heap:=h2,toks:=s.toks+1 }:=I.turnedL (ch:=[e,it]) (fun b o hb q=>by
   have hb1:b ≠ e:=fun z=>hb (by simp [z])
   have hb2:b ≠ it:=fun z=>hb (by simp [z])
   exact (b2.2 b hb1).trans (a5 b o hb1 hb2 q)) hf
  have hT:H s.heap.objs.size=none:=I.hok.fresh (A6 _);have fT:=I.fpOk (H':=H) (b:=s.heap.objs.size) (A6 _) hT;have gT:h2.get? s.heap.objs.size=some { cls:=.type "tuple",data:=.seq #[.int i s.toks,u] }:=(b2.2 _ (X3 ltE)).trans a3;refine ⟨.ref s.heap.objs.size,Ag H s.heap.objs.size (.tup [.int (i:Int),x]),I1.track hT I.sz fT.2.1 fT.2.2.2.2.1 fT.2.2.2.2.2 ⟨by simp only [D5,Z6];rw [sizeLine_eq];decide,[.int (i:Int) s.toks,u],.cons ⟨_,rfl⟩ (.cons ru .nil),⟨_,gT,rfl,_,rfl,rfl⟩⟩,rfl,
   ⟨_,x,hT,rfl,rfl,fun ys hy=>by rw [I.list_inj hy hq];exact hx⟩,⟨⟨_,b1⟩,a2.at fun o q=>(b2.2 it (J4 hne)).trans q⟩,fun b hb=>?_⟩
  have ltb:b<s.heap.objs.size:=by
   have e':b=e\/b=it:=by simpa using hb
   rcases e' with rfl | rfl
   ·exact ltE
   ·obtain ⟨o,q,_⟩:=h2;exact B3 (by assumption)
  rw [qAC (C2 ltb)];exact (hf b hb).1
 done:=by
  intro X hP hw hK hc i Ab s σ H E I hf st hg;subst hP hw hK;obtain ⟨xs,hq,hx⟩:=hg;obtain ⟨its,rv,p,hz⟩:=I.list hq;have hl:=rv.length;obtain ⟨⟨old,h1⟩,h2⟩:=st;exact wpAny_pyNext_enum_end (I.ok.hd hc) h1 h2 p.isList (by simp;lia) fun h' eb=>⟨rfl,I.turnedL (t':=s.toks) (ch:=[e,it]) (fun b o hb q=>eb b o (fun z=>hb (by simp [z])) q) hf⟩
 self:=fun _ _ _ _ _ st h=>by
  obtain ⟨⟨old,h1⟩,h2⟩:=st;exact wpAny_pyIter_enum h1 h
def qb0 (K:PySem.W.Frag) (ta:TA):TI:=fun σ H R=>ta σ H fun vs H1=>∃ l,vs=[.ref l]/\(∃ xs,SqL K H1 l xs)/\R (Ite K l) H1
theorem qRH {elts:List Expr} {k:Nat} {tpos:Pos} {a:Expr} {ta:TA} {p pos:Pos} (hg:Gl X "enumerate") (hm:X.mg "enumerate" = none) (hv:bootBuiltins "enumerate" = some (.type "enumerate")) (ha:PA X [a] ta) (hs:starEach [a] X.env=[(false,eval a X.env)]:=by rfl) :
  PI X (.Tuple elts k tpos) (.Call (.Name "enumerate" p) [a] [] pos) (qb0 X.K ta):=by
 intro Ab s σ H R I h;refine Call_ (qG4 I hg hm hv (L4 (thn (ha pos Ab s σ H _ I h) fun us s1 ⟨vs,H1,I1,r1,q1⟩=>?_) hs rfl));obtain ⟨l,e,⟨xs,hq⟩,q⟩:=q1;subst e;obtain ⟨u,rfl,rx⟩:=qDO r1;cases rx;obtain ⟨its,rv,pl,hz⟩:=I1.list hq;refine call_enumerate_list pl.isList fun h' he hi hsz hk=>?_;refine wpAny_pyIter_enum he ?_;have I2:Inv X Ab σ H1 { s1 with heap:=h' }:=I1.kept (t':=s1.toks) hk;refine ⟨s1.heap.objs.size+1,[s1.heap.objs.size+1,s1.heap.objs.size],_,_,H1,rfl,I2,qLB l s1.heap.objs.size (s1.heap.objs.size+1) (m9 _),⟨⟨_,he⟩,hi⟩,fun b hb=>?_,q⟩;have e':b=s1.heap.objs.size+1\/b=s1.heap.objs.size:=by simpa using hb
 rcases e' with rfl | rfl
 ·exact I1.fpOk (R8 _) (I1.hok.fresh (R8 _))
 ·exact I1.fpOk (A6 _) (I1.hok.fresh (A6 _))
end
theorem qNF {K:PySem.W.Frag} {a:Addr} {xs:List V} {g:TG} {tc:TT} {te:TE} {Kf:Hp->Prop} {σ0:St} {H0:Hp} {p:Addr} (Pv:Nat->St->Hp->Prop) (h0:Pv 0 σ0 H0) (hl:∀ i σ H,i<=xs.length->Pv i σ H->SqL K H a xs)
  (hs:∀ i x σ H T,xs[i]?=some x->Pv i σ H->H T=none->g (.ref T) σ (Ag H T (.tup [.int (i:Int),x])) fun σ2 H2=>tc σ2 H2 fun b H3=>if b=true then te σ2 H3 fun y H4=>∃ ys,H4 p=some (.lst ys)/\ys.length<sizeLine/\Pv (i+1) σ2 (Ag H4 p (.lst (ys++[y]))) else Pv (i+1) σ2 H3)
  (hd:∀ σ H,Pv xs.length σ H->Kf H) :
  LcG (Ite K a) g tc te Kf σ0 H0 p:=by
 refine ⟨fun i m σ H=>m=xs.length - i/\i<=xs.length/\Pv i σ H,⟨xs.length,by simp,D8 _,h0⟩,?_⟩
 rintro i m σ H ⟨rfl,hi,q⟩;have hq:=hl i σ H hi q;by_cases hlt:i<xs.length
 ·refine .inr ⟨⟨xs,xs[i],hq,by simp [hlt]⟩,Pv (i+1),fun σ' H' p'=>⟨xs.length - (i+1),by lia,rfl,hlt,p'⟩,fun v H' y=>?_⟩
  obtain ⟨T,x,hT,e1,e2,y⟩:=y;subst e1 e2;exact hs i x σ H T (y xs hq) q hT
 ·have e:i=xs.length:=by lia
  subst e;exact .inl ⟨⟨xs,hq,A6 _⟩,hd σ H q⟩
end L2
namespace L2
open PySem PySem.Spec PyProof.Rows
theorem qDU {prog:Program} {w:World} {A:Around} {E:Value->Shared->Prop} {s:Shared} {it t:Addr} {i:Nat} {items:Array Value} {x:Value} {Q:Value->Shared->Prop} (hit:s.heap.IsTupleIter it t i) (ht:s.heap.IsTuple t items) (hx:items[i]?=some x)
  (hQ:∀ h':Heap,h'.IsTupleIter it t (i+1)->Heap.SameBut it s.heap h'->Q x { s with heap:=h' }):wpAny (model prog w) A (V9 (.ref it)) Q E s:=by
 obtain ⟨o,ho,hc,hd⟩:=id hit;obtain ⟨ol,hol,_,nl,hdl⟩:=ht;refine wpAny_bind (wpAny_callSpecial?_slot hit.typeIs T4 (wpAny_call_entry T4 hit.typeIs t9 ?_ (o9 _)));show wpAny _ _ (field (.ref it) 0 >>= _) _ _ _;refine wpAny_bind (wpAny_field ho hd rfl ?_);refine wpAny_ite_false rfl ?_;show wpAny _ _ (field (.ref it) 1 >>= _) _ _ _;refine wpAny_bind (wpAny_field ho hd rfl ?_);show wpAny _ _ (seqItems? (.ref t) >>= _) _ _ _;refine wpAny_bind (wpAny_seqItems hol hdl ?_);show wpAny _ _ (match items[i]? with | some x=>_ | none=>_) _ _ _
 rw [hx];refine wpAny_bind (wpAny_setField ho hd (by simp) ?_)
 refine wpAny_pure ⟨x,rfl,wpAny_pure (hQ _ ⟨_,L5 _ ho (V7 (M7 hd _)),(b8 o _).trans hc,?_⟩ (M8 _ _ _))⟩;rw [M7 hd];simp
 rfl
theorem qEJ {prog:Program} {w:World} {A:Around} {E:Value->Shared->Prop} {s:Shared} {it t:Addr} {i:Nat} {items:Array Value} {Q:Value->Shared->Prop} (hh:A.handled=none) (hit:s.heap.IsTupleIter it t i) (ht:s.heap.IsTuple t items) (hx:items[i]?=none)
  (hE:∀ (h':Heap) (e:Addr),Heap.ExtBut it s.heap h'->(∃ o,h'.get? e=some o/\o.cls=.type "StopIteration")->E (.ref e) { s with heap:=h' }):wpAny (model prog w) A (V9 (.ref it)) Q E s:=by
 obtain ⟨o,ho,hc,hd⟩:=id hit;obtain ⟨ol,hol,_,nl,hdl⟩:=ht;refine wpAny_bind (wpAny_callSpecial?_slot hit.typeIs T4 (wpAny_call_entry T4 hit.typeIs t9 ?_ (o9 _)));show wpAny _ _ (field (.ref it) 0 >>= _) _ _ _;refine wpAny_bind (wpAny_field ho hd rfl ?_);refine wpAny_ite_false rfl ?_;show wpAny _ _ (field (.ref it) 1 >>= _) _ _ _;refine wpAny_bind (wpAny_field ho hd rfl ?_);show wpAny _ _ (seqItems? (.ref t) >>= _) _ _ _;refine wpAny_bind (wpAny_seqItems hol hdl ?_);show wpAny _ _ (match items[i]? with | some x=>_ | none=>_) _ _ _
 rw [hx];refine wpAny_bind (wpAny_rule ?_);refine wpAny_bind (wpAny_setField ho hd (by simp) ?_)
 show wpAny _ _ (newExc (.type "StopIteration") [] >>= _) _ _ _;refine wpAny_bind ?_;simp only [newExc,newTuple];refine wpAny_bind (wpAny_newObj_type ?_ (by size_fits))
 refine wpAny_bind (m:=firstArgMember _ _) (wpAny_of_eq (a:=L7) (by first | rfl | (simp only [firstArgMember];rfl)) ?_)
 refine wpAny_newObj_type ?_ (by size_fits)
 simp only [raiseNew];refine wpAny_bind (wpAny_handled ?_);rw [show A.in1.handled=none from hh];refine wpAny_bind (wpAny_pure (wpAny_throw ?_));exact hE _ _ (((M8 ..).extBut.push _).push _) ⟨_,A9 _ rfl,rfl⟩
def SIt (b:Bool) (h:Heap) (it l:Addr) (i:Nat):Prop:=match b with | true=>h.IsTupleIter it l i | false=>h.IsListIter it l i
def SSq (b:Bool) (h:Heap) (l:Addr) (xs:Array Value):Prop:=match b with | true=>h.IsTuple l xs | false=>h.IsList l xs
theorem SIt.at {b:Bool} {h h':Heap} {it l:Addr} {i:Nat} (q:SIt b h it l i) (k:∀ o,h.get? it=some o->h'.get? it=some o):SIt b h' it l i:=by
 cases b
 ·exact Heap.IsListIter.at q k
 ·exact Heap.IsTupleIter.at q k
theorem SSq.at {b:Bool} {h h':Heap} {l:Addr} {xs:Array Value} (q:SSq b h l xs) (k:∀ o,h.get? l=some o->h'.get? l=some o):SSq b h' l xs:=by
 cases b
 ·obtain ⟨o,e,r⟩:=q;exact ⟨o,k o e,r⟩
 ·obtain ⟨o,e,r⟩:=q;exact ⟨o,k o e,r⟩
theorem qFF {b:Bool} {prog:Program} {w:World} {A:Around} {E:Value->Shared->Prop} {s:Shared} {it t:Addr} {i:Nat} {items:Array Value} {x:Value} {Q:Value->Shared->Prop} (hit:SIt b s.heap it t i) (ht:SSq b s.heap t items) (hx:items[i]?=some x)
  (hQ:∀ h':Heap,SIt b h' it t (i+1)->Heap.SameBut it s.heap h'->Q x { s with heap:=h' }):wpAny (model prog w) A (V9 (.ref it)) Q E s:=by
 cases b
 ·exact wpAny_nextOf_list_item hit ht hx hQ
 ·exact qDU hit ht hx hQ
theorem qJC {b:Bool} {prog:Program} {w:World} {A:Around} {E:Value->Shared->Prop} {s:Shared} {it t:Addr} {i:Nat} {items:Array Value} {Q:Value->Shared->Prop} (hh:A.handled=none) (hit:SIt b s.heap it t i) (ht:SSq b s.heap t items) (hx:items[i]?=none)
  (hE:∀ (h':Heap) (e:Addr),Heap.ExtBut it s.heap h'->(∃ o,h'.get? e=some o/\o.cls=.type "StopIteration")->E (.ref e) { s with heap:=h' }):wpAny (model prog w) A (V9 (.ref it)) Q E s:=by
 cases b
 ·exact wpAny_nextOf_list_end hh hit ht hx hE
 ·exact qEJ hh hit ht hx hE
theorem qQO {b b':Bool} {prog:Program} {w:World} {A:Around} {E:Value->Shared->Prop} {s:Shared} {z TI TO i1 i2 l1 l2:Addr} {k1 k2:Nat} {xs ys:Array Value} {x y a c:Value} {Q:Value->Shared->Prop} (D:ZipApart z TI TO i1 i2 l1 l2) (hz:IsZip s.heap z TI TO .none) (hTI:IsPair s.heap TI (.ref i1) (.ref i2)) (hTO:IsPair s.heap TO a c)
  (h1:SIt b s.heap i1 l1 k1) (h2:SIt b' s.heap i2 l2 k2) (hl1:SSq b s.heap l1 xs) (hl2:SSq b' s.heap l2 ys) (hx:xs[k1]?=some x) (hy:ys[k2]?=some y)
  (hQ:∀ h':Heap,IsZip h' z TI TO (rawInt (s.heap.objs.size:Int))->IsPair h' TO x y->SIt b h' i1 l1 (k1+1)->SIt b' h' i2 l2 (k2+1)->IsPair h' s.heap.objs.size x y->h'.objs.size=s.heap.objs.size+1->
   (∀ (c:Addr) (o:Obj),c ≠ z->c ≠ TO->c ≠ i1->c ≠ i2->s.heap.get? c=some o->h'.get? c=some o)->Q (.ref s.heap.objs.size) { s with heap:=h' }) :
  wpAny (model prog w) A (Builtin.«zip.__next__» { pos:=[.ref z] }) (fun fin s'=>∃ v,fin=.done (.ret v)/\Q v s') E s:=by
 show wpAny _ _ (field (.ref z) 2 >>= _) _ _ _;refine wpAny_bind (wpAny_field hz rfl rfl ?_);show wpAny _ _ (field (.ref z) 3 >>= _) _ _ _;refine wpAny_bind (wpAny_field hz rfl rfl ?_);refine wpAny_bind (wpAny_seqItems hTI rfl ?_);show wpAny _ _ (R9 (.ref z) >>= _) _ _ _;refine wpAny_bind ?_;show wpAny _ _ (field (.ref z) 0 >>= _) _ _ _;refine wpAny_bind (wpAny_field hz rfl rfl (wpAny_pure ?_));refine wpAny_ite_true rfl ?_;refine wpAny_bind (wpAny_rule ?_);refine wpAny_bind (wpAny_field hz rfl rfl ?_);refine wpAny_bind (wpAny_setField_rec hz (by simp) fun hA gz sb=>?_)
 refine wpAny_bind ?_;show wpAny _ _ (forIn [(F3 i1,0),(F3 i2,1)] _ _) _ _ _;rw [R6];refine wpAny_bind ?_;dsimp only;refine wpAny_bind (wpAny_onRaise ?_);have e:((#[L7,W6 false,W6 false,F3 TI,F3 TO][2] == W6 true)=false):=rfl;rw [e];have sA1:SIt b hA i1 l1 k1:=h1.at fun o q=>(sb.2 _ D.i1z).trans q;have sL1:SSq b hA l1 xs:=hl1.at fun o q=>(sb.2 _ D.l1z).trans q;refine wpAny_bind (qFF (s:={ s with heap:=hA }) sA1 sL1 hx fun hB nB sB=>?_);refine wpAny_pure ?_;have tB:IsPair hB TO a c:=(sB.2 _ D.TOi1).trans ((sb.2 _ D.TOz).trans hTO);refine wpAny_bind (wpAny_seqItems tB rfl ?_);refine wpAny_bind (wpAny_updateSeq_pair tB fun hC tC sC=>?_);refine wpAny_bind (wpAny_letGo (wpAny_pure ?_));dsimp only;rw [R6];refine wpAny_bind ?_;refine wpAny_bind (wpAny_onRaise ?_);have sC2:SIt b' hC i2 l2 k2:=h2.at fun o q=>(sC.2 _ (J4 D.TOi2)).trans ((sB.2 _ (J4 D.i12)).trans ((sb.2 _ D.i2z).trans q));have sL2:SSq b' hC l2 ys:=hl2.at fun o q=>(sC.2 _ D.l2TO).trans ((sB.2 _ D.l2i1).trans ((sb.2 _ D.l2z).trans q));refine wpAny_bind (qFF (s:={ s with heap:=hC }) sC2 sL2 hy fun hD nD sD=>?_);refine wpAny_pure ?_;have tD:IsPair hD TO x c:=(sD.2 _ D.TOi2).trans tC;refine wpAny_bind (wpAny_seqItems tD rfl ?_);refine wpAny_bind (wpAny_updateSeq_pair tD fun hF tF sF=>?_);refine wpAny_bind (wpAny_letGo (wpAny_pure ?_));dsimp only;rw [B37];refine wpAny_pure ?_;dsimp only;have tF':IsPair hF TO x y:=tF;refine wpAny_bind (wpAny_seqItems tF' rfl ?_);refine wpAny_bind (wpAny_newTuple ?_ (by show 2<=sizeLine;decide))
 have gzF:hF.get? z=some { cls:=.type "zip",data:=.fields #[.ellipsis,.bool false,.bool false,.ref TI,.ref TO] }:=(sF.2 _ (J4 D.TOz)).trans ((sD.2 _ (J4 D.i2z)).trans ((sC.2 _ (J4 D.TOz)).trans ((sB.2 _ (J4 D.i1z)).trans gz)));have szF:hF.objs.size=s.heap.objs.size:=sF.1.trans (sD.1.trans (sC.1.trans (sB.1.trans sb.1)));have ltz:z<hF.objs.size:=B3 gzF;have gzG:(hF.push { cls:=.type "tuple",data:=.seq #[x,y] }).get? z=some { cls:=.type "zip",data:=.fields #[.ellipsis,.bool false,.bool false,.ref TI,.ref TO] }:=A4 _ gzF;refine wpAny_bind ?_;show wpAny _ _ (setField (.ref z) 0 (rawInt _) >>= _) _ _ _;refine wpAny_bind (wpAny_setField_rec gzG (by simp) fun hG gG sG=>?_)
 refine wpAny_setField_rec gG (by simp) fun hI gI sI=>?_
 refine wpAny_pure ⟨_,rfl,?_⟩;have o4:∀ (c:Addr) (o:Obj),c ≠ z->c ≠ TO->c ≠ i1->c ≠ i2->s.heap.get? c=some o->hI.get? c=some o:=fun c o n1 n2 n3 n4 e=>
  (sI.2 _ n1).trans ((sG.2 _ n1).trans (A4 _ ((sF.2 _ n2).trans ((sD.2 _ n4).trans ((sC.2 _ n2).trans ((sB.2 _ n3).trans ((sb.2 _ n1).trans e)))))))
 have nz:hF.objs.size ≠ z:=X3 ltz;have gT:hI.get? hF.objs.size=some { cls:=.type "tuple",data:=.seq #[x,y] }:=(sI.2 _ nz).trans ((sG.2 _ nz).trans (A9 _ rfl));have szI:hI.objs.size=hF.objs.size+1:=sI.1.trans (sG.1.trans (M6 ..));have pz:∀ {c:Addr} {o:Obj},c ≠ z->hF.get? c=some o->hI.get? c=some o:=fun n e=>(sI.2 _ n).trans ((sG.2 _ n).trans (A4 _ e));have q:=hQ hI;rw [<- szF] at q;refine q gI (pz D.TOz tF') (nB.at fun o e=>pz D.i1z ((sF.2 _ (J4 D.TOi1)).trans ((sD.2 _ D.i12).trans ((sC.2 _ (J4 D.TOi1)).trans e)))) (nD.at fun o e=>pz D.i2z ((sF.2 _ (J4 D.TOi2)).trans e)) gT szI o4
theorem qTY {b:Bool} {prog:Program} {w:World} {A:Around} {E:Value->Shared->Prop} {s:Shared} {z TI TO i1 i2 l1 l2:Addr} {k1:Nat} {xs:Array Value} {Q:PySem.Fin->Shared->Prop} (hh:A.handled=none) (D:ZipApart z TI TO i1 i2 l1 l2) (hz:IsZip s.heap z TI TO .none) (hTI:IsPair s.heap TI (.ref i1) (.ref i2))
  (h1:SIt b s.heap i1 l1 k1) (hl1:SSq b s.heap l1 xs) (hx:xs[k1]?=none)
  (hE:∀ (h':Heap) (e:Addr),(∀ (c:Addr) (o:Obj),c ≠ z->c ≠ i1->s.heap.get? c=some o->h'.get? c=some o)->(∃ o,h'.get? e=some o/\o.cls=.type "StopIteration")->E (.ref e) { s with heap:=h' }) :
  wpAny (model prog w) A (Builtin.«zip.__next__» { pos:=[.ref z] }) Q E s:=by
 show wpAny _ _ (field (.ref z) 2 >>= _) _ _ _;refine wpAny_bind (wpAny_field hz rfl rfl ?_);show wpAny _ _ (field (.ref z) 3 >>= _) _ _ _;refine wpAny_bind (wpAny_field hz rfl rfl ?_);refine wpAny_bind (wpAny_seqItems hTI rfl ?_);show wpAny _ _ (R9 (.ref z) >>= _) _ _ _;refine wpAny_bind ?_;show wpAny _ _ (field (.ref z) 0 >>= _) _ _ _;refine wpAny_bind (wpAny_field hz rfl rfl (wpAny_pure ?_));refine wpAny_ite_true rfl ?_;refine wpAny_bind (wpAny_rule ?_);refine wpAny_bind (wpAny_field hz rfl rfl ?_);refine wpAny_bind (wpAny_setField_rec hz (by simp) fun hA gz sb=>?_)
 refine wpAny_bind ?_;show wpAny _ _ (forIn [(F3 i1,0),(F3 i2,1)] _ _) _ _ _;rw [R6];refine wpAny_bind ?_;dsimp only;refine wpAny_bind (wpAny_onRaise ?_);have e:((#[L7,W6 false,W6 false,F3 TI,F3 TO][2] == W6 true)=false):=rfl;rw [e];have sA1:SIt b hA i1 l1 k1:=h1.at fun o q=>(sb.2 _ D.i1z).trans q;have sL1:SSq b hA l1 xs:=hl1.at fun o q=>(sb.2 _ D.l1z).trans q;refine wpAny_bind (qJC (s:={ s with heap:=hA }) hh sA1 sL1 hx fun hB ea xB ⟨ob,gb,cb⟩=>?_);have gzB:=xB z _ (J4 D.i1z) gz;refine wpAny_setField_rec gzB (by simp) fun hC gC sC=>?_
 have nez:ea ≠ z:=fun q=>by
  rw [q,gzB] at gb;cases gb;exact absurd (show f9 "zip" = f9 "StopIteration" from cb) (by decide)
 exact hE hC ea (fun c o n1 n2 q=>(sC.2 _ n1).trans (xB c o n2 ((sb.2 _ n1).trans q))) ⟨ob,(sC.2 _ nez).trans gb,cb⟩
theorem qQP {b b':Bool} {prog:Program} {w:World} {A:Around} {E:Value->Shared->Prop} {s:Shared} {z TI TO i1 i2 l1 l2:Addr} {k1 k2:Nat} {xs ys:Array Value} {x a c:Value} {Q:PySem.Fin->Shared->Prop} (hh:A.handled=none) (D:ZipApart z TI TO i1 i2 l1 l2) (hz:IsZip s.heap z TI TO .none) (hTI:IsPair s.heap TI (.ref i1) (.ref i2)) (hTO:IsPair s.heap TO a c)
  (h1:SIt b s.heap i1 l1 k1) (h2:SIt b' s.heap i2 l2 k2) (hl1:SSq b s.heap l1 xs) (hl2:SSq b' s.heap l2 ys) (hx:xs[k1]?=some x) (hy:ys[k2]?=none)
  (hE:∀ (h':Heap) (e:Addr),(∀ (c:Addr) (o:Obj),c ≠ z->c ≠ TO->c ≠ i1->c ≠ i2->s.heap.get? c=some o->h'.get? c=some o)->(∃ o,h'.get? e=some o/\o.cls=.type "StopIteration")->E (.ref e) { s with heap:=h' }) :
  wpAny (model prog w) A (Builtin.«zip.__next__» { pos:=[.ref z] }) Q E s:=by
 show wpAny _ _ (field (.ref z) 2 >>= _) _ _ _;refine wpAny_bind (wpAny_field hz rfl rfl ?_);show wpAny _ _ (field (.ref z) 3 >>= _) _ _ _;refine wpAny_bind (wpAny_field hz rfl rfl ?_);refine wpAny_bind (wpAny_seqItems hTI rfl ?_);show wpAny _ _ (R9 (.ref z) >>= _) _ _ _;refine wpAny_bind ?_;show wpAny _ _ (field (.ref z) 0 >>= _) _ _ _;refine wpAny_bind (wpAny_field hz rfl rfl (wpAny_pure ?_));refine wpAny_ite_true rfl ?_;refine wpAny_bind (wpAny_rule ?_);refine wpAny_bind (wpAny_field hz rfl rfl ?_);refine wpAny_bind (wpAny_setField_rec hz (by simp) fun hA gz sb=>?_)
 refine wpAny_bind ?_;show wpAny _ _ (forIn [(F3 i1,0),(F3 i2,1)] _ _) _ _ _;rw [R6];refine wpAny_bind ?_;dsimp only;refine wpAny_bind (wpAny_onRaise ?_);have e:((#[L7,W6 false,W6 false,F3 TI,F3 TO][2] == W6 true)=false):=rfl;rw [e];have sA1:SIt b hA i1 l1 k1:=h1.at fun o q=>(sb.2 _ D.i1z).trans q;have sL1:SSq b hA l1 xs:=hl1.at fun o q=>(sb.2 _ D.l1z).trans q;refine wpAny_bind (qFF (s:={ s with heap:=hA }) sA1 sL1 hx fun hB nB sB=>?_);refine wpAny_pure ?_;have tB:IsPair hB TO a c:=(sB.2 _ D.TOi1).trans ((sb.2 _ D.TOz).trans hTO);refine wpAny_bind (wpAny_seqItems tB rfl ?_);refine wpAny_bind (wpAny_updateSeq_pair tB fun hC tC sC=>?_);refine wpAny_bind (wpAny_letGo (wpAny_pure ?_));dsimp only;rw [R6];refine wpAny_bind ?_;refine wpAny_bind (wpAny_onRaise ?_);have sC2:SIt b' hC i2 l2 k2:=h2.at fun o q=>(sC.2 _ (J4 D.TOi2)).trans ((sB.2 _ (J4 D.i12)).trans ((sb.2 _ D.i2z).trans q));have sL2:SSq b' hC l2 ys:=hl2.at fun o q=>(sC.2 _ D.l2TO).trans ((sB.2 _ D.l2i1).trans ((sb.2 _ D.l2z).trans q));refine wpAny_bind (qJC (s:={ s with heap:=hC }) hh sC2 sL2 hy fun hD ea xD ⟨ob,gb,cb⟩=>?_);have gzC:hC.get? z=some { cls:=.type "zip",data:=.fields #[.ellipsis,.bool false,.bool false,.ref TI,.ref TO] }:=(sC.2 _ (J4 D.TOz)).trans ((sB.2 _ (J4 D.i1z)).trans gz);have gzD:=xD z _ (J4 D.i2z) gzC;refine wpAny_setField_rec gzD (by simp) fun hF gF sF=>?_
 have nez:ea ≠ z:=fun q=>by
  rw [q,gzD] at gb;cases gb;exact absurd (show f9 "zip" = f9 "StopIteration" from cb) (by decide)
 exact hE hF ea (fun c o n1 n2 n3 n4 q=>(sF.2 _ n1).trans (xD c o n4 ((sC.2 _ n2).trans ((sB.2 _ n3).trans ((sb.2 _ n1).trans q))))) ⟨ob,(sF.2 _ nez).trans gb,cb⟩
section
variable {b b':Bool} {prog:Program} {w:World} {A:Around} {E:Value->Shared->Prop} {s:Shared} {z TI TO i1 i2 l1 l2:Addr} {k1 k2:Nat} {xs ys:Array Value}
theorem qH6 {x y a c:Value} {Q:Option Value->Shared->Prop} (D:ZipApart z TI TO i1 i2 l1 l2) (hz:IsZip s.heap z TI TO .none) (hTI:IsPair s.heap TI (.ref i1) (.ref i2)) (hTO:IsPair s.heap TO a c)
  (h1:SIt b s.heap i1 l1 k1) (h2:SIt b' s.heap i2 l2 k2) (hl1:SSq b s.heap l1 xs) (hl2:SSq b' s.heap l2 ys) (hx:xs[k1]?=some x) (hy:ys[k2]?=some y)
  (hQ:∀ h':Heap,IsZip h' z TI TO (rawInt (s.heap.objs.size:Int))->IsPair h' TO x y->SIt b h' i1 l1 (k1+1)->SIt b' h' i2 l2 (k2+1)->IsPair h' s.heap.objs.size x y->h'.objs.size=s.heap.objs.size+1->
   (∀ (c:Addr) (o:Obj),c ≠ z->c ≠ TO->c ≠ i1->c ≠ i2->s.heap.get? c=some o->h'.get? c=some o)->Q (some (.ref s.heap.objs.size)) { s with heap:=h' }) :
  wpAny (model prog w) A (pyNext (.ref z)) Q E s:=by
 have hT:s.TypeIs (.ref z) "zip":=⟨_,hz,rfl⟩;unfold pyNext;refine wpAny_bind (wpAny_attempt (wpAny_callSpecial?_slot (name:=D2 "__next__") hT Z9 (wpAny_call_entry Z9 hT A17 ?_ (A03 _))));exact qQO (Q:=fun v s'=>wpAny (model prog w) A (pure (some v)) Q E s') D hz hTI hTO h1 h2 hl1 hl2 hx hy fun h' q1 q2 q3 q4 q5 q6 q7=>wpAny_pure (hQ h' q1 q2 q3 q4 q5 q6 q7)
theorem qHW {Q:Option Value->Shared->Prop} (hh:A.handled=none) (D:ZipApart z TI TO i1 i2 l1 l2) (hz:IsZip s.heap z TI TO .none) (hTI:IsPair s.heap TI (.ref i1) (.ref i2))
  (h1:SIt b s.heap i1 l1 k1) (hl1:SSq b s.heap l1 xs) (hx:xs[k1]?=none)
  (hQ:∀ h':Heap,(∀ (c:Addr) (o:Obj),c ≠ z->c ≠ i1->s.heap.get? c=some o->h'.get? c=some o)->Q none { s with heap:=h' }) :
  wpAny (model prog w) A (pyNext (.ref z)) Q E s:=by
 have hT:s.TypeIs (.ref z) "zip":=⟨_,hz,rfl⟩;unfold pyNext;refine wpAny_bind (wpAny_attempt (wpAny_callSpecial?_slot (name:=D2 "__next__") hT Z9 (wpAny_call_entry Z9 hT A17 ?_ (A03 _))));refine qTY hh D hz hTI h1 hl1 hx fun h' e k ⟨o,g,c⟩=>?_;refine wpAny_bind (wpAny_isInstance (T:="StopIteration") (b:=true) ⟨_,g,c⟩ isSubtype_stop ?_);exact wpAny_pure (hQ h' k)
theorem qH7 {x a c:Value} {Q:Option Value->Shared->Prop} (hh:A.handled=none) (D:ZipApart z TI TO i1 i2 l1 l2) (hz:IsZip s.heap z TI TO .none) (hTI:IsPair s.heap TI (.ref i1) (.ref i2)) (hTO:IsPair s.heap TO a c)
  (h1:SIt b s.heap i1 l1 k1) (h2:SIt b' s.heap i2 l2 k2) (hl1:SSq b s.heap l1 xs) (hl2:SSq b' s.heap l2 ys) (hx:xs[k1]?=some x) (hy:ys[k2]?=none)
  (hQ:∀ h':Heap,(∀ (c:Addr) (o:Obj),c ≠ z->c ≠ TO->c ≠ i1->c ≠ i2->s.heap.get? c=some o->h'.get? c=some o)->Q none { s with heap:=h' }) :
  wpAny (model prog w) A (pyNext (.ref z)) Q E s:=by
 have hT:s.TypeIs (.ref z) "zip":=⟨_,hz,rfl⟩;unfold pyNext;refine wpAny_bind (wpAny_attempt (wpAny_callSpecial?_slot (name:=D2 "__next__") hT Z9 (wpAny_call_entry Z9 hT A17 ?_ (A03 _))));refine qQP hh D hz hTI hTO h1 h2 hl1 hl2 hx hy fun h' e k ⟨o,g,c⟩=>?_;refine wpAny_bind (wpAny_isInstance (T:="StopIteration") (b:=true) ⟨_,g,c⟩ isSubtype_stop ?_);exact wpAny_pure (hQ h' k)
end
noncomputable abbrev itObj (b:Bool) (l:Addr):Obj:={ cls:=.type (match b with | true=>"tuple_iterator" | false=>"list_iterator"),data:=.fields #[.ref l,.int 0 0] }
theorem qGH {b:Bool} {prog:Program} {w:World} {A:Around} {E:Value->Shared->Prop} {s:Shared} {l:Addr} {xs:Array Value} {Q:Value->Shared->Prop} (h:SSq b s.heap l xs) (hQ:Q (.ref s.heap.objs.size) { s with heap:=s.heap.push (itObj b l) }):wpAny (model prog w) A (pyIter (.ref l)) Q E s:=by
 cases b
 ·exact wpAny_pyIter_list h hQ
 ·exact wpAny_pyIter_tuple h hQ
noncomputable abbrev zb1 (b:Bool) (h:Heap) (l1:Addr):Heap:=h.push (itObj b l1)
noncomputable abbrev zb2 (b b':Bool) (h:Heap) (l1 l2:Addr):Heap:=(zb1 b h l1).push (itObj b' l2)
noncomputable abbrev zb3 (b b':Bool) (h:Heap) (l1 l2:Addr):Heap:=(zb2 b b' h l1 l2).push { cls:=.type "tuple",data:=.seq #[.ref h.objs.size,.ref (zb1 b h l1).objs.size] }
noncomputable abbrev zb4 (b b':Bool) (h:Heap) (l1 l2:Addr):Heap:=(zb3 b b' h l1 l2).push { cls:=.type "tuple",data:=.seq #[.none,.none] }
noncomputable abbrev zb5 (b b':Bool) (h:Heap) (l1 l2:Addr):Heap:=(zb4 b b' h l1 l2).push { cls:=.type "zip",data:=.fields #[.none,.bool false,.bool false,.ref (zb2 b b' h l1 l2).objs.size,.ref (zb3 b b' h l1 l2).objs.size] }
theorem qTX (b b':Bool) (l1 l2:Addr) (xs ys:Array Value):Meets (Builtin.«zip.__new__» { pos:=[.type "zip",.ref l1,.ref l2] }) fun _ R s=>
  SSq b s.heap l1 xs/\SSq b' s.heap l2 ys/\R (.ok (.ret (.ref (zb4 b b' s.heap l1 l2).objs.size))) { s with heap:=zb5 b b' s.heap l1 l2 }:=by
 refine Meets.of_wp fun prog w A R s h=>?_;obtain ⟨hp,g,d,tk,os⟩:=s;obtain ⟨hl1,hl2,h⟩:=h;have hL2:SSq b' (hp.push (itObj b l1)) l2 ys:=SSq.at hl2 fun o q=>A4 _ q;refine wpAny_bind ?_;refine wpAny_bind (wpAny_pure ?_);refine wpAny_ite_false rfl ?_;refine wpAny_bind (wpAny_of_eq sub_zip ?_);refine wpAny_ite_false rfl ?_;refine wpAny_pure ?_;refine wpAny_ite_false rfl ?_;refine wpAny_bind ?_;refine wpAny_bind ?_;show wpAny _ _ (forIn [F3 l1,F3 l2] #[] _) _ _ _;rw [R6];refine wpAny_bind (wpAny_bind (wpAny_holding (qGH hl1 (wpAny_pure ?_))));dsimp only;rw [R6];refine wpAny_bind (wpAny_bind (wpAny_holding (qGH hL2 (wpAny_pure ?_))));dsimp only;rw [B37];refine wpAny_pure (wpAny_pure ?_);refine wpAny_bind (wpAny_newTuple ?_ (by show 2<=sizeLine;decide))
 refine wpAny_bind (wpAny_newTuple ?_ (by show 2<=sizeLine;decide))
 refine wpAny_bind ?_;unfold Z5;dsimp only;refine wpAny_newObj_type ?_ (by first | rfl | (show (5:Nat)<=_;decide) | (show (5:Nat)<=sizeLine+2;rw [sizeLine_eq];decide))
 refine wpAny_pure ⟨_,rfl,h⟩
end L2
namespace L2
open PySem PySem.Spec PyProof.Rows
theorem qTB {b b':Bool} {prog:Program} {w:World} {A:Around} {E:Value->Shared->Prop} {s:Shared} {l1 l2:Addr} {xs ys:Array Value} {Q:Value->Shared->Prop} (hl1:SSq b s.heap l1 xs) (hl2:SSq b' s.heap l2 ys)
  (hQ:∀ (h':Heap) (z TI TO i1 i2:Addr),ZipApart z TI TO i1 i2 l1 l2->IsZip h' z TI TO .none->IsPair h' TI (.ref i1) (.ref i2)->IsPair h' TO .none .none->SIt b h' i1 l1 0->SIt b' h' i2 l2 0->(∀ c ∈ [z,TI,TO,i1,i2],s.heap.objs.size<=c)->
   (∀ (c:Addr) (o:Obj),s.heap.get? c=some o->h'.get? c=some o)->Q (.ref z) { s with heap:=h' }) :
  wpAny (model prog w) A (call (.type "zip") [.ref l1,.ref l2]) Q E s:=by
 refine callType_new F.called_zip (by decide) (F.typeCall_zip_2 _ _) (F.newCall_zip_2 _ _) (fun obj=>F.args_object_init_3 obj _ _) F.entry_zip_new (qTX b b' l1 l2 xs ys) ⟨hl1,hl2,?_⟩
 have z1:(zb1 b s.heap l1).objs.size=s.heap.objs.size+1:=M6 ..;have z2:(zb2 b b' s.heap l1 l2).objs.size=s.heap.objs.size+2:=(M6 ..).trans (by rw [z1])
 have z3:(zb3 b b' s.heap l1 l2).objs.size=s.heap.objs.size+3:=(M6 ..).trans (by rw [z2])
 have z4:(zb4 b b' s.heap l1 l2).objs.size=s.heap.objs.size+4:=(M6 ..).trans (by rw [z3])
 have g5:(zb5 b b' s.heap l1 l2).get? (zb4 b b' s.heap l1 l2).objs.size=some { cls:=.type "zip",data:=.fields #[.none,.bool false,.bool false,.ref (zb2 b b' s.heap l1 l2).objs.size,.ref (zb3 b b' s.heap l1 l2).objs.size] }:=A9 _ rfl;have g4:(zb5 b b' s.heap l1 l2).get? (zb3 b b' s.heap l1 l2).objs.size=some { cls:=.type "tuple",data:=.seq #[.none,.none] }:=A4 _ (A9 _ rfl);have g3:(zb5 b b' s.heap l1 l2).get? (zb2 b b' s.heap l1 l2).objs.size=some { cls:=.type "tuple",data:=.seq #[.ref s.heap.objs.size,.ref (zb1 b s.heap l1).objs.size] }:=A4 _ (A4 _ (A9 _ rfl));have g2:(zb5 b b' s.heap l1 l2).get? (zb1 b s.heap l1).objs.size=some (itObj b' l2):=A4 _ (A4 _ (A4 _ (A9 _ rfl)));have g1:(zb5 b b' s.heap l1 l2).get? s.heap.objs.size=some (itObj b l1):=A4 _ (A4 _ (A4 _ (A4 _ (A9 _ rfl))));have lt:∀ {b:Bool} {l:Addr} {zs:Array Value},SSq b s.heap l zs->l<s.heap.objs.size:=fun {b l zs} q=>by
  cases b
  ·obtain ⟨o,e,_⟩:=q;exact B3 e
  ·obtain ⟨o,e,_⟩:=q;exact B3 e
 refine ⟨⟨_,g5,rfl⟩,?_⟩;have D:=zipApart_new (n:=s.heap.objs.size) (lt hl1) (lt hl2);rw [<- z4,<- z3,<- z2,<- z1] at D;refine hQ _ _ _ _ _ _ D g5 g3 g4 ?_ ?_ ?_ fun c o e=>A4 _ (A4 _ (A4 _ (A4 _ (A4 _ e))))
 ·cases b
  ·exact ⟨_,g1,rfl,rfl⟩
  ·exact ⟨_,g1,rfl,rfl⟩
 ·cases b'
  ·exact ⟨_,g2,rfl,rfl⟩
  ·exact ⟨_,g2,rfl,rfl⟩
 ·intro c hc;have e':c=(zb4 b b' s.heap l1 l2).objs.size\/c=(zb2 b b' s.heap l1 l2).objs.size\/c=(zb3 b b' s.heap l1 l2).objs.size\/c=s.heap.objs.size\/c=(zb1 b s.heap l1).objs.size:=by simpa using hc
  rcases e' with rfl | rfl | rfl | rfl | rfl
  ·lia
  ·lia
  ·lia
  ·exact A6 _
  ·lia
def SqB (b:Bool) (K:PySem.W.Frag) (H:Hp) (a:Addr) (xs:List V):Prop:=match b with | true=>SqT K H a xs | false=>SqL K H a xs
def Itz2 (K:PySem.W.Frag) (b b':Bool) (l1 l2:Addr):It:=
 ⟨fun i H=>∃ xs ys x y,SqB b K H l1 xs/\SqB b' K H l2 ys/\xs[i]?=some x/\ys[i]?=some y,fun i H v H'=>∃ T x y,H T=none/\v=.ref T/\H'=Ag H T (.tup [x,y])/\∀ xs ys,SqB b K H l1 xs->SqB b' K H l2 ys->xs[i]?=some x/\ys[i]?=some y,fun i H=>∃ xs,SqB b K H l1 xs/\(xs.length<=i\/∃ ys x,SqB b' K H l2 ys/\xs[i]?=some x/\ys.length<=i)⟩
abbrev Itz (K:PySem.W.Frag) (b:Bool) (l1 l2:Addr):It:=Itz2 K b b l1 l2
section
variable {X:Cx}
theorem Inv.seqB {b:Bool} {Ab:List (Addr × Obj)} {s:Shared} {σ:St} {H:Hp} {a:Addr} {xs:List V} (I:Inv X Ab σ H s) (h:SqB b X.K H a xs):∃ its:List Value,Vals xs its/\SSq b s.heap a its.toArray:=by
 cases b
 ·obtain ⟨its,rv,p,_⟩:=I.list h;exact ⟨its,rv,p.isList⟩
 ·obtain ⟨its,rv,p,_⟩:=I.tuple h;exact ⟨its,rv,p⟩
theorem Inv.seqB_inj {b:Bool} {Ab:List (Addr × Obj)} {s:Shared} {σ:St} {H:Hp} {a:Addr} {xs ys:List V} (I:Inv X Ab σ H s) (h:SqB b X.K H a xs) (h':SqB b X.K H a ys):xs=ys:=by
 cases b
 ·exact I.list_inj h h'
 ·exact I.tuple_inj h h'
theorem qU3 {P:Program} {w:World} {K:PySem.W.Frag} {elts:List Expr} {k:Nat} {pos:Pos} {b b':Bool} {z TI TO i1 i2 l1 l2:Addr} (D:ZipApart z TI TO i1 i2 l1 l2):Turn P w K (.Tuple elts k pos) (Itz2 K b b' l1 l2) [z,TI,TO,i1,i2] z (fun i h=>IsZip h z TI TO .none/\IsPair h TI (.ref i1) (.ref i2)/\(∃ a c,IsPair h TO a c)/\SIt b h i1 l1 i/\SIt b' h i2 l2 i) where
 mem:=by simp
 obj:=fun i h ⟨h1,h2,⟨a,c,h3⟩,h4,h5⟩ d hd=>by
  have it:∀ {b:Bool} {j l:Addr},SIt b h j l i->∃ o,h.get? j=some o/\∀ v,o.data ≠ .cell v:=fun {b j l} q=>by
   cases b
   ·obtain ⟨o,e,_,q⟩:=q;exact ⟨o,e,fun v z=>by rw [q] at z;cases z⟩
   ·obtain ⟨o,e,_,q⟩:=q;exact ⟨o,e,fun v z=>by rw [q] at z;cases z⟩
  have e':d=z\/d=TI\/d=TO\/d=i1\/d=i2:=by simpa using hd
  rcases e' with rfl | rfl | rfl | rfl | rfl
  ·exact ⟨_,h1,fun v z=>by
    have z':A11 _=y8 v:=z;cases z'⟩
  ·exact ⟨_,h2,fun v z=>by
    have z':B58 _=y8 v:=z;cases z'⟩
  ·exact ⟨_,h3,fun v z=>by
    have z':B58 _=y8 v:=z;cases z'⟩
  ·exact it h4
  ·exact it h5
 keep:=fun i h h' ⟨h1,h2,⟨a,c,h3⟩,h4,h5⟩ kk=>⟨kk z (by simp) _ h1,kk TI (by simp) _ h2,⟨a,c,kk TO (by simp) _ h3⟩,h4.at fun o q=>kk i1 (by simp) o q,h5.at fun o q=>kk i2 (by simp) o q⟩
 item:=by
  intro X hP hw hK hc i Ab s σ H E I hf st hg;subst hP hw hK;obtain ⟨xs,ys,x,y,hq1,hq2,hx,hy⟩:=hg;obtain ⟨its,rv,p1⟩:=I.seqB hq1;obtain ⟨jts,rw',p2⟩:=I.seqB hq2;obtain ⟨u,hu,ru⟩:=rv.get hx;obtain ⟨v,hv,rv'⟩:=rw'.get hy;obtain ⟨h1,h2,⟨a,c,h3⟩,h4,h5⟩:=st;refine qH6 D h1 h2 h3 h4 h5 p1 p2 (x:=u) (y:=v) (by simpa using hu) (by simpa using hv) fun h' a1 a2 a3 a4 a5 a6 a7=>?_
  refine ⟨_,rfl,wpAny_letOwnedTupleGo_zip a1 fun h2' b1 b2=>?_⟩;have ltz:z<s.heap.objs.size:=B3 h1;have nz:s.heap.objs.size ≠ z:=X3 ltz;have I1:Inv X Ab σ H { s with heap:=h2',toks:=s.toks }:=I.turnedL (ch:=[z,TI,TO,i1,i2]) (fun d o hd q=>by
   have e1:d ≠ z:=fun q=>hd (by simp [q])
   exact (b2.2 d e1).trans (a7 d o e1 (fun q=>hd (by simp [q])) (fun q=>hd (by simp [q])) (fun q=>hd (by simp [q])) q)) hf
  have hT:H s.heap.objs.size=none:=I.hok.fresh (A6 _);have fT:=I.fpOk (H':=H) (b:=s.heap.objs.size) (A6 _) hT;have gT:h2'.get? s.heap.objs.size=some { cls:=.type "tuple",data:=.seq #[u,v] }:=(b2.2 _ nz).trans a5;refine ⟨.ref s.heap.objs.size,Ag H s.heap.objs.size (.tup [x,y]),I1.track hT I.sz fT.2.1 fT.2.2.2.2.1 fT.2.2.2.2.2 ⟨by simp only [D5,Z6];rw [sizeLine_eq];decide,[u,v],.cons ru (.cons rv' .nil),⟨_,gT,rfl,_,rfl,rfl⟩⟩,rfl,
   ⟨_,x,y,hT,rfl,rfl,fun xs' ys' e1 e2=>by rw [I.seqB_inj e1 hq1,I.seqB_inj e2 hq2];exact ⟨hx,hy⟩⟩,⟨b1,(b2.2 _ D.TIz).trans (a7 _ _ D.TIz D.TITO D.TIi1 D.TIi2 h2),⟨u,v,(b2.2 _ D.TOz).trans a2⟩,a3.at fun o q=>(b2.2 _ D.i1z).trans q,a4.at fun o q=>(b2.2 _ D.i2z).trans q⟩,fun d hd=>?_⟩
  have ltb:d<s.heap.objs.size:=by
   have it:∀ {b:Bool} {j l:Addr} {n:Nat},SIt b s.heap j l n->j<s.heap.objs.size:=fun {b j l n} q=>by
    cases b
    ·obtain ⟨o,e,_,q⟩:=q;exact B3 e
    ·obtain ⟨o,e,_,q⟩:=q;exact B3 e
   have e':d=z\/d=TI\/d=TO\/d=i1\/d=i2:=by simpa using hd
   rcases e' with rfl | rfl | rfl | rfl | rfl
   ·exact ltz
   ·exact B3 h2
   ·exact B3 h3
   ·exact it h4
   ·exact it h5
  rw [qAC (C2 ltb)];exact (hf d hd).1
 done:=by
  intro X hP hw hK hc i Ab s σ H E I hf st hg;subst hP hw hK;obtain ⟨xs,hq,hx⟩:=hg;obtain ⟨its,rv,p⟩:=I.seqB hq;have hl:=rv.length;obtain ⟨h1,h2,⟨a,c,h3⟩,h4,h5⟩:=st;rcases hx with hx | ⟨ys,x,hq2,hxx,hy⟩
  rotate_left
  ·obtain ⟨jts,rw',p2⟩:=I.seqB hq2;have hl2:=rw'.length;obtain ⟨u,hu,ru⟩:=rv.get hxx;exact qH7 (I.ok.hd hc) D h1 h2 h3 h4 h5 p p2 (x:=u) (by simpa using hu) (by simp;lia) fun h' eb=>⟨rfl,I.turnedL (t':=s.toks) (ch:=[z,TI,TO,i1,i2]) (fun d o hd q=>eb d o (fun z=>hd (by simp [z])) (fun z=>hd (by simp [z])) (fun z=>hd (by simp [z])) (fun z=>hd (by simp [z])) q) hf⟩
  exact qHW (I.ok.hd hc) D h1 h2 h4 p (by simp;lia) fun h' eb=>⟨rfl,I.turnedL (t':=s.toks) (ch:=[z,TI,TO,i1,i2]) (fun d o hd q=>eb d o (fun z=>hd (by simp [z])) (fun z=>hd (by simp [z])) q) hf⟩
 self:=fun _ _ _ _ _ ⟨h1,_⟩ h=>wpAny_pyIter_zip h1 h
theorem qY8 {elts:List Expr} {k:Nat} {tpos:Pos} {Ab:List (Addr × Obj)} {σ:St} {R:It->Hp->Prop} {s1:Shared} {H1:Hp} {b b':Bool} {l m:Addr} {xs ys:List V} (I1:Inv X Ab σ H1 s1) (hq:SqB b X.K H1 l xs) (hq2:SqB b' X.K H1 m ys) (q:R (Itz2 X.K b b' l m) H1) :
  wpAny (model X.prog X.w) X.A (call (.type "zip") [.ref l,.ref m]) (fun v s=>wpAny (model X.prog X.w) X.A (pyIter v) (PIE X Ab σ (.Tuple elts k tpos) R) X.xe s) X.xe s1:=by
 obtain ⟨its,rv,pl⟩:=I1.seqB hq;obtain ⟨jts,rw',pm⟩:=I1.seqB hq2;refine qTB pl pm fun h' z TI TO i1 i2 D hz hTI hTO hi1 hi2 hfr hk=>?_;refine wpAny_pyIter_zip hz ?_;have I2:Inv X Ab σ H1 { s1 with heap:=h' }:=I1.kept (t':=s1.toks) hk;exact ⟨z,[z,TI,TO,i1,i2],_,_,H1,rfl,I2,qU3 D,⟨hz,hTI,⟨_,_,hTO⟩,hi1,hi2⟩,fun c hc=>I1.fpOk (hfr c hc) (I1.hok.fresh (hfr c hc)),q⟩
def iZip (K:PySem.W.Frag) (ta:TA):TI:=fun σ H R=>ta σ H fun vs H1=>∃ b l m,vs=[.ref l,.ref m]/\(∃ xs,SqB b K H1 l xs)/\(∃ xs,SqB b K H1 m xs)/\R (Itz K b l m) H1
theorem qYZ {elts:List Expr} {k:Nat} {tpos:Pos} {a b:Expr} {ta:TA} {p pos:Pos} (hg:Gl X "zip") (hm:X.mg "zip" = none) (hv:bootBuiltins "zip" = some (.type "zip")) (ha:PA X [a,b] ta) (hs:starEach [a,b] X.env=[(false,eval a X.env),(false,eval b X.env)]:=by rfl) (hs2:starEach [b] X.env=[(false,eval b X.env)]:=by rfl) :
  PI X (.Tuple elts k tpos) (.Call (.Name "zip" p) [a,b] [] pos) (iZip X.K ta):=by
 intro Ab s σ H R I h;refine Call_ (qG4 I hg hm hv (L4 (thn (ha pos Ab s σ H _ I h) fun us s1 ⟨vs,H1,I1,r1,q1⟩=>?_) (by rw [hs,hs2]) (by rw [hs2];rfl)))
 obtain ⟨bb,l,m,e,⟨xs,hq⟩,⟨ys,hq2⟩,q⟩:=q1;subst e;obtain ⟨u,v,rfl,rx,ry⟩:=qJW r1;cases rx;cases ry;exact qY8 I1 hq hq2 q
end
theorem qXG {K:PySem.W.Frag} {b:Bool} {l m:Addr} {xs ys:List V} {g:TG} {tc:TT} {te:TE} {Kf:Hp->Prop} {σ0:St} {H0:Hp} {p:Addr} (hlen:ys.length<=xs.length) (Pv:Nat->St->Hp->Prop) (h0:Pv 0 σ0 H0) (hl:∀ i σ H,i<=ys.length->Pv i σ H->SqB b K H l xs/\SqB b K H m ys)
  (hs:∀ i x y σ H T,xs[i]?=some x->ys[i]?=some y->Pv i σ H->H T=none->g (.ref T) σ (Ag H T (.tup [x,y])) fun σ2 H2=>tc σ2 H2 fun b H3=>if b=true then te σ2 H3 fun y H4=>∃ ys,H4 p=some (.lst ys)/\ys.length<sizeLine/\Pv (i+1) σ2 (Ag H4 p (.lst (ys++[y]))) else Pv (i+1) σ2 H3)
  (hd:∀ σ H,Pv ys.length σ H->Kf H) :
  LcG (Itz K b l m) g tc te Kf σ0 H0 p:=by
 refine ⟨fun i n σ H=>n=ys.length - i/\i<=ys.length/\Pv i σ H,⟨ys.length,by simp,D8 _,h0⟩,?_⟩
 rintro i n σ H ⟨rfl,hi,q⟩;have hq:=hl i σ H hi q;by_cases hlt:i<ys.length
 ·refine .inr ⟨⟨xs,ys,xs[i]'(by lia),ys[i],hq.1,hq.2,A3 _,by simp [hlt]⟩,Pv (i+1),fun σ' H' p'=>⟨ys.length - (i+1),by lia,rfl,hlt,p'⟩,fun v H' y=>?_⟩
  obtain ⟨T,x,y,hT,e1,e2,yy⟩:=y;subst e1 e2;exact hs i x y σ H T (yy xs ys hq.1 hq.2).1 (yy xs ys hq.1 hq.2).2 q hT
 ·have e:i=ys.length:=by lia
  subst e;by_cases c:ys.length<xs.length
  ·exact .inl ⟨⟨xs,hq.1,.inr ⟨ys,xs[ys.length],hq.2,A3 _,A6 _⟩⟩,hd σ H q⟩
  ·exact .inl ⟨⟨xs,hq.1,.inl (by lia)⟩,hd σ H q⟩
end L2
namespace L2
open PySem PySem.Spec PyProof.Rows
theorem qQH {M:Model} {A:Around} {E:Value->Shared->Prop} {s:Shared} {c:Value} {Q:Bool->Shared->Prop} (h:∀ b,Q b s):wpAny M A (c8 c) Q E s:=by
 unfold c8;exact wpAny_bind (wpAny_stack_any fun st=>wpAny_pure (h _))
theorem qSU (l:Addr) (items:Array Value):Meets (Builtin.«enumerate.__new__» { pos:=[.type "enumerate",.ref l] }) fun _ R s=>
  s.heap.IsTuple l items/\R (.ok (.ret (.ref (s.heap.push (itObj true l)).objs.size))) { s with heap:=(s.heap.push (itObj true l)).push { cls:=.type "enumerate",data:=.fields #[.none,.bool false,.ref s.heap.objs.size,rawInt 0,.none,.none] } }:=by
 refine Meets.of_wp fun prog w A R s h=>?_;obtain ⟨hl,h⟩:=h;refine wpAny_bind ?_;refine wpAny_bind (wpAny_pure ?_);refine wpAny_ite_false rfl ?_;refine wpAny_bind (wpAny_of_eq sub_enumerate ?_);refine wpAny_ite_false rfl ?_;refine wpAny_pure ?_;refine wpAny_ite_true rfl ?_;refine wpAny_bind (qQH fun sh=>?_);have go:wpAny (model prog w) A.in1 (pyIter (.ref l) >>= fun it=>Z5 (.type "enumerate") (A61++[it,rawInt 0,.none,.none]) >>= fun v=>ret v) (fun fin s'=>∃ v,fin=.done (.ret v)/\R (.ok (.ret v)) s') (fun e s'=>R (.error e) s') s:=by
  refine wpAny_bind (qGH (b:=true) hl ?_);refine wpAny_bind ?_;unfold Z5;dsimp only;refine wpAny_newObj_type ?_ (by first | rfl | (show (6:Nat)<=sizeLine+2;rw [sizeLine_eq];decide))
  exact wpAny_pure ⟨_,rfl,h⟩
 cases sh
 ·exact go
 ·exact go
theorem qJM {prog:Program} {w:World} {A:Around} {E:Value->Shared->Prop} {s:Shared} {l:Addr} {items:Array Value} {Q:Value->Shared->Prop} (hl:s.heap.IsTuple l items)
  (h:∀ h':Heap,IsEnum h' (s.heap.objs.size+1) s.heap.objs.size 0 .none->h'.IsTupleIter s.heap.objs.size l 0->h'.objs.size=s.heap.objs.size+2->(∀ (b:Addr) (o:Obj),s.heap.get? b=some o->h'.get? b=some o)->Q (.ref (s.heap.objs.size+1)) { s with heap:=h' }) :
  wpAny (model prog w) A (call (.type "enumerate") [.ref l]) Q E s:=by
 refine callType_new F.called_enumerate (by decide) (F.typeCall_enumerate_1 _) (F.newCall_enumerate_1 _) (fun obj=>A48 obj _) F.entry_enumerate_new (qSU l items) ⟨hl,?_⟩
 have z1:(s.heap.push (itObj true l)).objs.size=s.heap.objs.size+1:=M6 ..;rw [z1];have g:((s.heap.push (itObj true l)).push { cls:=.type "enumerate",data:=.fields #[.none,.bool false,.ref s.heap.objs.size,rawInt 0,.none,.none] }).get? (s.heap.objs.size+1)=some { cls:=.type "enumerate",data:=.fields #[.none,.bool false,.ref s.heap.objs.size,rawInt 0,.none,.none] }:=by
  rw [<- z1];exact A9 _ rfl
 exact ⟨⟨_,g,rfl⟩,h _ g ⟨_,A4 _ (A9 _ rfl),rfl,rfl⟩ ((M6 ..).trans (by rw [z1])) fun b o e=>A4 _ (A4 _ e)⟩
theorem qWC {prog:Program} {w:World} {A:Around} (hh:A.handled=none) (it l:Addr) (hne:l ≠ it) (items:Array Value):Draws prog w A it [it,l] items.size (fun i v=>items[i]?=some v) fun i h=>h.IsTupleIter it l i/\h.IsTuple l items where
 live:=fun i h ⟨⟨o,e,_⟩,_⟩=>⟨o,e⟩
 frame:=fun i h h' ⟨⟨o,e,r⟩,⟨o2,e2,r2⟩⟩ k=>⟨⟨o,k it (by simp) _ e,r⟩,⟨o2,k l (by simp) _ e2,r2⟩⟩
 item:=fun i s Q E hi ⟨h1,h2⟩ hQ=>qDU h1 h2 (B7 hi) fun h' a b=>hQ _ h' s.toks (B7 hi) ⟨a,by obtain ⟨o,e,r⟩:=h2;exact ⟨o,(b.2 l hne).trans e,r⟩⟩ b
 done:=fun s Q E ⟨h1,h2⟩ hE=>qEJ hh h1 h2 (by simp) hE
def IteT (K:PySem.W.Frag) (l:Addr):It:=
 ⟨fun i H=>∃ xs x,SqT K H l xs/\xs[i]?=some x,fun i H v H'=>∃ T x,H T=none/\v=.ref T/\H'=Ag H T (.tup [.int (i:Int),x])/\∀ xs,SqT K H l xs->xs[i]?=some x,fun i H=>∃ xs,SqT K H l xs/\xs.length=i⟩
section
variable {X:Cx}
theorem qJ3 {P:Program} {w:World} {K:PySem.W.Frag} {elts:List Expr} {k:Nat} {pos:Pos} (l it e:Addr) (hne:e ≠ it) (hl:l ≠ it) (hle:l ≠ e):Turn P w K (.Tuple elts k pos) (IteT K l) [e,it] e (fun i h=>(∃ old,IsEnum h e it i old)/\h.IsTupleIter it l i) where
 mem:=by simp
 obj:=fun i h st b hb=>by
  obtain ⟨⟨old,h1⟩,o,h2,_,h4⟩:=st;have e':b=e\/b=it:=by simpa using hb
  rcases e' with rfl | rfl
  ·exact ⟨_,h1,fun v z=>by
    have z':A11 _=y8 v:=z;cases z'⟩
  ·exact ⟨o,h2,fun v z=>by rw [h4] at z;cases z⟩
 keep:=fun i h h' st kk=>by
  obtain ⟨⟨old,h1⟩,h2⟩:=st;exact ⟨⟨old,kk e (by simp) _ h1⟩,h2.at fun o q=>kk it (by simp) o q⟩
 item:=by
  intro X hP hw hK hc i Ab s σ H E I hf st hg;subst hP hw hK;obtain ⟨xs,x,hq,hx⟩:=hg;obtain ⟨its,rv,p,hz⟩:=I.tuple hq;obtain ⟨u,hu,ru⟩:=rv.get hx;obtain ⟨⟨old,h1⟩,h2⟩:=st;have hsz:i<its.toArray.size:=by have:=(A5.mp hu).1;simpa using this
  refine wpAny_pyNext_enum_itemD (qWC (A:=X.A.in1) (I.ok.hd hc) it l hl its.toArray) h1 ⟨h2,p⟩ hsz hne (by simp [hne,J4 hle]) fun u' h' tk a0 a1 a2 a3 a4 a5=>?_
  have eu:u'=u:=by
   have:its[i]?=some u':=by simpa using a0
   rw [hu] at this;exact (I0 this).symm
  subst eu;refine ⟨_,rfl,wpAny_letOwnedTupleGo_enum a1 fun h2' b1 b2=>?_⟩;have ltE:e<s.heap.objs.size:=B3 h1;have I1:Inv X Ab σ H { s with heap:=h2',toks:=tk+1 }:=I.turnedL (ch:=[e,it]) (fun b o hb q=>by
   have hb1:b ≠ e:=fun z=>hb (by simp [z])
   have hb2:b ≠ it:=fun z=>hb (by simp [z])
   exact (b2.2 b hb1).trans (a5 b o hb1 hb2 q)) hf
  have hT:H s.heap.objs.size=none:=I.hok.fresh (A6 _);have fT:=I.fpOk (H':=H) (b:=s.heap.objs.size) (A6 _) hT;have gT:h2'.get? s.heap.objs.size=some { cls:=.type "tuple",data:=.seq #[.int i tk,u'] }:=(b2.2 _ (X3 ltE)).trans a3;refine ⟨.ref s.heap.objs.size,Ag H s.heap.objs.size (.tup [.int (i:Int),x]),I1.track hT I.sz fT.2.1 fT.2.2.2.2.1 fT.2.2.2.2.2 ⟨by simp only [D5,Z6];rw [sizeLine_eq];decide,[.int (i:Int) tk,u'],.cons ⟨_,rfl⟩ (.cons ru .nil),⟨_,gT,rfl,_,rfl,rfl⟩⟩,rfl,
   ⟨_,x,hT,rfl,rfl,fun ys hy=>by rw [I.tuple_inj hy hq];exact hx⟩,⟨⟨_,b1⟩,a2.1.at fun o q=>(b2.2 it (J4 hne)).trans q⟩,fun b hb=>?_⟩
  have ltb:b<s.heap.objs.size:=by
   have e':b=e\/b=it:=by simpa using hb
   rcases e' with rfl | rfl
   ·exact ltE
   ·obtain ⟨o,q,_⟩:=h2;exact B3 q
  rw [qAC (C2 ltb)];exact (hf b hb).1
 done:=by
  intro X hP hw hK hc i Ab s σ H E I hf st hg;subst hP hw hK;obtain ⟨xs,hq,hx⟩:=hg;obtain ⟨its,rv,p,hz⟩:=I.tuple hq;have hl':=rv.length;obtain ⟨⟨old,h1⟩,h2⟩:=st;have hsz:i=its.toArray.size:=by simp;lia
  subst hsz;exact wpAny_pyNext_enum_endD (qWC (A:=X.A.in1) (I.ok.hd hc) it l hl its.toArray) h1 ⟨h2,p⟩ fun h' eb=>⟨rfl,I.turnedL (t':=s.toks) (ch:=[e,it]) (fun b o hb q=>eb b o (fun z=>hb (by simp [z])) q) hf⟩
 self:=fun _ _ _ _ _ st h=>by
  obtain ⟨⟨old,h1⟩,h2⟩:=st;exact wpAny_pyIter_enum h1 h
def qZE (K:PySem.W.Frag) (ta:TA):TI:=fun σ H R=>ta σ H fun vs H1=>∃ l,vs=[.ref l]/\(∃ xs,SqT K H1 l xs)/\R (IteT K l) H1
theorem qOH {elts:List Expr} {k:Nat} {tpos:Pos} {a:Expr} {ta:TA} {p pos:Pos} (hg:Gl X "enumerate") (hm:X.mg "enumerate" = none) (hv:bootBuiltins "enumerate" = some (.type "enumerate")) (ha:PA X [a] ta) (hs:starEach [a] X.env=[(false,eval a X.env)]:=by rfl) :
  PI X (.Tuple elts k tpos) (.Call (.Name "enumerate" p) [a] [] pos) (qZE X.K ta):=by
 intro Ab s σ H R I h;refine Call_ (qG4 I hg hm hv (L4 (thn (ha pos Ab s σ H _ I h) fun us s1 ⟨vs,H1,I1,r1,q1⟩=>?_) hs rfl));obtain ⟨l,e,⟨xs,hq⟩,q⟩:=q1;subst e;obtain ⟨u,rfl,rx⟩:=qDO r1;cases rx;obtain ⟨its,rv,pl,hz⟩:=I1.tuple hq;have ltl:l<s1.heap.objs.size:=by obtain ⟨o,e,_⟩:=pl;exact B3 e
 refine qJM pl fun h' he hi hsz hk=>?_;refine wpAny_pyIter_enum he ?_;have I2:Inv X Ab σ H1 { s1 with heap:=h' }:=I1.kept (t':=s1.toks) hk;refine ⟨s1.heap.objs.size+1,[s1.heap.objs.size+1,s1.heap.objs.size],_,_,H1,rfl,I2,qJ3 l s1.heap.objs.size (s1.heap.objs.size+1) (m9 _) (C2 ltl) (C2 (P8 ltl)),⟨⟨_,he⟩,hi⟩,fun b hb=>?_,q⟩;have e':b=s1.heap.objs.size+1\/b=s1.heap.objs.size:=by simpa using hb
 rcases e' with rfl | rfl
 ·exact I1.fpOk (R8 _) (I1.hok.fresh (R8 _))
 ·exact I1.fpOk (A6 _) (I1.hok.fresh (A6 _))
end
theorem qOV {K:PySem.W.Frag} {a:Addr} {xs:List V} {g:TG} {tc:TT} {te:TE} {Kf:Hp->Prop} {σ0:St} {H0:Hp} {p:Addr} (Pv:Nat->St->Hp->Prop) (h0:Pv 0 σ0 H0) (hl:∀ i σ H,i<=xs.length->Pv i σ H->SqT K H a xs)
  (hs:∀ i x σ H T,xs[i]?=some x->Pv i σ H->H T=none->g (.ref T) σ (Ag H T (.tup [.int (i:Int),x])) fun σ2 H2=>tc σ2 H2 fun b H3=>if b=true then te σ2 H3 fun y H4=>∃ ys,H4 p=some (.lst ys)/\ys.length<sizeLine/\Pv (i+1) σ2 (Ag H4 p (.lst (ys++[y]))) else Pv (i+1) σ2 H3)
  (hd:∀ σ H,Pv xs.length σ H->Kf H) :
  LcG (IteT K a) g tc te Kf σ0 H0 p:=by
 refine ⟨fun i m σ H=>m=xs.length - i/\i<=xs.length/\Pv i σ H,⟨xs.length,by simp,D8 _,h0⟩,?_⟩
 rintro i m σ H ⟨rfl,hi,q⟩;have hq:=hl i σ H hi q;by_cases hlt:i<xs.length
 ·refine .inr ⟨⟨xs,xs[i],hq,by simp [hlt]⟩,Pv (i+1),fun σ' H' p'=>⟨xs.length - (i+1),by lia,rfl,hlt,p'⟩,fun v H' y=>?_⟩
  obtain ⟨T,x,hT,e1,e2,y⟩:=y;subst e1 e2;exact hs i x σ H T (y xs hq) q hT
 ·have e:i=xs.length:=by lia
  subst e;exact .inl ⟨⟨xs,hq,rfl⟩,hd σ H q⟩
theorem qSN {K:PySem.W.Frag} {a:Addr} {xs:List V} {g:TG} {tb:TS} {D:Ends} {σ0:St} {H0:Hp} (Pv:Nat->St->Hp->Prop) (h0:Pv 0 σ0 H0) (hl:∀ i σ H,i<=xs.length->Pv i σ H->SqT K H a xs)
  (hs:∀ i x σ H T,xs[i]?=some x->Pv i σ H->H T=none->g (.ref T) σ (Ag H T (.tup [.int (i:Int),x])) fun σ2 H2=>tb { D with nx:=Pv (i+1),ct:=Pv (i+1),bk:=D.nx } σ2 H2)
  (hd:∀ σ H,Pv xs.length σ H->D.nx σ H) :
  ∃ W:Nat->Nat->St->Hp->Prop,(∃ m,W 0 m σ0 H0)/\∀ i m σ H,W i m σ H->
   ((IteT K a).stop i H/\D.nx σ H)\/((IteT K a).go i H/\∃ N:St->Hp->Prop,(∀ σ' H',N σ' H'->∃ m',m'<m/\W (i+1) m' σ' H')/\∀ x H',(IteT K a).yld i H x H'->g x σ H' fun σ2 H2=>tb { D with nx:=N,ct:=N,bk:=D.nx } σ2 H2):=by
 refine ⟨fun i m σ H=>m=xs.length - i/\i<=xs.length/\Pv i σ H,⟨xs.length,by simp,D8 _,h0⟩,?_⟩
 rintro i m σ H ⟨rfl,hi,q⟩;have hq:=hl i σ H hi q;by_cases hlt:i<xs.length
 ·refine .inr ⟨⟨xs,xs[i],hq,by simp [hlt]⟩,Pv (i+1),fun σ' H' p'=>⟨xs.length - (i+1),by lia,rfl,hlt,p'⟩,fun v H' y=>?_⟩
  obtain ⟨T,x,hT,e1,e2,y⟩:=y;subst e1 e2;exact hs i x σ H T (y xs hq) q hT
 ·have e:i=xs.length:=by lia
  subst e;exact .inl ⟨⟨xs,hq,rfl⟩,hd σ H q⟩
end L2
namespace L2
open PySem
section
variable {es:List Expr} {env:Env} {p:Pos}
end
end L2
namespace L2
open PySem
@[irreducible] def cst (i:Int) (p:Pos):Expr:=.Constant (.int i) 0 p
end L2
namespace L2
open PySem
theorem qZ6 {P:(St->Hp->Prop)->Prop} {B:St->Hp->Prop} (h:∀ N:St->Hp->Prop,(∀ σ H,B σ H->N σ H)->P N):∃ N:St->Hp->Prop,(∀ σ' H',N σ' H'->B σ' H')/\P N:=⟨B,fun _ _ z=>z,h B fun _ _ z=>z⟩
theorem qSM {K:PySem.W.Frag} {a:Addr} {xs:List V} {g:TG} {tb:TS} {D:Ends} {σ:St} {H:Hp} (Pv:Nat->St->Hp->Prop) (h0:Pv 0 σ H) (hl:∀ i σ H,i<=xs.length->Pv i σ H->SqL K H a xs)
  (hs:∀ i x σ H,xs[i]?=some x->Pv i σ H->∀ N:St->Hp->Prop,(∀ σ H,Pv (i+1) σ H->N σ H)->g x σ H fun σ2 H2=>tb { D with nx:=N,ct:=N,bk:=D.nx } σ2 H2) (hd:∀ σ H,Pv xs.length σ H->D.nx σ H) :
  ForG (Itl K a) g tb D σ H:=
 qHJ Pv h0 hl (fun i x σ H hx hp=>hs i x σ H hx hp _ fun _ _ z=>z) hd
theorem qJH {lo:Int} {n:Nat} {g:TG} {tb:TS} {D:Ends} {σ:St} {H:Hp} (Pv:Nat->St->Hp->Prop) (h0:Pv 0 σ H)
  (hs:∀ i σ H,i<n->Pv i σ H->∀ N:St->Hp->Prop,(∀ σ H,Pv (i+1) σ H->N σ H)->g (.int (lo+i)) σ H fun σ2 H2=>tb { D with nx:=N,ct:=N,bk:=D.nx } σ2 H2) (hd:∀ σ H,Pv n σ H->D.nx σ H) :
  ForG (Itr lo n) g tb D σ H:=
 qDX Pv h0 (fun i σ H hi hp=>hs i σ H hi hp _ fun _ _ z=>z) hd
end L2
namespace L2
open PySem
@[elab_as_elim] theorem us0 {α:Type} {P:List α->Prop} (us:List α) (hl:us.length=0) (h:P []):P us:=by
 match us,hl with
 | [],_=>exact h
@[elab_as_elim] theorem us1 {α:Type} {P:List α->Prop} (us:List α) (hl:us.length=1) (h:∀ a,P [a]):P us:=by
 match us,hl with
 | [a],_=>exact h a
@[elab_as_elim] theorem us2 {α:Type} {P:List α->Prop} (us:List α) (hl:us.length=2) (h:∀ a b,P [a,b]):P us:=by
 match us,hl with
 | [a,b],_=>exact h a b
@[elab_as_elim] theorem us3 {α:Type} {P:List α->Prop} (us:List α) (hl:us.length=3) (h:∀ a b c,P [a,b,c]):P us:=by
 match us,hl with
 | [a,b,c],_=>exact h a b c
@[elab_as_elim] theorem us4 {α:Type} {P:List α->Prop} (us:List α) (hl:us.length=4) (h:∀ a b c d,P [a,b,c,d]):P us:=by
 match us,hl with
 | [a,b,c,d],_=>exact h a b c d
end L2
namespace L2
open PySem PySem.Spec PyProof.Rows
section
variable {prog:Program} {w:World} {A:Around} {E:Value->Shared->Prop} {s:Shared}
end
section
variable {X:Cx}
noncomputable def Itd (lo:Int) (n:Nat):It:=⟨fun i _=>i<n,fun i H x H'=>H'=H/\x=.int (lo - i),fun i _=>n<=i⟩
theorem qQU {P:Program} {w:World} {K:PySem.W.Frag} {tg:Expr} (it:Addr) (lo:Int) (n:Nat):Turn P w K tg (Itd lo n) [it] it (fun i h=>IsRangeIter h it (lo+(i:Nat) * (-1)) ((n:Int) - (i:Nat)) (-1)) where
 mem:=A8.mpr rfl
 obj:=fun i h st b hb=>by
  cases A8.mp hb;exact ⟨_,st,fun v z=>nomatch (show A11 _=y8 v from z)⟩
 keep:=fun i h h' st k=>k it (A8.mpr rfl) _ st
 item:=by
  intro X hP hw hK hc i Ab s σ H E I hf st hg;subst hP hw hK;obtain ⟨f0,f1,f2,f3,f4,f5⟩:=hf it (A8.mpr rfl);refine (Walks.range (prog:=X.prog) (w:=X.w) (I.ok.hd hc) it lo (-1) n).item i s _ _ hg st fun v h' tk hv st' kk=>?_;obtain ⟨t,rfl⟩:=hv;have I1:Inv X Ab σ H { s with heap:=h',toks:=tk }:=I.turned (fun b o hb e=>kk b o (by simpa using hb) e) f0 f1 f3 f4 f5
  refine ⟨_,rfl,qQ7 (s:={ s with heap:=h',toks:=tk }) (n:="range_iterator") st' rfl rfl (by decide) ⟨.int (lo - i),H,I1,⟨t,?_⟩,⟨rfl,rfl⟩,st',fun b hb=>(hf b hb).1⟩⟩
  rw [show lo+(i:Int) * (-1)=lo - i by lia]
 done:=by
  intro X hP hw hK hc i Ab s σ H E I hf st hg;subst hP hw hK;obtain ⟨f0,f1,f2,f3,f4,f5⟩:=hf it (A8.mpr rfl);have hle:n<=i:=hg;exact wpAny_pyNext_range_end (I.ok.hd hc) st (by lia) fun h' eb=>⟨rfl,I.turned (t':=s.toks) (fun b o hb e=>eb b o hb e) f0 f1 f3 f4 f5⟩
 self:=fun _ _ _ _ _ st h=>wpAny_pyIter_rangeiter st h
def qaX (ta:TA):TI:=fun σ H R=>ta σ H fun vs H1=>∃ i j:Int,vs=[.int i,.int j,.int (-1)]/\(-(2 ^ 62)<=i/\i<2 ^ 62/\-(2 ^ 62)<=j/\j<2 ^ 62)/\R (Itd i (i - j).toNat) H1
theorem qX5 {tg a b c:Expr} {ta:TA} {p pos:Pos} (hg:Gl X "range") (hm:X.mg "range" = none) (ha:PA X [a,b,c] ta) (hs:starEach [a,b,c] X.env=[(false,eval a X.env),(false,eval b X.env),(false,eval c X.env)]:=by rfl)
  (hs2:starEach [b,c] X.env=[(false,eval b X.env),(false,eval c X.env)]:=by rfl):PI X tg (.Call (.Name "range" p) [a,b,c] [] pos) (qaX ta):=by
 intro Ab s σ H R I h;refine Call_ (qG4 I hg hm boot_range (L4 (thn (ha pos Ab s σ H _ I h) fun us s1 ⟨vs,H1,I1,r1,q1⟩=>?_) (by rw [hs,hs2]) (by rw [hs2];rfl)))
 obtain ⟨i,j,e,⟨q1,q2,q3,q4⟩,q⟩:=q1;subst e;obtain ⟨u1,rr,rfl,⟨t1,rfl⟩,r2⟩:∃ u rr,us=u::rr/\RelV (.int i) u/\Vals [.int j,.int (-1)] rr:=by cases r1 with | cons r rr=>exact ⟨_,_,rfl,r,rr⟩
 obtain ⟨u2,u3,rfl,⟨t2,rfl⟩,⟨t3,rfl⟩⟩:=qJW r2;refine call_range_3 (by decide) ?_ (E8 (j4 (by lia)))
 refine wpAny_pyIter_range (B56 ..) (PySem.W.small_down q1 q2 q3 q4) ?_;have I2:Inv X Ab σ H1 { s1 with heap:=s1.heap.push { cls:=.type "range",data:=.fields #[.int i t1,.int j t2,.int (-1) t3] },toks:=s1.toks }:=I1.kept fun b o e=>A4 _ e;refine ⟨(s1.heap.push { cls:=.type "range",data:=.fields #[.int i t1,.int j t2,.int (-1) t3] }).objs.size,[(s1.heap.push { cls:=.type "range",data:=.fields #[.int i t1,.int j t2,.int (-1) t3] }).objs.size],_,_,H1,rfl,
  I2.kept (t':=s1.toks) fun b o e=>A4 _ e,qQU _ i (i - j).toNat,?_,fun b hb=>?_,q⟩
 ·have e1:i+((0:Nat):Int) * (-1)=i:=by simp
  have e2:(((i - j).toNat:Nat):Int) - ((0:Nat):Int)=Q9 i j (-1):=by rw [PySem.W.rangeSize_downNat];simp
  show IsRangeIter _ _ (i+((0:Nat):Int) * (-1)) ((((i - j).toNat:Nat):Int) - ((0:Nat):Int)) (-1);rw [e1,e2];exact A9 _ rfl
 ·cases A8.mp hb;exact I2.fpOk (A6 _) (I2.hok.fresh (A6 _))
theorem qV8 {lo:Int} {n:Nat} {g:TG} {tb:TS} {D:Ends} {σ:St} {H:Hp} (Pv:Nat->St->Hp->Prop) (h0:Pv 0 σ H)
  (hs:∀ i σ H,i<n->Pv i σ H->g (.int (lo - i)) σ H fun σ2 H2=>tb { D with nx:=Pv (i+1),ct:=Pv (i+1),bk:=D.nx } σ2 H2) (hd:∀ σ H,Pv n σ H->D.nx σ H) :
  ForG (Itd lo n) g tb D σ H:=by
 refine ⟨fun i m σ H=>m=n - i/\i<=n/\Pv i σ H,⟨n,by simp,D8 _,h0⟩,fun i m σ H ⟨e,hi,p⟩=>?_⟩
 rcases B04 i n with hlt | hge
 ·refine .inr ⟨hlt,Pv (i+1),fun σ' H' p'=>⟨n - (i+1),by lia,rfl,hlt,p'⟩,fun x H' y=>?_⟩
  rw [y.1,y.2];exact hs i σ H hlt p
 ·have e2:i=n:=by lia
  rw [e2] at p;exact .inl ⟨hge,hd σ H p⟩
theorem qRP (hu:X.A.units<cLine):OpR X (compareOp .NotEq) (fun x y H Q=>∃ p l xs,x=.ref p/\y=.ref l/\SqL X.K H p xs/\SqL X.K H l []/\Q (.bl (!xs.isEmpty)) H):=by
 intro Ab s σ H x y v u Q I rx ry h;obtain ⟨p,l,xs,rfl,rfl,h1,h2,q⟩:=h;cases rx;cases ry;obtain ⟨its,r1,p1,z1⟩:=I.list h1;obtain ⟨its2,r2,p2,z2⟩:=I.list h2;cases r2;cases r1 with
 | nil=>exact B41 (e:=fun _=>true) p1.isList p2.isList rfl hu (fun j h _=>absurd h (by simp)) _ _ _ _ ⟨.bl false,H,I,rfl,q⟩
 | cons a r=>exact A84 p1.isList p2.isList (by simp) hu _ _ _ _ ⟨.bl true,H,I,rfl,q⟩
end
end L2
namespace L2.GS
open PySem PyProof.Rows
abbrev gSM:=StateT SortSt Sem
class NM where
 nm:Value->Int
 good:Value->Prop
variable [NM]
def gkv (p:Keyed):Int:=NM.nm p.1
def gIK (p:Keyed):Prop:=NM.good p.1
class LtOk (prog:Program) (w:World) (A:Around) (s:Shared) (κ0:SortKind):Prop where
 lt:∀ {x y:Value} {Q:Bool->Shared->Prop} {E:Value->Shared->Prop},NM.good x->NM.good y->Q (decide (NM.nm x<NM.nm y)) s->wpAny (model prog w) A (keyLt' κ0 x y) Q E s
noncomputable def gK (xs:Array Keyed) (i:Nat):Int:=match xs[i]? with
 | some p=>NM.nm p.1
 | none=>0
def gSortedTo (xs:Array Keyed) (k:Nat):Prop:=∀ i j,i<=j->j<k->gK xs i<=gK xs j
def qCT (xs:Array Keyed):Prop:=∀ p,p ∈ xs.toList->NM.good p.1
theorem qG7 {xs ys:Array Keyed} {i j:Nat} (h:xs[i]?=ys[j]?):gK xs i=gK ys j:=by unfold gK;rw [h]
theorem qI9 {xs:Array Keyed} {src d:Nat} (hs:src<xs.size) (hd:d<=src) (k:Nat) :
  gK (bubble xs src d) k=if k=src - d then gK xs src else if src - d<k/\k<=src then gK xs (k - 1) else gK xs k:=by
 have e:=getElem?_bubble hs d hd k;by_cases h1:k=src - d
 ·rw [if_pos h1] at e ⊢;exact qG7 e
 ·rw [if_neg h1] at e ⊢;by_cases h2:src - d<k/\k<=src
  ·rw [if_pos h2] at e ⊢;exact qG7 e
  ·rw [if_neg h2] at e ⊢;exact qG7 e
theorem qG6 {xs:Array Keyed} {i j:Nat} (hj:j<=xs.size) (k:Nat) :
  gK (mirror xs i j ((j - i) / 2)) k=if i<=k/\k<j then gK xs (i+j - 1 - k) else gK xs k:=by
 have e:=getElem?_mirror_all (i:=i) hj k;by_cases h1:i<=k/\k<j
 ·rw [if_pos h1] at e ⊢;exact qG7 e
 ·rw [if_neg h1] at e ⊢;exact qG7 e
theorem qB1 {xs:Array Keyed} {i j:Nat} (hj:j<=xs.size) (heq:∀ k,i<=k->k<j->gK xs k=gK xs (j - 1)) (k:Nat) :
  gK (mirror xs i j ((j - i) / 2)) k=gK xs k:=by
 rw [qG6 hj]
 split
 ·rw [heq _ (by omega) (by omega),heq k (by omega) (by omega)]
 ·rfl
section
variable {prog:Program} {w:World} {A:Around} {E:Value->Shared->Prop} {s:Shared} {κ0:SortKind} [LtOk prog w A s κ0]
theorem qV2 {st:SortSt} {x y:Keyed} {Q:Option Bool->SortSt->Prop} (hk:kindOf st=κ0) (hx:gIK x) (hy:gIK y) (h:Q (some (decide (gkv x<gkv y))) st):wpS (model prog w) A E s (lt' x y) Q st:=by
 rw [lt'_eq];refine wpS_bind (wpS_get ?_);rw [hk];refine wpS_bind (wpS_lift (wpAny_attempt (LtOk.lt hx hy ⟨rfl,?_⟩)));exact wpS_pure h
theorem qSE {st:SortSt} {arr:Array Keyed} {i:Nat} {x:Keyed} {Q:Keyed->SortSt->Prop} (h:arr[i]?=some x) (hQ:Q x st):wpS (model prog w) A E s (elem' arr i) Q st:=by
 rw [elem'_eq,h];exact wpS_pure hQ
end
end L2.GS
namespace L2.GS
open PySem PyProof.Rows
variable [NM]
structure gMR (R:Keyed->Keyed->Prop) (all out ra rb:List Keyed):Prop where
 perm:(out++(ra++rb)).Perm all
 up:out.Pairwise R
 ua:ra.Pairwise R
 ub:rb.Pairwise R
 la:∀ x ∈ out,∀ y ∈ ra,R x y
 lb:∀ x ∈ out,∀ y ∈ rb,R x y
section
variable {R:Keyed->Keyed->Prop} {all out ra rb xs:List Keyed}
end
theorem qSH {a:Array Keyed} {i:Nat} (h:i<a.size):∃ x,a[i]?=some x/\a.toList[i]?=some x/\x ∈ a.toList:=⟨a[i],B7 h,by simp [h],by simp⟩
end L2.GS
namespace L2.GS
open PySem PyProof.Rows
variable [NM]
theorem gifT {prog:Program} {w:World} {A:Around} {E:Value->Shared->Prop} {s:Shared} {α:Type} {c:Prop} [Decidable c] {x y:gSM α} {Q:α->SortSt->Prop} {st:SortSt} (h:c) (k:wpS (model prog w) A E s x Q st):wpS (model prog w) A E s (if c then x else y) Q st:=by rw [if_pos h];exact k
theorem gifF {prog:Program} {w:World} {A:Around} {E:Value->Shared->Prop} {s:Shared} {α:Type} {c:Prop} [Decidable c] {x y:gSM α} {Q:α->SortSt->Prop} {st:SortSt} (h:¬ c) (k:wpS (model prog w) A E s y Q st):wpS (model prog w) A E s (if c then x else y) Q st:=by rw [if_neg h];exact k
section
variable {prog:Program} {w:World} {A:Around} {E:Value->Shared->Prop} {s:Shared} {κ0:SortKind} [LtOk prog w A s κ0]
end
end L2.GS
namespace L2.GS
open PySem PyProof.Rows
variable [NM]
section
variable {prog:Program} {w:World} {A:Around} {E:Value->Shared->Prop} {s:Shared} {κ0:SortKind} [LtOk prog w A s κ0]
end
end L2.GS
namespace L2.GS
open PySem PyProof.Rows
variable [NM]
def gSeg (xs:Array Keyed) (lo hi:Nat):Prop:=∀ i j,lo<=i->i<=j->j<hi->gK xs i<=gK xs j
theorem qSJ {xs:Array Keyed} {i:Nat} {x:Keyed} (h:xs[i]?=some x):gK xs i=gkv x:=by
 unfold gK;rw [h]
 rfl
section
variable {prog:Program} {w:World} {A:Around} {E:Value->Shared->Prop} {s:Shared} {κ0:SortKind} [LtOk prog w A s κ0]
structure gSG (κ0:SortKind) (a₀:Array Keyed) (st:SortSt):Prop where
 perm:(arrOf st).Perm a₀
 kind:kindOf st=κ0
 failed:failedOf st=none
theorem gSG.size {a₀:Array Keyed} {st:SortSt} (h:gSG κ0 a₀ st):(arrOf st).size=a₀.size:=h.perm.size_eq
theorem gSG.ik {a₀:Array Keyed} {st:SortSt} (h:gSG κ0 a₀ st) (h0:qCT a₀):∀ x ∈ (arrOf st).toList,gIK x:=fun x hx=>h0 x ((Array.perm_iff_toList_perm.mp h.perm).mem_iff.mp hx)
end
end L2.GS
namespace L2.GS
open PySem PyProof.Rows
variable [NM]
def gOut (xs ys:Array Keyed) (lo hi:Nat):Prop:=∀ k,k<lo\/hi<=k->gK ys k=gK xs k
theorem gOut.refl (xs:Array Keyed) (lo hi:Nat):gOut xs xs lo hi:=fun _ _=>rfl
theorem gOut.trans {xs ys zs:Array Keyed} {lo hi:Nat} (h1:gOut xs ys lo hi) (h2:gOut ys zs lo hi):gOut xs zs lo hi:=fun k hk=>(h2 k hk).trans (h1 k hk)
theorem gOut.wide {xs ys:Array Keyed} {lo hi lo' hi':Nat} (h:gOut xs ys lo hi) (a:lo'<=lo) (b:hi<=hi'):gOut xs ys lo' hi':=fun k hk=>h k (by lia)
theorem gSG.lay {κ0:SortKind} {a₀:Array Keyed} {st:SortSt} (g:gSG κ0 a₀ st) {ys:Array Keyed} (p:ys.Perm (arrOf st)):gSG κ0 a₀ (setArr st ys):=⟨p.trans g.perm,g.kind,g.failed⟩
theorem qNI {xs:Array Keyed} {i j:Nat} (hj:j<=xs.size):gOut xs (mirror xs i j ((j - i) / 2)) i j:=fun k hk=>by rw [qG6 hj,if_neg (by lia)]
section
variable {prog:Program} {w:World} {A:Around} {E:Value->Shared->Prop} {s:Shared} {κ0:SortKind} [LtOk prog w A s κ0] {a₀:Array Keyed}
theorem qG5 {st:SortSt} {i j:Nat} {Q:Option Bool->SortSt->Prop} (h0:qCT a₀) (g:gSG κ0 a₀ st) (hi:i<a₀.size) (hj:j<a₀.size) (h:Q (some (decide (gK (arrOf st) i<gK (arrOf st) j))) st):wpS (model prog w) A E s (ltAt' i j) Q st:=by
 have hi2:i<(arrOf st).size:=by rw [g.size];exact hi
 have hj2:j<(arrOf st).size:=by rw [g.size];exact hj
 obtain ⟨x,ex,_,mx⟩:=qSH hi2;obtain ⟨y,ey,_,my⟩:=qSH hj2;rw [qSJ ex,qSJ ey] at h;rw [ltAt'_eq];refine wpS_bind (wpS_get ?_);exact wpS_bind (qSE ex (wpS_bind (qSE ey (qV2 g.kind (g.ik h0 x mx) (g.ik h0 y my) h))))
theorem qV5 {st:SortSt} {lo n ok:Nat} {Q:Bool->SortSt->Prop} (h0:qCT a₀) (g:gSG κ0 a₀ st) (hn:lo+n<=a₀.size) (hok:ok<=n) (u:gSeg (arrOf st) lo (lo+ok))
  (h:∀ st2,gSG κ0 a₀ st2->pendingOf st2=pendingOf st->gSeg (arrOf st2) lo (lo+n)->gOut (arrOf st) (arrOf st2) lo (lo+n)->Q true st2):wpS (model prog w) A E s (binarySort' lo n ok) Q st:=by
 rw [binarySort'_eq];refine wpS_bind (wpS_mono (wpS_forRange (I:=fun k c st2=>c=(none,())/\gSG κ0 a₀ st2/\pendingOf st2=pendingOf st/\gSeg (arrOf st2) lo (lo+min k n)/\gOut (arrOf st) (arrOf st2) lo (lo+n))
  (Q:=fun c st2=>c=(none,())/\gSG κ0 a₀ st2/\pendingOf st2=pendingOf st/\gSeg (arrOf st2) lo (lo+n)/\gOut (arrOf st) (arrOf st2) lo (lo+n)) ?step ?fin ?init) ?post)
 case post=>
  rintro c st2 ⟨rfl,g2,pe,u2,o2⟩;exact wpS_pure (h st2 g2 pe u2 o2)
 case init=>
  refine ⟨rfl,g,rfl,fun i j hl hij hj=>?_,.refl _ _ _⟩;by_cases h1:ok=0
  ·rw [show i=j by lia]
   exact X9 _
  ·exact u i j hl hij (by lia)
 case fin=>
  rintro c st2 ⟨hc,g2,pe,u2,o2⟩;rw [show min (max (max ok 1) n) n=n by lia] at u2
  exact ⟨hc,g2,pe,u2,o2⟩
 case step=>
  rintro k c st2 hak hkn ⟨rfl,g2,pe,u2,o2⟩;rw [show min k n=k by lia] at u2
  have hk:lo+k<a₀.size:=by lia
  refine wpS_bind (wpS_mono (wpS_forRange (I:=fun x c st3=>st3=st2/\∃ l r,c=(none,l,r)/\l<=r/\r<=k/\r - l<=k - x/\
    (∀ i,lo<=i->i<lo+l->gK (arrOf st2) i<=gK (arrOf st2) (lo+k))/\(∀ i,lo+r<=i->i<lo+k->gK (arrOf st2) (lo+k)<gK (arrOf st2) i))
   (Q:=fun c st3=>st3=st2/\∃ l r,c=(none,l,r)/\l<=k/\
    (∀ i,lo<=i->i<lo+l->gK (arrOf st2) i<=gK (arrOf st2) (lo+k))/\(∀ i,lo+l<=i->i<lo+k->gK (arrOf st2) (lo+k)<gK (arrOf st2) i)) ?istep ?ifin ?iinit) ?ipost)
  case iinit=>exact ⟨rfl,0,k,rfl,by lia,by lia,by lia,fun i _ hi=>by lia,fun i h1 h2=>by lia⟩
  case ifin=>
   rintro c st3 ⟨rfl,l,r,rfl,hlr,hrk,hm,ha,hb⟩;have e:l=r:=by lia
   rw [<- e] at hb hrk;exact ⟨rfl,l,r,rfl,hrk,ha,hb⟩
  case istep=>
   rintro x c st3 _ hxk ⟨rfl,l,r,rfl,hlr,hrk,hm,ha,hb⟩;dsimp only;by_cases hge:l >= r
   ·refine gifT hge ?_;have e:l=r:=by lia
    rw [<- e] at hb hrk;exact wpS_pure ⟨rfl,l,r,rfl,hrk,ha,hb⟩
   ·refine gifF hge ?_;refine wpS_bind (qG5 h0 g2 hk (by lia) ?_)
    by_cases less:gK (arrOf st3) (lo+k)<gK (arrOf st3) (lo+(l+r) / 2)
    ·rw [decide_eq_true less];dsimp only;refine gifT rfl ?_;refine wpS_pure ⟨rfl,l,(l+r) / 2,rfl,by lia,by lia,by lia,ha,fun i h1 h2=>?_⟩
     have:=u2 (lo+(l+r) / 2) i (by lia) h1 h2
     lia
    ·rw [decide_eq_false less];dsimp only;rw [if_neg C1];refine wpS_pure ⟨rfl,(l+r) / 2+1,r,rfl,by lia,by lia,by lia,fun i h3 h1=>?_,hb⟩
     have:=u2 i (lo+(l+r) / 2) h3 (by lia) (by lia)
     lia
  case ipost=>
   rintro c st3 ⟨rfl,l,r,rfl,hlk,ha,hb⟩;have hks:lo+k<(arrOf st3).size:=by rw [g2.size];exact hk
   show wpS _ _ _ _ (moveDown' (lo+k) (lo+l) >>= fun _=>pure (P0 (none,()))) _ _;rw [moveDown'_eq];refine wpS_bind (wpS_modify (wpS_pure ⟨rfl,g2.lay (bubble_perm _ _ _),pe,?_,o2.trans ?_⟩))
   ·rw [show min (k+1) n=k+1 by lia]
    intro i j hl hij hj;show gK (bubble (arrOf st3) (lo+k) (lo+k - (lo+l))) i<=gK (bubble (arrOf st3) (lo+k) (lo+k - (lo+l))) j;rw [qI9 hks (by lia),qI9 hks (by lia),show lo+k - (lo+k - (lo+l))=lo+l by lia]
    repeat' split
    all_goals first
     | (exfalso;lia)
     | exact X9 _
     | exact ha _ (by lia) (by lia)
     | exact A35 (hb _ (by lia) (by lia))
     | exact u2 _ _ (by lia) (by lia) (by lia)
   ·intro i hi;show gK (bubble (arrOf st3) (lo+k) (lo+k - (lo+l))) i=gK (arrOf st3) i;rw [qI9 hks (by lia),if_neg (by lia),if_neg (by lia)]
abbrev gCUp:=Option (Option Nat) × Nat
abbrev gCDn:=Option (Option Nat) × Nat × Nat
noncomputable def gupL (lo a m:Nat):gSM gCUp:=
 forIn [a:m] ((none,a):gCUp) fun _ c=>do
  let t <- ltAt' (lo+c.snd) (lo+c.snd - 1)
  match t with
  | some less=>if less=true then pure (l8 (none,c.snd)) else pure (P0 (none,c.snd+1))
  | _=>pure (l8 (some none,c.snd))
noncomputable def qSF (lo n m:Nat):gSM (Option Nat):=do
 reverseSlice' lo (lo+n)
 let c <- gupL lo n m
 match c.fst with
 | some r=>pure r
 | none=>pure (some c.snd)
noncomputable def gdnL (lo n m:Nat):gSM gCDn:=
 forIn [n:m] ((none,n,0):gCDn) fun _ c=>do
  let t <- ltAt' (lo+c.snd.fst) (lo+c.snd.fst - 1)
  match t with
  | some less=>
   if less=true then
    if c.snd.snd > 0 then do
     reverseSlice' (lo+c.snd.fst - (c.snd.snd+1)) (lo+c.snd.fst)
     pure (P0 (none,c.snd.fst+1,0))
    else pure (P0 (none,c.snd.fst+1,0))
   else do
    let t <- ltAt' (lo+c.snd.fst - 1) (lo+c.snd.fst)
    match t with
    | some more=>
     if more=true then pure (l8 (none,c.snd.fst,c.snd.snd))
     else pure (P0 (none,c.snd.fst+1,c.snd.snd+1))
    | _=>pure (l8 (some none,c.snd.fst,c.snd.snd))
  | _=>pure (l8 (some none,c.snd.fst,c.snd.snd))
noncomputable def gdnP (lo n m:Nat):gSM (Option Nat):=do
 liftM (rule "list.sort.descending-run")
 let c <- gdnL lo (n+1) m
 match c.fst with
 | some r=>pure r
 | none=>
  if c.snd.snd > 0 then do
   reverseSlice' (lo+c.snd.fst - (c.snd.snd+1)) (lo+c.snd.fst)
   qSF lo c.snd.fst m
  else qSF lo c.snd.fst m
theorem qBC {α β:Type} {x y:gSM α} {f g:α->gSM β} (h:x=y) (k:∀ a,f a=g a):(x >>= f)=(y >>= g):=by rw [h,show f=g from funext k]
theorem qSG (lo m:Nat):countRun' lo m=(do
  let c <- gupL lo 1 m
  match c.fst with
  | some r=>pure r
  | none=>
   if (c.snd == m)=true then pure (some c.snd)
   else if c.snd > 1 then do
    let t <- ltAt' lo (lo+c.snd - 1)
    match t with
    | some rose=>if rose=true then pure (some c.snd) else do
      reverseSlice' lo (lo+c.snd)
      gdnP lo c.snd m
    | _=>pure none
   else gdnP lo c.snd m):=by
 rw [countRun'_eq];unfold gdnP qSF gdnL gupL;refine qBC rfl fun c=>?_;obtain ⟨r,n⟩:=c;cases r with
 | some r=>rfl
 | none=>
  have last:∀ c3:gCUp,(match c3.fst with | some r=>pure r | none=>pure (some c3.snd):gSM (Option Nat))=(match c3.fst with | some r=>pure r | none=>pure (some c3.snd)):=fun _=>rfl
  dsimp only
  split
  ·rfl
  ·split
   ·refine qBC rfl fun x=>?_;cases x with
    | none=>rfl
    | some rose=>
     dsimp only
     split
     ·rfl
     ·refine qBC rfl fun _=>qBC rfl fun _=>qBC rfl fun c2=>?_;obtain ⟨r2,n2,q2⟩:=c2;cases r2 with
      | some r2=>rfl
      | none=>
       dsimp only
       split
       ·refine qBC rfl fun _=>qBC rfl fun _=>qBC rfl fun c3=>?_;obtain ⟨r3,n3⟩:=c3;cases r3 <;> rfl
       ·refine qBC rfl fun _=>qBC rfl fun c3=>?_;obtain ⟨r3,n3⟩:=c3;cases r3 <;> rfl
   ·refine qBC rfl fun _=>qBC rfl fun c2=>?_;obtain ⟨r2,n2,q2⟩:=c2;cases r2 with
    | some r2=>rfl
    | none=>
     dsimp only
     split
     ·refine qBC rfl fun _=>qBC rfl fun _=>qBC rfl fun c3=>?_;obtain ⟨r3,n3⟩:=c3;cases r3 <;> rfl
     ·refine qBC rfl fun _=>qBC rfl fun c3=>?_;obtain ⟨r3,n3⟩:=c3;cases r3 <;> rfl
def gFal (xs:Array Keyed) (lo hi:Nat):Prop:=∀ i j,lo<=i->i<=j->j<hi->gK xs j<=gK xs i
theorem qP0 {st:SortSt} {lo a m:Nat} {Q:gCUp->SortSt->Prop} (h0:qCT a₀) (g:gSG κ0 a₀ st) (hm:lo+m<=a₀.size) (ha:1<=a) (han:a<=m) (u:gSeg (arrOf st) lo (lo+a))
  (h:∀ n,a<=n->n<=m->gSeg (arrOf st) lo (lo+n)->(n=m\/gK (arrOf st) (lo+n)<gK (arrOf st) (lo+n - 1))->Q (none,n) st):wpS (model prog w) A E s (gupL lo a m) Q st:=by
 unfold gupL;refine wpS_forRange (I:=fun x c st2=>st2=st/\c=(none,x)/\gSeg (arrOf st) lo (lo+x)) ?step ?fin ⟨rfl,rfl,u⟩
 case fin=>
  rintro c st2 ⟨rfl,rfl,u2⟩;rw [show max a m=m by lia] at u2 ⊢
  exact h m han (A6 _) u2 (.inl rfl)
 case step=>
  rintro x c st2 hax hxn ⟨rfl,rfl,u2⟩;dsimp only;refine wpS_bind (qG5 h0 g (by lia) (by lia) ?_)
  by_cases less:gK (arrOf st2) (lo+x)<gK (arrOf st2) (lo+x - 1)
  ·rw [decide_eq_true less];dsimp only;refine gifT rfl ?_;exact wpS_pure (h x hax (by lia) u2 (.inr less))
  ·rw [decide_eq_false less];dsimp only;rw [if_neg C1];refine wpS_pure ⟨rfl,rfl,fun i j hl hij hj=>?_⟩;by_cases hjx:j<lo+x
   ·exact u2 i j hl hij hjx
   ·have ej:j=lo+x:=by lia
    rw [ej];by_cases ei:i=lo+x
    ·rw [ei];exact X9 _
    ·have:=u2 i (lo+x - 1) hl (by lia) (by lia)
     lia
theorem qM9 {st:SortSt} {lo n m:Nat} {Q:Option Nat->SortSt->Prop} (h0:qCT a₀) (g:gSG κ0 a₀ st) (hm:lo+m<=a₀.size) (h1:1<=n) (hnm:n<=m) (u:gFal (arrOf st) lo (lo+n))
  (h:∀ k st2,gSG κ0 a₀ st2->pendingOf st2=pendingOf st->1<=k->k<=m->gSeg (arrOf st2) lo (lo+k)->gOut (arrOf st) (arrOf st2) lo (lo+m)->Q (some k) st2):wpS (model prog w) A E s (qSF lo n m) Q st:=by
 unfold qSF;have hsz:lo+n<=(arrOf st).size:=by rw [g.size];lia
 rw [reverseSlice'_eq];refine wpS_bind (wpS_modify ?_);have g2:gSG κ0 a₀ (setArr st (mirror (arrOf st) lo (lo+n) ((lo+n - lo) / 2))):=g.lay (mirror_perm _ _ _ _);refine wpS_bind (qP0 h0 g2 hm h1 hnm ?_ fun k hk1 hk2 uk _=>wpS_pure (h k _ g2 rfl (by lia) hk2 uk ((qNI hsz).wide (A6 _) (by lia))))
 intro i j hl hij hj;show gK (mirror (arrOf st) lo (lo+n) ((lo+n - lo) / 2)) i<=gK (mirror (arrOf st) lo (lo+n) ((lo+n - lo) / 2)) j;rw [qG6 hsz,qG6 hsz,if_pos (by lia),if_pos (by lia)]
 exact u _ _ (by lia) (by lia) (by lia)
theorem qV3 {st:SortSt} {lo n m:Nat} {Q:gCDn->SortSt->Prop} (h0:qCT a₀) (g:gSG κ0 a₀ st) (hm:lo+m<=a₀.size) (h1:1<=n) (hnm:n<=m) (u:gFal (arrOf st) lo (lo+n))
  (h:∀ k e st2,gSG κ0 a₀ st2->pendingOf st2=pendingOf st->n<=k->k<=m->gFal (arrOf st2) lo (lo+k)->e+1<=k->(∀ i,lo+k - (e+1)<=i->i<lo+k->gK (arrOf st2) i=gK (arrOf st2) (lo+k - 1))->gOut (arrOf st) (arrOf st2) lo (lo+m)->Q (none,k,e) st2) :
  wpS (model prog w) A E s (gdnL lo n m) Q st:=by
 unfold gdnL;refine wpS_forRange (I:=fun x c st2=>∃ e,c=(none,x,e)/\gSG κ0 a₀ st2/\pendingOf st2=pendingOf st/\gFal (arrOf st2) lo (lo+x)/\e+1<=x/\
   (∀ i,lo+x - (e+1)<=i->i<lo+x->gK (arrOf st2) i=gK (arrOf st2) (lo+x - 1))/\gOut (arrOf st) (arrOf st2) lo (lo+m)) ?step ?fin ⟨0,rfl,g,rfl,u,by lia,fun i h1 h2=>by congr 1;lia,.refl _ _ _⟩
 case fin=>
  rintro c st2 ⟨e,rfl,g2,pe,u2,hq,he,o2⟩;rw [show max n m=m by lia] at u2 hq he ⊢
  exact h m e st2 g2 pe hnm (A6 _) u2 hq he o2
 case step=>
  rintro x c st2 hax hxn ⟨e,rfl,g2,pe,u2,hq,he,o2⟩;dsimp only;have hsz:lo+x<=(arrOf st2).size:=by rw [g2.size];lia
  refine wpS_bind (qG5 h0 g2 (by lia) (by lia) ?_)
  by_cases less:gK (arrOf st2) (lo+x)<gK (arrOf st2) (lo+x - 1)
  ·rw [decide_eq_true less];dsimp only;refine gifT rfl ?_;have more:∀ ys:Array Keyed,(∀ k,gK ys k=gK (arrOf st2) k)->gFal ys lo (lo+(x+1)):=by
    intro ys hk i j hl hij hj;rw [hk,hk];by_cases hjx:j<lo+x
    ·exact u2 i j hl hij hjx
    ·have ej:j=lo+x:=by lia
     rw [ej];by_cases ei:i=lo+x
     ·rw [ei];exact X9 _
     ·have:=u2 i (lo+x - 1) hl (by lia) (by lia)
      lia
   by_cases hpos:e > 0
   ·rw [if_pos hpos,reverseSlice'_eq];refine wpS_bind (wpS_modify (wpS_pure ⟨0,rfl,g2.lay (mirror_perm _ _ _ _),pe,more _ (qB1 hsz he),by lia,fun i h1 h2=>by congr 1;lia,o2.trans ?_⟩))
    exact fun k _=>qB1 hsz he k
   ·refine gifF hpos ?_;exact wpS_pure ⟨0,rfl,g2,pe,more _ (fun _=>rfl),by lia,fun i h1 h2=>by congr 1;lia,o2⟩
  ·rw [decide_eq_false less];dsimp only;rw [if_neg C1];refine wpS_bind (qG5 h0 g2 (by lia) (by lia) ?_)
   by_cases big:gK (arrOf st2) (lo+x - 1)<gK (arrOf st2) (lo+x)
   ·rw [decide_eq_true big];dsimp only;refine gifT rfl ?_;exact wpS_pure (h x e st2 g2 pe hax (by lia) u2 hq he o2)
   ·rw [decide_eq_false big];dsimp only;rw [if_neg C1];have ex:gK (arrOf st2) (lo+x)=gK (arrOf st2) (lo+x - 1):=by lia
    refine wpS_pure ⟨e+1,rfl,g2,pe,fun i j hl hij hj=>?_,by lia,fun i h1 h2=>?_,o2⟩
    ·by_cases hjx:j<lo+x
     ·exact u2 i j hl hij hjx
     ·have ej:j=lo+x:=by lia
      rw [ej];by_cases ei:i=lo+x
      ·rw [ei];exact X9 _
      ·rw [ex];exact u2 i (lo+x - 1) hl (by lia) (by lia)
    ·rw [show lo+(x+1) - 1=lo+x by lia]
     by_cases ei:i=lo+x
     ·rw [ei]
     ·rw [ex];exact he i (by lia) (by lia)
theorem qP1 {st:SortSt} {lo n m:Nat} {Q:Option Nat->SortSt->Prop} (h0:qCT a₀) (g:gSG κ0 a₀ st) (hm:lo+m<=a₀.size) (hnm:n+1<=m) (u:gFal (arrOf st) lo (lo+(n+1)))
  (h:∀ k st2,gSG κ0 a₀ st2->pendingOf st2=pendingOf st->1<=k->k<=m->gSeg (arrOf st2) lo (lo+k)->gOut (arrOf st) (arrOf st2) lo (lo+m)->Q (some k) st2):wpS (model prog w) A E s (gdnP lo n m) Q st:=by
 unfold gdnP;refine wpS_bind (wpS_lift (wpAny_rule ⟨rfl,?_⟩));refine wpS_bind (qV3 h0 g hm (by lia) hnm u fun k e st2 g2 pe hk1 hk2 u2 hq he o2=>?_)
 dsimp only;have hsz:lo+k<=(arrOf st2).size:=by rw [g2.size];lia
 by_cases hpos:e > 0
 ·rw [if_pos hpos,reverseSlice'_eq];refine wpS_bind (wpS_modify (qM9 h0 (g2.lay (mirror_perm _ _ _ _)) hm (by lia) hk2 ?_ fun k2 st3 g3 pe3 a1 a2 u3 o3=>h k2 st3 g3 (pe3.trans pe) a1 a2 u3 ?_))
  ·intro i j hl hij hj;show gK (mirror (arrOf st2) _ _ _) j<=gK (mirror (arrOf st2) _ _ _) i;rw [qB1 hsz he,qB1 hsz he];exact u2 i j hl hij hj
  ·exact o2.trans (gOut.trans (fun k _=>qB1 hsz he k) o3)
 ·refine gifF hpos ?_;exact qM9 h0 g2 hm (by lia) hk2 u2 fun k2 st3 g3 pe3 a1 a2 u3 o3=>h k2 st3 g3 (pe3.trans pe) a1 a2 u3 (o2.trans o3)
theorem qV4 {st:SortSt} {lo m:Nat} {Q:Option Nat->SortSt->Prop} (h0:qCT a₀) (g:gSG κ0 a₀ st) (hm:lo+m<=a₀.size) (h1:1<=m)
  (h:∀ k st2,gSG κ0 a₀ st2->pendingOf st2=pendingOf st->1<=k->k<=m->gSeg (arrOf st2) lo (lo+k)->gOut (arrOf st) (arrOf st2) lo (lo+m)->Q (some k) st2):wpS (model prog w) A E s (countRun' lo m) Q st:=by
 rw [qSG];refine wpS_bind (qP0 h0 g hm (A6 1) h1 (fun i j hl hij hj=>by rw [show i=j by lia];exact X9 _) fun n hn1 hn2 un or=>?_)
 dsimp only;by_cases e:n=m
 ·refine gifT (by simpa using e) ?_
  exact wpS_pure (h n st g rfl hn1 hn2 un (.refl _ _ _))
 ·refine gifF (by simpa using e) ?_
  have hlt:gK (arrOf st) (lo+n)<gK (arrOf st) (lo+n - 1):=or.resolve_left e;by_cases hgt:n > 1
  ·refine gifT hgt ?_;refine wpS_bind (qG5 h0 g (by lia) (by lia) ?_)
   by_cases rose:gK (arrOf st) lo<gK (arrOf st) (lo+n - 1)
   ·rw [decide_eq_true rose];dsimp only;refine gifT rfl ?_;exact wpS_pure (h n st g rfl hn1 hn2 un (.refl _ _ _))
   ·rw [decide_eq_false rose];dsimp only;rw [if_neg C1,reverseSlice'_eq];have hsz:lo+n<=(arrOf st).size:=by rw [g.size];lia
    have same:∀ k,lo<=k->k<lo+n->gK (arrOf st) k=gK (arrOf st) (lo+n - 1):=by
     intro k hl hk;have a1:=un lo k (by lia) hl hk
     have a2:=un k (lo+n - 1) hl (by lia) (by lia)
     lia
    refine wpS_bind (wpS_modify (qP1 h0 (g.lay (mirror_perm _ _ _ _)) hm (by lia) ?_ fun k st2 g2 pe a1 a2 u2 o2=>h k st2 g2 pe a1 a2 u2 (gOut.trans (fun k _=>qB1 hsz same k) o2)))
    intro i j hl hij hj;show gK (mirror (arrOf st) _ _ _) j<=gK (mirror (arrOf st) _ _ _) i;rw [qB1 hsz same,qB1 hsz same];by_cases hjn:j<lo+n
    ·rw [same i hl (by lia),same j (by lia) hjn]
     exact X9 _
    ·have ej:j=lo+n:=by lia
     rw [ej];by_cases ei:i=lo+n
     ·rw [ei];exact X9 _
     ·rw [same i hl (by lia)]
      exact A35 hlt
  ·refine gifF hgt ?_;have e1:n=1:=by lia
   rw [e1] at hlt;rw [e1];refine qP1 h0 g hm (by lia) ?_ h
   intro i j hl hij hj;by_cases ei:i=j
   ·rw [ei];exact X9 _
   ·have ei:i=lo:=by lia
    have ej:j=lo+1:=by lia
    rw [ei,ej];exact A35 hlt
end
end L2.GS
namespace L2.GS
open PySem PyProof.Rows
variable [NM]
def qV7 (xs:Array Keyed):List (Nat × Nat × Nat)->Nat->Nat->Prop
 | [],a,b=>a=b
 | r::rs,a,b=>r.1=a/\0<r.2.1/\gSeg xs a (a+r.2.1)/\qV7 xs rs (a+r.2.1) b
section
variable {prog:Program} {w:World} {A:Around} {E:Value->Shared->Prop} {s:Shared} {κ0:SortKind} [LtOk prog w A s κ0] {a₀:Array Keyed}
theorem qV6:∀ n:Nat,n<64->minRun' n n 0=n
 | 0,_=>rfl
 | n+1,h=>if_pos h
theorem gwpS_runs (hs:a₀.size<64) {st:SortSt} {Q:Unit->SortSt->Prop} (h0:qCT a₀) (g:gSG κ0 a₀ st) (hp:pendingOf st=#[]) (h:∀ st2,gSG κ0 a₀ st2->gSortedTo (arrOf st2) a₀.size->Q () st2):wpS (model prog w) A E s sortRuns' Q st:=by
 rw [sortRuns'_eq];refine wpS_bind (wpS_get ?_);dsimp only;rw [g.size,qV6 _ hs];refine wpS_bind (wpS_mono (wpS_forRange
  (I:=fun x c st2=>∃ lo,c=(none,lo)/\x<=lo/\lo<=a₀.size/\gSG κ0 a₀ st2/\qV7 (arrOf st2) (pendingOf st2).toList 0 lo/\(lo=0/\pendingOf st2=#[]\/lo=a₀.size/\(pendingOf st2).size<=1))
  (Q:=fun c st2=>c.1=none/\gSG κ0 a₀ st2/\qV7 (arrOf st2) (pendingOf st2).toList 0 a₀.size/\(pendingOf st2).size<=1) ?step ?fin ⟨0,rfl,A6 _,D8 _,g,by rw [hp];rfl,.inl ⟨rfl,hp⟩⟩) ?post)
 case fin=>
  rintro c st2 ⟨lo,rfl,h1,h2,g2,r2,d2⟩;have e:lo=a₀.size:=by lia
  rw [e] at r2;refine ⟨rfl,g2,r2,?_⟩;rcases d2 with ⟨_,d2⟩ | ⟨_,d2⟩
  ·rw [d2];exact D8 _
  ·exact d2
 case post=>
  rintro ⟨c,lo⟩ st2 ⟨e,g2,r2,le2⟩;cases (show c=none from e);dsimp only;refine wpS_bind (wpS_mono (wpS_forRange (I:=fun x c st3=>c=(none,())/\st3=st2)
   (Q:=fun c st3=>c=(none,())/\st3=st2) ?_ ?_ ⟨rfl,rfl⟩) ?_)
  ·rintro x c st3 _ _ ⟨rfl,rfl⟩;refine wpS_bind (wpS_get ?_);rw [if_pos le2];exact wpS_pure ⟨rfl,rfl⟩
  ·rintro c st3 ⟨e,g3⟩;exact ⟨e,g3⟩
  ·rintro c st3 ⟨rfl,rfl⟩;refine wpS_pure (h st3 g2 ?_);have l3:(pendingOf st3).toList.length<=1:=by simpa using le2
   generalize (pendingOf st3).toList=l at r2 l3
   match l,r2,l3 with
   | [],r3,_=>
    have e:0=a₀.size:=r3;intro i j _ hj
    lia
   | [r],r3,_=>
    have e:0+r.2.1=a₀.size:=r3.2.2.2;intro i j hij hj;exact r3.2.2.1 i j (D8 _) hij (by lia)
   | _::_::_,_,l3=>simp at l3
 case step=>
  rintro x c st2 _ hx ⟨lo,rfl,hxl,hlo,g2,r2,d2⟩;dsimp only;by_cases c1:lo >= a₀.size
  ·rw [if_pos c1];have e:lo=a₀.size:=by lia
   rw [e] at r2;refine wpS_pure ⟨rfl,g2,r2,?_⟩;rcases d2 with ⟨_,d2⟩ | ⟨_,d2⟩
   ·rw [d2];exact D8 _
   ·exact d2
  rw [if_neg c1];obtain ⟨e0,pe2⟩:lo=0/\pendingOf st2=#[]:=by
   rcases d2 with d2 | ⟨d2,_⟩
   ·exact d2
   ·lia
  subst e0;refine wpS_bind (qV4 h0 g2 (by lia) (by lia) fun k st3 g3 pe3 k1 k2 u3 o3=>?_)
  rw [pe2] at pe3;dsimp only;have tail:∀ (st5:SortSt) (n:Nat),gSG κ0 a₀ st5->n=a₀.size->1<=n->gSeg (arrOf st5) 0 (0+n)->pendingOf st5=#[]->
    ∃ lo,((none,0+n):Option Unit × Nat)=(none,lo)/\x+1<=lo/\lo<=a₀.size/\gSG κ0 a₀ (setPending st5 ((pendingOf st5).push (0,n,0)))/\qV7 (arrOf st5) ((pendingOf st5).push (0,n,0)).toList 0 lo/\(lo=0/\(pendingOf st5).push (0,n,0)=#[]\/lo=a₀.size/\((pendingOf st5).push (0,n,0)).size<=1):=by
   intro st5 n g5 en h1 u5 pe5;refine ⟨0+n,rfl,by lia,by lia,⟨g5.perm,g5.kind,g5.failed⟩,?_,.inr ⟨by lia,?_⟩⟩
   ·rw [pe5];exact ⟨rfl,h1,u5,rfl⟩
   ·rw [pe5];exact A6 _
  by_cases c2:k<a₀.size
  ·rw [if_pos c2];refine wpS_bind (wpS_lift (wpAny_rule ⟨rfl,?_⟩));refine wpS_bind (qV5 h0 g3 (by lia) (by lia) u3 fun st4 g4 pe4 u4 o4=>?_)
   rw [pe3] at pe4;rw [if_neg (by simp)]
   refine wpS_bind (wpS_get ?_);rw [show (pendingOf st4).back?=none by rw [pe4];rfl]
   dsimp only;refine wpS_bind (wpS_modify (wpS_pure ?_));exact tail st4 _ g4 (by lia) (by lia) u4 pe4
  ·rw [if_neg c2];refine wpS_bind (wpS_get ?_);rw [show (pendingOf st3).back?=none by rw [pe3];rfl]
   dsimp only;refine wpS_bind (wpS_modify (wpS_pure ?_));exact tail st3 _ g3 (by lia) (by lia) u3 pe3
end
end L2.GS
namespace L2
open PySem PySem.Spec PyProof.Rows
open PySem.AutoSeq1 in
section
variable {X:Cx}
end
end L2
namespace L2
open PySem PySem.Spec PyProof.Rows
noncomputable def topI (b:Int) (l:List Int):Int:=l.foldl (fun b x=>if x > b then x else b) b
section
variable {prog:Program} {w:World} {A:Around} {R:Result->Shared->Prop} {I:Addr} {fp wr:List Addr} {n:Nat} {P:Nat->Value->Prop} {St:Nat->Heap->Prop}
end
section
variable {prog:Program} {w:World} {A:Around} {E:Value->Shared->Prop} {s:Shared}
end
section
variable {X:Cx}
noncomputable def topD (dv:Option Int):List Int->Option Int
 | []=>dv
 | y::r=>some (topI y r)
end
end L2
namespace L2
open PySem PySem.Spec PyProof.Rows
theorem qG9:entryFor table "dict.update.loop" = some Builtin.«dict.update.loop»:=entryFor_of_tree (by kernel_rfl)
theorem qCL:plainId "dict.update.loop" = true:=by decide +kernel
theorem qND:typeLookup (.type "list") "keys" = pure none:=by rw [typeLookup_type,builtinLookup_eq_fast];kernel_rfl
section
variable {prog:Program} {w:World} {A:Around} {E:Value->Shared->Prop} {s:Shared}
theorem qM4 {a:Addr} {o:Obj} {xs:Array Value} {k:Nat} {Q:Option Value->Shared->Prop} (hx:s.heap.get? a=some o) (hc:o.cls=.type "list") (hdat:o.data=.seq xs k) (hd:o.dict=none) (hA:A.handled=none)
  (h:∀ h' tk,(∀ b u,s.heap.get? b=some u->h'.get? b=some u)->Q none { s with heap:=h',toks:=tk }):wpAny (model prog w) A (getAttr? (.ref a) "keys") Q E s:=by
 obtain ⟨c,dct,dat,sl⟩:=o;simp only at hc hdat hd;subst hc hdat hd;obtain ⟨hp,g,dr,tk,os⟩:=s;have hT:∀ tk',(⟨hp,g,dr,tk',os⟩:Shared).TypeIs (.ref a) "list":=fun _=>⟨_,hx,rfl⟩;have f1:=sub_AttributeError;have f3:=i5.lookup;have f4:=i5.bind (.ref a);have f5:=am_list_getattr_none;unfold getAttr? getAttrBy? getAttrBy
 repeat (any_goals (first | assumption | exact hT _ | ((with_reducible show wpAny _ _ (call (Value.builtin "list.__getattribute__") _ _) _ _ _);refine call_meets i5 (hT _) am_entry_list_getattribute (F.args_list_getattribute_2 _ _) (meets_getattribute_miss_list a xs k sl "keys" _ qND (by decide +kernel) (by decide +kernel)) ⟨hx,hA,fun h' tk' e hx'=>?_⟩) | wp_step))
 obtain ⟨t',u',he⟩:=hx'.there;show wpAny _ _ (getattributeRaised _ _ _ _ _ _ _) _ _ _;unfold getattributeRaised
 repeat (any_goals (first | assumption | wp_step))
 exact h _ _ hx'.of.keeps
end
section
variable {prog:Program} {w:World} {A:Around} {R:Result->Shared->Prop} {I:Addr} {fp wr:List Addr} {n:Nat} {P:Nat->Value->Prop} {St:Nat->Heap->Prop}
theorem qVE (W:Walks prog w A.in1 I fp wr n P St) (h0:Heap) (d:Addr) (hdf:d ∉ fp) (ps:List (Int × Value)) (hn:ps.length=n) (hz:n<=sizeLine)
  (tup:∀ i v,P i v->∃ r k t x,v=.ref r/\r ∉ wr/\r ≠ d/\h0.IsTuple r #[.int k t,x]/\ps[i]?=some (k,x)) :
  ∀ (m i:Nat) (j:Int) (tj:Tok) (s:Shared) (Af:List (Key × Value)),n - i=m->i<=n->St i s.heap->s.heap.DictOf (qB3 prog w) d Af->Af.length<=i->(∀ b o,b ∉ wr->b ≠ d->h0.get? b=some o->s.heap.get? b=some o)->
  (∀ h' tk,h'.DictOf (qB3 prog w) d ((ps.drop i).foldl (fun m q=>stored m (F9 q.1) q.2) Af)->(∀ b o,b ∉ wr->b ≠ d->h0.get? b=some o->h'.get? b=some o)->R (.ok (.ret .none)) { s with heap:=h',toks:=tk })->
  codeAny (model prog w) A (.builtin "dict.update.loop" ⟨[.ref d,.ref I,.int j tj,.none],[]⟩) R s:=by
 have hdw:d ∉ wr:=fun h=>hdf (W.sub _ h);intro m
 induction m with
 | zero=>
  intro i j tj s Af hm hi st hd hl hk hR;have e:i=n:=by lia
  refine codeAny_builtin qG9 ?_;rw [J3 qCL _];show wpAny _ A.in1 (pyNext (.ref I) >>= _) _ _ s;refine wpAny_bind (W.done s _ _ (e ▸ st) fun h' tk hk'=>?_);show wpAny _ A.in1 (A04 d [] >>= fun _=>ret L7) _ _ _;rw [A24 (by lia)] at hR
  exact wpAny_bind (wpAny_pure (wpAny_pure (hR h' tk (hd.at fun o eo=>hk' d o hdw eo) fun b o hb hbd eb=>hk' b o hb (hk b o hb hbd eb))))
 | succ m ih=>
  intro i j tj s Af hm hi st hd hl hk hR;have hlt:i<n:=by lia
  refine codeAny_builtin qG9 ?_;rw [J3 qCL _];show wpAny _ A.in1 (pyNext (.ref I) >>= _) _ _ s;refine wpAny_bind (W.item i s _ _ hlt st fun v h' tk hP st' hk'=>?_);obtain ⟨r,k,t,x,rfl,hrw,hrd,ht,ep⟩:=tup i v hP;have ed:ps.drop i=(k,x)::ps.drop (i+1):=by
   obtain ⟨hi',e⟩:=A5.mp ep;rw [c9 hi',e]
  rw [ed] at hR;have ht2:h'.IsTuple r #[.int k t,x]:=by
   obtain ⟨o,e1,e2,e3⟩:=ht;exact ⟨o,hk' r o hrw (hk r o hrw hrd e1),e2,e3⟩
  obtain ⟨o,ho,hoc,no,hod⟩:=ht2;have hd2:h'.DictOf (qB3 prog w) d Af:=hd.at fun o eo=>hk' d o hdw eo;refine wpAny_bind (wpAny_holding (wpAny_bind ?_));show wpAny _ A.in1 (tryCatch (Z0 (.ref r)) _) _ _ _;refine wpAny_tryCatch ?_;unfold Z0;refine wpAny_bind (wpAny_typeOf (T:="tuple") ⟨o,ho,hoc⟩ ?_);rw [if_pos (by decide)]
  refine wpAny_bind (wpAny_seqItems ho hod (wpAny_pure ?_));show wpAny _ A.in1 (holding [Q2 k t,x] (dictSet d (.int k t) x)) _ _ _;refine wpAny_holding (wpAny_dictSet_pairs (hsz:=by lia) (k:=F9 k) (by rw [qQ4];exact qM6 k t) hd2 fun h2 hd3 sb=>?_)
  have len3:(stored Af (F9 k) x).length<=i+1:=by
   unfold stored
   split
   ·rw [A0];lia
   ·rw [A7,B4];lia
  refine wpAny_pure ⟨plainId_quiet qCL _,ih (i+1) _ _ _ (stored Af (F9 k) x) (by lia) hlt (W.frame _ _ _ st' fun b hb o eb=>?_) hd3 len3 (fun b o hb hbd eb=>?_) fun h3 tk3 hd4 hk4=>hR h3 tk3 hd4 hk4⟩
  ·rw [sb.2 b (fun z:b=d=>hdf (z ▸ hb))];exact eb
  ·rw [sb.2 b hbd];exact hk' b o hb (hk b o hb hbd eb)
end
section
variable {prog:Program} {w:World} {A:Around} {E:Value->Shared->Prop} {s:Shared}
theorem qMJ {l:Addr} {o:Obj} {its:Array Value} {nl:Nat} {ps:List (Int × Value)} {Q:Value->Shared->Prop} (hA:A.handled=none) (hl:s.heap.get? l=some o) (hc:o.cls=.type "list") (hdat:o.data=.seq its nl) (hdn:o.dict=none) (hn:ps.length=its.size) (hz:its.size<=sizeLine)
  (tup:∀ (i:Nat) v,its[i]?=some v->∃ r k t x,v=.ref r/\s.heap.IsTuple r #[.int k t,x]/\ps[i]?=some (k,x))
  (h:∀ h' tk,h'.DictOf (qB3 prog w) s.heap.objs.size (ps.foldl (fun m q=>stored m (F9 q.1) q.2) [])->(∀ b u,s.heap.get? b=some u->h'.get? b=some u)->Q (.ref s.heap.objs.size) { s with heap:=h',toks:=tk }) :
  wpAny (model prog w) A (call (.type "dict") [.ref l]) Q E s:=by
 refine callType_codes (Q₁:=fun obj s₁=>obj=.ref s.heap.objs.size/\s₁={ s with heap:=s.heap.push { cls:=.type "dict",data:=.dict #[] } }) B15 (A49 _) A98 (kt_code_dict_new _ ⟨rfl,rfl⟩) ?_;rintro obj s₁ ⟨rfl,rfl⟩;have nw:(s.heap.push { cls:=.type "dict",data:=.dict #[] }).DictOf (qB3 prog w) s.heap.objs.size []:=B27 s.heap;have hl':(s.heap.push { cls:=.type "dict",data:=.dict #[] }).get? l=some o:=A4 _ hl;have hll:l<s.heap.objs.size:=B3 hl;refine ⟨nw.typeIs,A80 _ _,?_⟩;unfold Builtin.«dict.__init__»;refine wpAny_bind ?_;unfold A05;refine wpAny_bind (wpAny_notOrdered_dict nw.typeIs ?_);show wpAny _ _ (pure (s.heap.objs.size,[F3 l])) _ _ _;refine wpAny_pure ?_;show wpAny _ _ (Y0 "dict.__init__" s.heap.objs.size (.ref l) [] .none) _ _ _;unfold Y0;refine wpAny_bind (wpAny_typeOf (T:="list") ⟨o,hl',hc⟩ ?_);rw [if_pos (by decide)]
 refine wpAny_bind (qM4 hl' hc hdat hdn hA fun h1 tk1 k1=>?_);rw [if_pos (show (none:Option Value).isNone=true from rfl)];have hl1:h1.IsList l its:=⟨o,k1 _ _ hl',hc,nl,hdat⟩;have hlt1:l<h1.objs.size:=B3 (k1 _ _ hl');have hdl:s.heap.objs.size<h1.objs.size:=by
  obtain ⟨_,_,_,e,_⟩:=nw;exact B3 (k1 _ _ e)
 refine wpAny_bind (wpAny_rule (wpAny_bind (wpAny_pyIter_list hl1 ?_)));refine wpAny_pure ⟨plainId_quiet qCL _,?_⟩;refine qVE (n:=its.size) (A45 (A:=A.in1.in1) hA _ l (C2 hlt1) its) h1 s.heap.objs.size ?_ ps hn hz (fun i v hv=>?_) its.size 0 _ _ _ [] rfl (D8 _) ⟨⟨_,A9 _ rfl,rfl,rfl⟩,hl1.push _⟩ ((nw.keep k1).push _) (A6 _) (fun b u hb hbd eb=>A4 _ eb) fun h' tk hd' hk'=>?_
 ·simp only [B6,F7,or_false,not_or];exact ⟨C2 hdl,X3 hll⟩
 ·obtain ⟨r,k,t,x,e1,e2,e3⟩:=tup i v hv;obtain ⟨or,hr,hr2,hr3⟩:=e2;have hrs:=B3 hr;refine ⟨r,k,t,x,e1,?_,C2 hrs,⟨or,k1 _ _ (A4 _ hr),hr2,hr3⟩,e3⟩;simp only [B6,F7,or_false];exact C2 (R1 hrs hdl)
 ·refine ⟨rfl,h h' tk hd' fun b u eb=>?_⟩;have hbs:=B3 eb;refine hk' b u ?_ (C2 hbs) (k1 _ _ (A4 _ eb));simp only [B6,F7,or_false];exact C2 (R1 hbs hdl)
end
theorem qFZ {α β:Type} {F:α->β->Prop}:∀ {l₁:List α} {l₂:List β} {i:Nat} {a:α},Paired F l₁ l₂->l₁[i]?=some a->∃ b,l₂[i]?=some b/\F a b
 | _,_,_,_,.nil,e=>by simp at e
 | _,_,0,_,.cons r _,e=>by simp at e;subst e;exact ⟨_,rfl,r⟩
 | _,_,i+1,a,.cons _ t,e=>by
  obtain ⟨b,h1,h2⟩:=qFZ (i:=i) (a:=a) t (by simpa using e)
  exact ⟨b,by simpa using h1,h2⟩
theorem qHZ {h:Heap} {p:Addr} {its:Array Value} (x:PlainL h p its):∃ o,h.get? p=some o/\o.cls=.type "list"/\o.dict=none/\∃ n,o.data=.seq its n:=by
 obtain ⟨o,n,h2,h3,h4,h5⟩:=x;exact ⟨o,h2,h3,h4,n,h5⟩
section
variable {X:Cx}
def qOM (H:Hp) (K:PySem.W.Frag) (rs:List Addr) (ps:List (Int × V)):Prop:=Paired (fun r (q:Int × V)=>SqT K H r [.int q.1,q.2]) rs ps
noncomputable def qCK (Af:List (Key × V)) (ps:List (Int × V)):List (Key × V):=ps.foldl (fun m q=>putK m (F9 q.1) q.2) Af
theorem qJ7:∀ (ps:List (Int × V)) (Af:List (Key × V)),(qCK Af ps).length<=Af.length+ps.length
 | [],Af=>by simp [qCK]
 | q::ps,Af=>by
  have:=qJ7 ps (putK Af (F9 q.1) q.2);have:=qC0 Af (F9 q.1) q.2;show (qCK (putK Af (F9 q.1) q.2) ps).length<=Af.length+(q::ps).length;rw [D5]
  lia
theorem qRA {Ab:List (Addr × Obj)} {σ:St} {H:Hp} {s:Shared} (I:Inv X Ab σ H s):∀ {rs:List Addr} {ps:List (Int × V)},qOM H X.K rs ps->
  ∃ qs:List (Int × Value),Paired (fun r (q:Int × Value)=>∃ t,s.heap.IsTuple r #[.int q.1 t,q.2]) rs qs/\Paired (fun (p:Int × V) (q:Int × Value)=>p.1=q.1/\RelV p.2 q.2) ps qs:=by
 intro rs ps h;unfold qOM at h
 induction h with
 | nil=>exact ⟨[],.nil,.nil⟩
 | @cons r q rs ps h t ih=>
  obtain ⟨qs,h1,h2⟩:=ih;obtain ⟨its,rv,pl,hz⟩:=I.tuple h;obtain ⟨u1,u2,rfl,⟨tk,rfl⟩,r2⟩:=qJW rv;exact ⟨(q.1,u2)::qs,.cons ⟨tk,pl⟩ h1,.cons ⟨rfl,r2⟩ h2⟩
theorem qX2:∀ {ps:List (Int × V)} {qs:List (Int × Value)} {Af:List (Key × V)} {vs:List (Key × Value)},Paired (fun (p:Int × V) (q:Int × Value)=>p.1=q.1/\RelV p.2 q.2) ps qs->KV Af vs->KV (qCK Af ps) (qs.foldl (fun m q=>stored m (F9 q.1) q.2) vs):=by
 intro ps qs Af vs h
 induction h generalizing Af vs with
 | nil=>exact fun r=>r
 | cons h t ih=>
  intro r;refine ih ?_;dsimp only;rw [<- h.1];exact r.put _ h.2
theorem qQL (hc:X.calm=true):qCF X (.type "dict") (fun xs H Q=>∃ (p:Addr) (rs:List Addr) (ps:List (Int × V)),xs=[.ref p]/\SqL X.K H p (rs.map V.ref)/\qOM H X.K rs ps/\∀ d,H d=none->Q (.ref d) (Ag H d (.dK (qCK [] ps)))):=by
 intro Ab s σ H xs us Q I r h;obtain ⟨p,rs,ps,rfl,hq,hp,q⟩:=h;obtain ⟨u,rfl,rx⟩:=qDO r;cases rx;obtain ⟨its,rv,pl,hz⟩:=I.list hq;obtain ⟨qs,h1,h2⟩:=qRA I hp;have l0:=rv.length;rw [A0] at l0;have l1:rs.length=qs.length:=C6 h1;have l2:ps.length=qs.length:=C6 h2;obtain ⟨o,ho,hoc,hod,n,hdat⟩:=qHZ pl;rw [A0] at hz;refine qMJ (ps:=qs) (I.ok.hd hc) ho hoc hdat hod (by simp;lia) (by simp;lia) (fun i v hv=>?_) fun h' tk hd' hk=>?_
 ·have hv':its[i]?=some v:=by simpa using hv
  have hi:i<rs.length:=by rw [l0];exact (A5.mp hv').1
  obtain ⟨u,hu,ru⟩:=rv.get (i:=i) (x:=.ref rs[i]) (by rw [B5,A3 hi];rfl)
  rw [hv'] at hu;cases hu;cases ru;obtain ⟨b,hb,t,ht⟩:=qFZ h1 (A3 hi);exact ⟨rs[i],b.1,t,b.2,rfl,ht,hb⟩
 ·have z:(qCK [] ps).length<=sizeLine:=by
   have:=qJ7 ps [];simp at this
   lia
  refine ⟨.ref s.heap.objs.size,_,I.laid (a:=s.heap.objs.size) (o:=.dK (qCK [] ps)) (t':=tk) hk (A6 _) (qT0 z (beq_eq_false_iff_ne.mpr (J4 (C2 I.big))) (qX2 h2 .nil) hd'),rfl,q _ (I.hok.fresh (A6 _))⟩
end
end L2
namespace L2
open PySem PySem.Spec PyProof.Rows
section
variable {X:Cx}
def qaI (K:PySem.W.Frag):R2:=fun x y H Q=>∃ a b xs ys,x=.ref a/\y=.ref b/\SqT K H a xs/\SqT K H b ys/\ys ≠ []/\xs.length+ys.length<=sizeLine/\(xs=[]->Q (.ref b) H)/\(xs ≠ []->∀ p,H p=none->Q (.ref p) (Ag H p (.tup (xs++ys))))
theorem qN6:OpR X (binaryOp .Add) (qaI X.K):=by
 intro Ab s σ H x y v u Q I rx ry h;obtain ⟨a,b,xs,ys,rfl,rfl,ha,hb,hy,hz,q1,q2⟩:=h;by_cases hx:xs=[]
 ·subst hx;cases rx;cases ry;obtain ⟨its,r1,p1,_⟩:=I.tuple ha;obtain ⟨its2,r2,p2,_⟩:=I.tuple hb;cases r1;obtain ⟨⟨cls,dd,data,sl⟩,ho,hc,n,hd⟩:=id p1;obtain ⟨⟨cls2,dd2,data2,sl2⟩,ho2,hc2,n2,hd2⟩:=id p2;simp only at hc hd hc2 hd2;subst hc hd hc2 hd2;exact concat_meets ⟨_,ho,rfl⟩ ⟨_,ho2,rfl⟩ noFill_tuple_add seq_tuple_add Y9 X6 (W7 _ _) (tuple_addW0 a b #[] its2.toArray n n2 dd dd2 sl sl2 rfl) ⟨ho,ho2,.ref b,H,I,rfl,q1 rfl⟩
 ·exact qRS Ab s σ H (.ref a) (.ref b) v u Q I rx ry ⟨a,b,xs,ys,rfl,rfl,ha,hb,hx,hz,fun z=>absurd z hy,fun _=>q2 hx⟩
end
end L2
namespace L2
open PySem
noncomputable def g5:Nat->Nat
 | 0=>0
 | n+1=>5 * g5 n+1
theorem qOG:∀ n:Nat,5 ^ n=4 * g5 n+1
 | 0=>rfl
 | n+1=>by
  rw [R3,qOG n,g5]
  lia
theorem qSK (m:Nat):∀ n:Nat,g5 (m+n)=5 ^ n * g5 m+g5 n
 | 0=>by simp [g5]
 | n+1=>by
  rw [<- Nat.add_assoc,g5,qSK m n,g5,R3,k8,<- Y1,X4 5 (5 ^ n)]
  lia
theorem qW9 (n:Nat):g5 (n+n)=2 * (g5 n * (2 * g5 n+1)):=by
 rw [qSK,qOG,B29,k8 (g5 n),k8 2];have e1:4 * g5 n * g5 n=2 * (g5 n * (2 * g5 n)):=by
  rw [A06 (g5 n) 2,<- Y1 2 2,Y1 4]
 rw [e1]
 lia
theorem qN7 (k m:Nat) (h:m % 2=1):Nat.Coprime (2 ^ k) m:=by
 refine Nat.Coprime.pow_left k ?_;have:Nat.gcd 2 m=1:=by
  rw [Nat.gcd_rec,h]
  rfl
 exact this
theorem qW8:∀ (k n:Nat),2 ^ k ∣ g5 n->2 ^ k ∣ n
 | 0,n,_=>by simp
 | k+1,n,h=>by
  rcases Nat.mod_two_eq_zero_or_one n with e | e
  ·obtain ⟨m,rfl⟩:∃ m,n=m+m:=⟨n / 2,by lia⟩
   rw [qW9,R3,X4 (2 ^ k)] at h;have h2:2 ^ k ∣ g5 m * (2 * g5 m+1):=Nat.dvd_of_mul_dvd_mul_left (by decide) h
   have h3:2 ^ k ∣ g5 m:=(qN7 k (2 * g5 m+1) (by lia)).dvd_of_dvd_mul_right h2
   obtain ⟨c,hc⟩:=qW8 k m h3;exact ⟨c,by rw [R3,X4 (2 ^ k) 2,Y1,<- hc];lia⟩
  ·obtain ⟨m,rfl⟩:∃ m,n=m+m+1:=⟨n / 2,by lia⟩
   exfalso
   rw [g5,qW9] at h;have h2:2 ∣ 5 * (2 * (g5 m * (2 * g5 m+1)))+1:=Nat.dvd_trans ⟨2 ^ k,by rw [R3,X4]⟩ h
   lia
def it5 (i n:Nat):Nat:=5 ^ n * i+g5 n
theorem qOX (i n:Nat):it5 i (n+1)=5 * it5 i n+1:=by
 unfold it5;rw [R3,g5,k8,<- Y1,X4 5 (5 ^ n)]
 lia
theorem qXI {k i n d:Nat} (hd:0<d) (hlt:d<2 ^ k) (h:it5 i n % 2 ^ k=it5 i (n+d) % 2 ^ k):False:=by
 have e:it5 i (n+d)=it5 i n+5 ^ n * (g5 d * (4 * i+1)):=by
  unfold it5;rw [x4 n d,qSK d n,Nat.pow_add,qOG d,k8 (g5 d),Nat.mul_one,k8 (5 ^ n)];have:(4 * g5 d+1) * 5 ^ n * i=5 ^ n * i+5 ^ n * (g5 d * (4 * i)):=by
   rw [B29,B30,B29,x4];congr 1;rw [X4 4,Y1,Y1,A06 (5 ^ n),A06 4 (5 ^ n)]
  rw [this]
  lia
 have h2:2 ^ k ∣ 5 ^ n * (g5 d * (4 * i+1)):=by
  rw [e] at h;have:=(Nat.dvd_iff_mod_eq_zero ..).mpr (Nat.sub_mod_eq_zero_of_mod_eq h.symm)
  rwa [Nat.add_sub_cancel_left] at this
 have h3:2 ^ k ∣ g5 d * (4 * i+1):=(qN7 k (5 ^ n) (by rw [qOG];lia)).dvd_of_dvd_mul_left h2
 have h4:2 ^ k ∣ g5 d:=(qN7 k (4 * i+1) (by lia)).dvd_of_dvd_mul_right h3
 have h5:=Nat.le_of_dvd hd (qW8 k d h4)
 lia
theorem qS6 {k i j:Nat} (hj:j<2 ^ k):∃ n,n<2 ^ k/\it5 i n % 2 ^ k=j:=by
 apply P1;intro no;have nd:((E6 (2 ^ k)).map fun n=>it5 i n % 2 ^ k).Nodup:=by
  rw [w5,b9];refine Z1.imp_of_mem fun {a b} ha hb hab e=>?_;have hb':=D6.mp hb;refine qXI (k:=k) (i:=i) (n:=a) (d:=b - a) (by lia) (by lia) ?_
  rw [show a+(b - a)=b by lia]
  exact e
 have sub:((E6 (2 ^ k)).map fun n=>it5 i n % 2 ^ k) ⊆ (E6 (2 ^ k)).filter fun x=>decide (x ≠ j):=fun x hx=>by
  obtain ⟨n,hn,e⟩:=D7.mp hx;refine K9.mpr ⟨D6.mpr (by rw [<- e];exact X1 _ (A36 k)),decide_eq_true fun z=>no ⟨n,D6.mp hn,e.trans z⟩⟩
 have l1:=O5 nd sub;have l2:((E6 (2 ^ k)).filter fun x=>decide (x ≠ j)).length<(E6 (2 ^ k)).length:=by
  refine List.length_filter_lt_length_iff_exists.mpr ⟨j,D6.mpr hj,by simp⟩
 rw [A0] at l1
 lia
end L2
namespace L2
open PySem PySem.Spec PyProof.Rows
structure TabG (byText:Bool × Bool) (t:SetTable) (n:Nat):Prop where
 pow:∃ k,3<=k/\t.mask+1=2 ^ k
 dum:t.dummies=#[]
 plain:t.plain=byText.2
 led:t.led=!byText.1
 size:t.place.size=n
 up:t.place.toList.Pairwise (·<·)
 le:∀ j ∈ t.place.toList,j<=t.mask
def qI1 (mask i pt:Nat):SetTable.Probe:={ j:=i,more:=L6 mask i - i,i:=i,perturb:=pt,dummy:=none }
theorem qLR {mask i:Nat} (h:i<=mask):L6 mask i<=mask/\i<=L6 mask i/\L6 mask i<=i+9:=by
 unfold L6
 split <;> lia
section
variable {byText:Bool × Bool} {t:SetTable} {n:Nat}
theorem TabG.slot (T:TabG byText t n) (j:Nat):(t.slot j=.empty/\j ∉ t.place.toList)\/(∃ i,t.slot j=.live i/\j ∈ t.place.toList):=by
 have hd:A31 t.dummies j=false:=by rw [T.dum];rfl
 obtain ⟨b1,b2,b3⟩:=qCX (j:=j) T.up;unfold B46;dsimp only;by_cases hc:t.place[B8 t.place j]?=some j
 ·rw [if_pos (by rw [hc];simp)]
  exact .inr ⟨_,rfl,by rw [<- B47];exact A32 hc⟩
 ·rw [if_neg (by simpa using hc),hd,if_neg (by simp)]
  refine .inl ⟨rfl,fun hm=>hc ?_⟩;obtain ⟨i,hi,he⟩:=P5.mp hm;have hi':i<t.place.size:=by simpa using hi
  have he':t.place.getD i j=j:=by
   rw [C5,B7 hi'];simpa using he
  have h1:¬ i<B8 t.place j:=fun z=>by have:=b2 i z;lia
  have h2:B8 t.place j=i:=by
   apply B28 (T5 h1);apply T5;intro z;have:=b3 (B8 t.place j) (A6 _) (by lia)
   have:=qQT j T.up _ _ z hi'
   lia
  rw [h2,B7 hi'];simpa using he
theorem TabG.run (T:TabG byText t n) (h:Int) (i pt:Nat):∀ (more j f:Nat),(∃ j',D9 t (fun _=>h+1) h (more+1+f) { j:=j,more:=more,i:=i,perturb:=pt,dummy:=none }=some (.empty j' none)/\j' ∉ t.place.toList/\j'<=j+more)\/
  (D9 t (fun _=>h+1) h (more+1+f) { j:=j,more:=more,i:=i,perturb:=pt,dummy:=none }=D9 t (fun _=>h+1) h f (qI1 t.mask ((i * 5+1+pt / 32) % (t.mask+1)) (pt / 32))/\j ∈ t.place.toList):=by
 intro more
 induction more with
 | zero=>
  intro j f;rw [A33,x4 1 f];rcases T.slot j with ⟨e,m⟩ | ⟨k,e,m⟩
  ·left
   refine ⟨j,?_,m,A6 _⟩;unfold D9;dsimp only;rw [e]
  ·right
   refine ⟨?_,m⟩;rw [D9];dsimp only;rw [e];dsimp only;rw [if_neg (by simp;lia)]
   rfl
 | succ more ih=>
  intro j f;rw [show more+1+1+f=more+1+f+1 by lia]
  rcases T.slot j with ⟨e,m⟩ | ⟨k,e,m⟩
  ·left
   refine ⟨j,?_,m,A16 _ _⟩;unfold D9;dsimp only;rw [e]
  ·have st:D9 t (fun _=>h+1) h (more+1+f+1) { j:=j,more:=more+1,i:=i,perturb:=pt,dummy:=none }=D9 t (fun _=>h+1) h (more+1+f) { j:=j+1,more:=more,i:=i,perturb:=pt,dummy:=none }:=by
    rw [D9];dsimp only;rw [e];dsimp only;rw [if_neg (by simp;lia)]
    unfold B10;dsimp only;rw [if_pos (by lia)]
    rfl
   rw [st];rcases ih (j+1) f with ⟨j',e1,e2,e3⟩ | ⟨e1,_⟩
   ·exact .inl ⟨j',e1,e2,by lia⟩
   ·exact .inr ⟨e1,m⟩
theorem TabG.leap (T:TabG byText t n) (h:Int) (i pt F:Nat) (hi:i<=t.mask) (hF:10<=F):(∃ j',D9 t (fun _=>h+1) h F (qI1 t.mask i pt)=some (.empty j' none)/\j' ∉ t.place.toList/\j'<=t.mask)\/
  (∃ F',F<=F'+10/\D9 t (fun _=>h+1) h F (qI1 t.mask i pt)=D9 t (fun _=>h+1) h F' (qI1 t.mask ((i * 5+1+pt / 32) % (t.mask+1)) (pt / 32))/\i ∈ t.place.toList):=by
 obtain ⟨r1,r2,r3⟩:=qLR hi;have e:F=(L6 t.mask i - i)+1+(F - 1 - (L6 t.mask i - i)):=by lia
 rcases T.run h i pt (L6 t.mask i - i) i (F - 1 - (L6 t.mask i - i)) with ⟨j',e1,e2,e3⟩ | ⟨e1,e2⟩
 ·refine .inl ⟨j',?_,e2,by lia⟩
  rw [e];exact e1
 ·refine .inr ⟨F - 1 - (L6 t.mask i - i),by lia,?_,e2⟩
  conv=>lhs;rw [e]
  exact e1
theorem TabG.go0 (T:TabG byText t n) (h:Int):∀ (m q i F:Nat),i<=t.mask->10 * m<=F->(∃ j',D9 t (fun _=>h+1) h F (qI1 t.mask (it5 i q % (t.mask+1)) 0)=some (.empty j' none)/\j' ∉ t.place.toList/\j'<=t.mask)\/(∀ c,c<m->it5 i (q+c) % (t.mask+1) ∈ t.place.toList)
 | 0,q,i,F,hi,hF=>.inr fun c hc=>absurd hc (by lia)
 | m+1,q,i,F,hi,hF=>by
  have lt:it5 i q % (t.mask+1)<t.mask+1:=X1 _ (by lia)
  rcases T.leap h (it5 i q % (t.mask+1)) 0 F (by lia) (by lia) with ok | ⟨F',hF',e,z⟩
  ·exact .inl ok
  ·have e2:((it5 i q % (t.mask+1)) * 5+1+0 / 32) % (t.mask+1)=it5 i (q+1) % (t.mask+1):=by
    rw [qOX,A37,A38,X4,A62,A63,Nat.mod_mod,<- A63,<- A62]
   rw [e2,A37] at e;rw [e];rcases T.go0 h m (q+1) i F' hi (by lia) with ok | all
   ·exact .inl ok
   ·refine .inr fun c hc=>?_;cases c with
    | zero=>exact z
    | succ c=>
     have:=all c (by lia)
     rw [show q+(c+1)=q+1+c by lia]
     exact this
theorem TabG.goK (T:TabG byText t n) (hn:n<=t.mask) (h:Int):∀ (k i pt F:Nat),i<=t.mask->pt<32 ^ k->10 * (k+(t.mask+1))<=F->∃ j',D9 t (fun _=>h+1) h F (qI1 t.mask i pt)=some (.empty j' none)/\j' ∉ t.place.toList/\j'<=t.mask
 | 0,i,pt,F,hi,hp,hF=>by
  have e:pt=0:=by lia
  subst e;have e0:it5 i 0 % (t.mask+1)=i:=by
   unfold it5 g5;rw [Nat.pow_zero,B30,A38,B16 (by lia)]
  have q:=T.go0 h (t.mask+1) 0 i F hi (by lia)
  rw [e0] at q;rcases q with ok | all
  ·exact ok
  ·exfalso
   obtain ⟨k,_,hk⟩:=T.pow;have sub:E6 (t.mask+1) ⊆ t.place.toList:=fun j hj=>by
    have hj':=D6.mp hj;rw [hk] at hj';obtain ⟨m,hm,e⟩:=qS6 (i:=i) hj';rw [<- hk] at hm e;have:=all m hm;rw [A33,e] at this;exact this
   have:=O5 n0 sub;have hs:=T.size;simp at this
   lia
 | k+1,i,pt,F,hi,hp,hF=>by
  rcases T.leap h i pt F hi (by lia) with ok | ⟨F',hF',e,z⟩
  ·exact ok
  ·rw [e];have lt:(i * 5+1+pt / 32) % (t.mask+1)<t.mask+1:=X1 _ (by lia)
   refine T.goK hn h k _ _ F' (by lia) ?_ (by lia)
   rw [R3] at hp
   lia
theorem qTL (h:Int):F4 h<32 ^ 13:=by
 unfold F4;have h1:0<=h % (2 ^ 64:Int):=R7 _ (by decide)
 have h2:h % (2 ^ 64:Int)<2 ^ 64:=P3 _ (by decide)
 have:((2:Int) ^ 64)=18446744073709551616:=by decide
 rw [this] at h1 h2 ⊢;have h3:(32:Nat) ^ 13=36893488147419103232:=by decide
 lia
theorem TabG.free (T:TabG byText t n) (hn:n<=t.mask) (h:Int):∃ j,t.freeSlot h=some (j,false)/\j ∉ t.place.toList/\j<=t.mask:=by
 have lt:F4 h % (t.mask+1)<t.mask+1:=X1 _ (by lia)
 obtain ⟨j,e,z,l⟩:=T.goK hn h 13 (F4 h % (t.mask+1)) (F4 h) (10 * R4 t.mask) (by lia) (qTL h) (by unfold R4;lia)
 refine ⟨j,?_,z,l⟩;unfold A90 B36;have hst:t.probeStart h=qI1 t.mask (F4 h % (t.mask+1)) (F4 h):=rfl;rw [hst,e]
 rfl
theorem TabG.lay (T:TabG byText t n) (hn:n<t.mask) {es:Array (Int × Value)} (he:es.size=n) (h:Int) (x:Value) :
  ∃ p t',layNew t es h x=(C4 es p (h,x),t',false,false)/\TabG byText t' (n+1)/\t'.mask=t.mask/\p<=es.size:=by
 obtain ⟨j,e,z,l⟩:=T.free (by lia) h
 obtain ⟨b1,b2,b3⟩:=qCX (j:=j) T.up;have hd:A31 t.dummies j=false:=by rw [T.dum];rfl
 have tl:(C4 t.place (B8 t.place j) j).toList=t.place.toList.take (B8 t.place j)++j::t.place.toList.drop (B8 t.place j):=qB5 _ _ _;have sz:(C4 t.place (B8 t.place j) j).size=n+1:=by
  rw [<- B2,tl,A7,D5,B9,F1,B2,T.size];rw [T.size] at b1
  lia
 have T':TabG byText { t with place:=C4 t.place (B8 t.place j) j,dummies:=t.dummies } (n+1):=by
  refine ⟨T.pow,T.dum,T.plain,T.led,sz,?_,?_⟩
  ·show (C4 t.place (B8 t.place j) j).toList.Pairwise (·<·);rw [tl];have lo:∀ a ∈ t.place.toList.take (B8 t.place j),a<j:=fun a ha=>by
    obtain ⟨i,hi,hai⟩:=P5.mp ha;rw [B9,B2] at hi;have hi2:i<t.place.size:=by lia
    have:=b2 i (by lia)
    rw [C5,B7 hi2] at this;rw [A91] at hai;rw [<- hai];simpa using this
   have hi:∀ a ∈ t.place.toList.drop (B8 t.place j),j<a:=fun a ha=>by
    have hm:a ∈ t.place.toList:=Q8 ha;obtain ⟨i,hi,hai⟩:=P5.mp ha;rw [F1,B2] at hi;have hi2:B8 t.place j+i<t.place.size:=by lia
    have:=b3 _ (A16 _ i) hi2;rw [C5,B7 hi2] at this;rw [A92] at hai;have h3:j<=a:=by
     rw [<- hai];simpa using this
    rcases A74 h3 with h4 | h4
    ·exact h4
    ·exact absurd (h4 ▸ hm) z
   refine c5.mpr ⟨T.up.sublist (b0 _ _),O6.mpr ⟨hi,T.up.sublist (A00 _ _)⟩,fun a ha b hb=>?_⟩;rcases B6.mp hb with e | hb
   ·rw [e];exact lo a ha
   ·exact R1 (lo a ha) (hi b hb)
  ·show ∀ i ∈ (C4 t.place (B8 t.place j) j).toList,i<=t.mask;rw [tl];intro i hi;rcases B1.mp hi with hi | hi
   ·exact T.le i (W3 hi)
   ·rcases B6.mp hi with e | hi
    ·lia
    ·exact T.le i (Q8 hi)
 have fits:X7 { t with place:=C4 t.place (B8 t.place j) j,dummies:=t.dummies } (n+1)=true:=by
  unfold X7 b6;dsimp only;rw [sz,T.dum];have:((#[]:Array Nat)).size=0:=rfl;simp only [this,beq_self_eq_true,J5,decide_eq_true_eq]
  lia
 have szE:(C4 es (B8 t.place j) (h,x)).size=n+1:=by
  rw [<- B2,qB5,A7,D5,B9,F1,B2];rw [T.size] at b1
  lia
 refine ⟨B8 t.place j,{ t with place:=C4 t.place (B8 t.place j) j,dummies:=t.dummies },?_,T',rfl,by rw [he,<- T.size];exact b1⟩
 unfold layNew;rw [e];dsimp only;unfold B53;rw [hd];dsimp only;rw [szE];unfold A75;simp only [E9,if_false];rw [fits];simp
end
end L2
namespace L2
open PySem PySem.Spec PyProof.Rows
theorem qRJ {α:Type}:∀ {l m:List α},l.Nodup->m.Nodup->(∀ x,x ∈ l ↔ x ∈ m)->l.Perm m
 | [],[],_,_,_=>.refl _
 | [],y::m,_,_,h=>absurd ((h y).mpr C9) (by simp)
 | x::l,m,hl,hm,h=>by
  obtain ⟨s,t,rfl⟩:=List.append_of_mem ((h x).mp C9);have l1:=Q3.mp hl;have m1:(x::(s++t)).Nodup:=(A18.nodup_iff).mp hm;have m2:=Q3.mp m1;refine ((qRJ l1.2 m2.2 fun y=>?_).cons x).trans A18.symm;have key:=h y;rw [B6,A18.mem_iff,B6] at key
  constructor
  ·intro hy;rcases key.mp (.inr hy) with e | e
   ·exact absurd (e ▸ hy) l1.1
   ·exact e
  ·intro hy;rcases key.mpr (.inr hy) with e | e
   ·exact absurd (e ▸ hy) m2.1
   ·exact e
theorem qGY:∀ (fuel k n:Nat),3<=k->n<2 ^ k * 2 ^ fuel->∃ k',3<=k'/\A39 n fuel (2 ^ k)=2 ^ k'/\n<2 ^ k'
 | 0,k,n,hk,h=>⟨k,hk,rfl,by simpa using h⟩
 | fuel+1,k,n,hk,h=>by
  rw [A39];by_cases c:2 ^ k<=n
  ·rw [if_pos c,<- R3];exact qGY fuel (k+1) n (by lia) (by rw [R3,Y1,<- Nat.pow_succ'];exact h)
  ·rw [if_neg c];exact ⟨k,hk,rfl,by lia⟩
theorem qLK {n:Nat} (h:n<=1000000):∃ k,3<=k/\i7 n=2 ^ k/\n<2 ^ k:=by
 unfold i7;exact qGY 64 3 n (A6 _) (T9 h (by decide))
section
variable {mask:Nat} {owner:Array (Option Nat)}
theorem qZJ (i pt F:Nat) (hi:i<=mask):(∃ j,J2 mask owner (F+1) i pt=some j/\owner.getD j (some 0)=none/\j<=mask)\/
  (J2 mask owner (F+1) i pt=J2 mask owner F ((i * 5+1+pt / 32) % (mask+1)) (pt / 32)/\owner.getD i (some 0) ≠ none):=by
 obtain ⟨r1,r2,r3⟩:=qLR hi;cases e:(E6 (L6 mask i+1 - i)).find? fun k=>(owner.getD (i+k) (some 0)).isNone with
 | some k=>
  left
  have h1:=List.find?_some e;have h2:=D6.mp (List.mem_of_find?_eq_some e);refine ⟨i+k,?_,by simpa using h1,by lia⟩
  rw [J2,e]
 | none=>
  right
  refine ⟨?_,?_⟩
  ·rw [J2,e]
   rfl
  ·have:=List.find?_eq_none.mp e 0 (D6.mpr (by lia))
   simpa using this
theorem qZK:∀ (m q i F:Nat),i<=mask->m<=F->(∃ j,J2 mask owner F (it5 i q % (mask+1)) 0=some j/\owner.getD j (some 0)=none/\j<=mask)\/(∀ c,c<m->owner.getD (it5 i (q+c) % (mask+1)) (some 0) ≠ none)
 | 0,q,i,F,hi,hF=>.inr fun c hc=>absurd hc (by lia)
 | m+1,q,i,F,hi,hF=>by
  have lt:it5 i q % (mask+1)<mask+1:=X1 _ (by lia)
  obtain ⟨F',rfl⟩:∃ F',F=F'+1:=⟨F - 1,by lia⟩
  rcases qZJ (mask:=mask) (owner:=owner) (it5 i q % (mask+1)) 0 F' (by lia) with ok | ⟨e,z⟩
  ·exact .inl ok
  ·have e2:((it5 i q % (mask+1)) * 5+1+0 / 32) % (mask+1)=it5 i (q+1) % (mask+1):=by
    rw [qOX,A37,A38,X4,A62,A63,Nat.mod_mod,<- A63,<- A62]
   rw [e2,A37] at e;rw [e];rcases qZK m (q+1) i F' hi (by lia) with ok | all
   ·exact .inl ok
   ·refine .inr fun c hc=>?_;cases c with
    | zero=>exact z
    | succ c=>
     have:=all c (by lia)
     rw [show q+(c+1)=q+1+c by lia]
     exact this
theorem qZI {p:Nat} (hp:mask+1=2 ^ p) {j0:Nat} (h0:j0<=mask) (hj0:owner.getD j0 (some 0)=none):∀ (k i pt F:Nat),i<=mask->pt<32 ^ k->k+(mask+1)<=F->∃ j,J2 mask owner F i pt=some j/\owner.getD j (some 0)=none/\j<=mask
 | 0,i,pt,F,hi,hpt,hF=>by
  have e:pt=0:=by lia
  subst e;have e0:it5 i 0 % (mask+1)=i:=by
   unfold it5 g5;rw [Nat.pow_zero,B30,A38,B16 (by lia)]
  have q:=qZK (mask:=mask) (owner:=owner) (mask+1) 0 i F hi (by lia)
  rw [e0] at q;rcases q with ok | all
  ·exact ok
  ·exfalso
   obtain ⟨m,hm,e⟩:=qS6 (k:=p) (i:=i) (j:=j0) (by lia)
   rw [<- hp] at hm e;have:=all m hm;rw [A33,e] at this;exact this hj0
 | k+1,i,pt,F,hi,hpt,hF=>by
  obtain ⟨F',rfl⟩:∃ F',F=F'+1:=⟨F - 1,by lia⟩
  rcases qZJ (mask:=mask) (owner:=owner) i pt F' hi with ok | ⟨e,z⟩
  ·exact ok
  ·rw [e];have lt:(i * 5+1+pt / 32) % (mask+1)<mask+1:=X1 _ (by lia)
   refine qZI hp h0 hj0 k _ _ F' (by lia) ?_ (by lia)
   rw [R3] at hpt
   lia
end
structure Own (N:Nat) (L:List Nat) (owner:Array (Option Nat)):Prop where
 size:owner.size=N
 nd:L.Nodup
 lt:∀ j ∈ L,j<N
 at_:∀ (m j:Nat),L[m]?=some j->owner[j]?=some (some m)
 no:∀ j,j<N->j ∉ L->owner[j]?=some none
theorem Own.put {N:Nat} {L:List Nat} {owner:Array (Option Nat)} (o:Own N L owner) {j:Nat} (hj:j<N) (hn:j ∉ L):Own N (L++[j]) (owner.setIfInBounds j (some L.length)):=by
 refine ⟨by simp [o.size],qI4 o.nd hn,fun i hi=>?_,fun m i h=>?_,fun i hi hni=>?_⟩
 ·rcases B1.mp hi with hi | hi
  ·exact o.lt i hi
  ·rw [A8.mp hi];exact hj
 ·by_cases c:m<L.length
  ·rw [O9 c] at h;have ne:j ≠ i:=fun z=>hn (z ▸ C3 h);rw [k9 ne];exact o.at_ m i h
  ·rw [T0 (by lia)] at h
   have hm:m=L.length:=by
    have:=(A5.mp h).1;simp at this
    lia
   subst hm;rw [B02] at h;cases h;rw [Array.getElem?_setIfInBounds_self_of_lt (by rw [o.size];exact hj)]
 ·have ne:j ≠ i:=fun z=>hni (B1.mpr (.inr (by rw [z];exact A8.mpr rfl)))
  rw [k9 ne];exact o.no i hi fun z=>hni (B1.mpr (.inl z))
theorem qOO {mask p:Nat} (hp:mask+1=2 ^ p):∀ (hs:List Int) (L:List Nat) (owner:Array (Option Nat)),Own (mask+1) L owner->L.length+hs.length<=mask->
  ∃ L' owner',hs.foldl (fun (acc:Option (Array (Option Nat) × Nat)) (h:Int)=>acc >>= fun x=>J2 mask x.1 (R4 mask) (F4 h % (mask+1)) (F4 h) >>= fun j=>some (x.1.setIfInBounds j (some x.2),x.2+1)) (some (owner,L.length))=some (owner',L'.length)/\Own (mask+1) L' owner'/\L'.length=L.length+hs.length
 | [],L,owner,o,_=>⟨L,owner,rfl,o,by simp⟩
 | h::hs,L,owner,o,hl=>by
  rw [D5] at hl;obtain ⟨j0,hj0,hjn⟩:∃ j0,j0<mask+1/\j0 ∉ L:=by
   apply P1;intro no;have sub:E6 (mask+1) ⊆ L:=fun j hj=>P1 fun z=>no ⟨j,D6.mp hj,z⟩;have:=O5 n0 sub;simp at this
   lia
  have g0:owner.getD j0 (some 0)=none:=by
   rw [C5,o.no j0 hj0 hjn]
   rfl
  have lt:F4 h % (mask+1)<mask+1:=X1 _ (by lia)
  obtain ⟨j,e,z,l⟩:=qZI hp (by lia) g0 13 (F4 h % (mask+1)) (F4 h) (R4 mask) (by lia) (qTL h) (by unfold R4;lia)
  have jn:j ∉ L:=fun hm=>by
   obtain ⟨m,hm⟩:=W4 hm;rw [C5,o.at_ m j hm] at z;cases z
  have st:=o.put (show j<mask+1 by lia) jn
  obtain ⟨L',owner',e1,o',e2⟩:=qOO hp hs (L++[j]) _ st (by rw [A7,B4];lia)
  refine ⟨L',owner',?_,o',by rw [e2,A7,B4,D5];lia⟩
  rw [W8];have e3:((some (owner,L.length):Option (Array (Option Nat) × Nat)) >>= fun x=>J2 mask x.1 (R4 mask) (F4 h % (mask+1)) (F4 h) >>= fun j=>some (x.1.setIfInBounds j (some x.2),x.2+1))=some (owner.setIfInBounds j (some L.length),(L++[j]).length):=by
   show (J2 mask owner (R4 mask) (F4 h % (mask+1)) (F4 h) >>= _)=_;rw [e,A7,B4]
   rfl
  rw [e3];exact e1
theorem qX7 (N:Nat):Own N [] (B31 N none):=⟨by simp,.nil,fun _ h=>(nomatch h),fun m j h=>by simp at h,fun j hj _=>by simp [hj]⟩
theorem qNG {mask p:Nat} (hp:mask+1=2 ^ p) (hashes:Array Int) (hl:hashes.size<=mask):∃ L owner,A99 mask hashes=some owner/\Own (mask+1) L owner/\L.length=hashes.size:=by
 obtain ⟨L,owner,e,o,l⟩:=qOO hp hashes.toList [] _ (qX7 (mask+1)) (by simpa using hl)
 refine ⟨L,owner,?_,o,by simpa using l⟩
 unfold A99;rw [<- Array.foldl_toList];have:(hashes.toList.foldl (fun (acc:Option (Array (Option Nat) × Nat)) (h:Int)=>do
   let (owner,k) <- acc
   let j <- J2 mask owner (R4 mask) (F4 h % (mask+1)) (F4 h)
   pure (owner.setIfInBounds j (some k),k+1)) (some (B31 (mask+1) none,0)))=some (owner,L.length):=e
 rw [this]
 rfl
theorem qLS {α:Type}:∀ l:List α,(E6 l.length).filterMap (fun i=>l[i]?)=l
 | []=>rfl
 | a::l=>by
  rw [D5,A23,R5];show a::((E6 l.length).map Nat.succ).filterMap (fun i=>(a::l)[i]?)=a::l;rw [A72];congr 1;exact qLS l
theorem qUB {b:Bool × Bool} {t:SetTable} {n:Nat} (T:TabG b t n) {es:Array (Int × Value)} (he:es.size=n) {wanted:Nat} (hw:wanted<=1000000) (hn:n<wanted) :
  ∃ es' t',relayAll t es wanted=(es',t',false)/\es'.toList.Perm es.toList/\TabG b t' n/\wanted<=t'.mask:=by
 obtain ⟨k,k3,hk,hlt⟩:=qLK hw;have hmk:i7 wanted - 1+1=2 ^ k:=by rw [hk];have:=A36 k;lia
 have h8:8<=2 ^ k:=by
  have:=W5 (n:=2) (by decide) k3
  exact this
 obtain ⟨L,owner,e,o,l⟩:=qNG hmk (es.map (·.1)) (by rw [A56,he,hk];lia)
 rw [A56,he] at l;generalize hM:i7 wanted - 1=M at *;have fa:∀ j m,(owner.getD j none).map (fun x=>(j,x))=some (j,m) ↔ L[m]?=some j:=by
  intro j m;rw [C5];by_cases hj:j<M+1
  ·by_cases hjL:j ∈ L
   ·obtain ⟨m',hm'⟩:=W4 hjL;rw [o.at_ m' j hm']
    constructor
    ·intro z;have:m'=m:=by simpa using z
     rw [<- this];exact hm'
    ·intro z;have:some (some m')=some (some m):=(o.at_ m' j hm').symm.trans (o.at_ m j z);cases this
     rfl
   ·rw [o.no j hj hjL]
    constructor
    ·intro z;simp at z
    ·intro z;exact absurd (C3 z) hjL
  ·rw [A25 (by rw [o.size];lia)]
   constructor
   ·intro z;simp at z
   ·intro z;exact absurd (o.lt j (C3 z)) hj
 have sh:∀ j x,x ∈ ((owner.getD j none).map fun y=>(j,y))->x.1=j/\L[x.2]?=some j:=by
  intro j x hx;have hx':(owner.getD j none).map (fun y=>(j,y))=some x:=hx;obtain ⟨y,hy,e⟩:=j6.mp hx';subst e;exact ⟨rfl,(fa j y).mp hx'⟩
 generalize hlive:(E6 (M+1)).filterMap (fun j=>(owner.getD j none).map (fun x=>(j,x)))=live;have p1:live.Pairwise fun a c=>a.1<c.1:=by
  rw [<- hlive,i8];refine Z1.imp fun {a c} hac x hx y hy=>?_;rw [(sh a x hx).1,(sh c y hy).1];exact hac
 have p2:live.Pairwise fun a c=>a.2 ≠ c.2:=by
  rw [<- hlive,i8];refine Z1.imp fun {a c} hac x hx y hy z=>?_;have h1:=(sh a x hx).2;have h2:=(sh c y hy).2;rw [z,h2] at h1;cases h1
  lia
 have mem:∀ m,m ∈ live.map (·.2) ↔ m ∈ E6 n:=by
  intro m;rw [D7,D6]
  constructor
  ·rintro ⟨x,hx,rfl⟩;rw [<- hlive] at hx;obtain ⟨j,_,hj⟩:=Q5.mp hx;have:=(A5.mp (sh j x hj).2).1
   lia
  ·intro hm;have hm':m<L.length:=by lia
   have hL:=A3 hm';refine ⟨(L[m],m),?_,rfl⟩;rw [<- hlive];exact Q5.mpr ⟨L[m],D6.mpr (o.lt _ (d8 hm')),(fa L[m] m).mpr hL⟩
 have pm:(live.map (·.2)).Perm (E6 n):=qRJ (by rw [w5,b9];exact p2) n0 mem
 have ll:live.length=n:=by have:=pm.length_eq;simpa using this
 have es':((live.map (·.2)).toArray.filterMap (fun i=>es[i]?)).toList.Perm es.toList:=by
  rw [Array.toList_filterMap];have:=pm.filterMap (fun i=>es[i]?);have e2:(E6 n).filterMap (fun i=>es[i]?)=es.toList:=by
   have:=qLS es.toList;rw [B2,he] at this;simpa using this
  rw [e2] at this;simpa using this
 have szE:((live.map (·.2)).toArray.filterMap (fun i=>es[i]?)).size=n:=by
  rw [<- B2,es'.length_eq,B2,he]
 refine ⟨(live.map (·.2)).toArray.filterMap (fun i=>es[i]?),{ mask:=M,place:=(live.map (·.1)).toArray,dummies:=#[],finger:=t.finger,led:=t.led,moves:=t.movedTo M,plain:=t.plain },?_,es',⟨⟨k,k3,hmk⟩,rfl,T.plain,T.led,by simp [ll],?_,?_⟩,?_⟩
 ·have er:t.relaid (es.map (·.1)) wanted=some ({ mask:=M,place:=(live.map (·.1)).toArray,dummies:=#[],finger:=t.finger,led:=t.led,moves:=t.movedTo M,plain:=t.plain },(live.map (·.2)).toArray):=by
   unfold SetTable.relaid SetTable.laid;rw [hM,e];show some _=some _;rw [<- hlive]
  unfold relayAll;rw [er];dsimp only;have c1:coversAll (live.map (·.2)).toArray es.size=true:=by
   unfold coversAll;rw [he];exact List.isPerm_iff.mpr pm
  have c2:X7 { mask:=M,place:=(live.map (·.1)).toArray,dummies:=#[],finger:=t.finger,led:=t.led,moves:=t.movedTo M,plain:=t.plain } ((live.map (·.2)).toArray.filterMap (fun i=>es[i]?)).size=true:=by
   unfold X7 b6;rw [szE];simp [ll]
   lia
  rw [c1,c2]
  rfl
 ·show (live.map (·.1)).toArray.toList.Pairwise (·<·);rw [A64,b9];exact p1
 ·show ∀ j ∈ (live.map (·.1)).toArray.toList,j<=M;intro j hj;rw [A64] at hj;obtain ⟨x,hx,rfl⟩:=D7.mp hj;rw [<- hlive] at hx;obtain ⟨i,hi,hx⟩:=Q5.mp hx;rw [(sh i x hx).1];have:=D6.mp hi
  lia
 ·show wanted<=M
  lia
end L2
namespace L2
open PySem PySem.Spec PyProof.Rows
def SetG (w:World) (a:Addr) (zs:List Int) (h:Heap):Prop:=
 ∃ (es:Array (Int × Value)) (ep:Nat) (t:SetTable) (ks:List Int),h.get? a=some { cls:=.type "set",data:=.set es ep t }/\TabG (byT w,true) t es.size/\Ents ks es.toList/\ks.Perm zs/\zs.Nodup/\zs.length<4095/\es.size * 5<t.mask * 3
theorem SetG.at {w:World} {a:Addr} {zs:List Int} {h h':Heap} (x:SetG w a zs h) (k:∀ o,h.get? a=some o->h'.get? a=some o):SetG w a zs h':=
 let ⟨es,ep,t,ks,h1,r⟩:=x;⟨es,ep,t,ks,k _ h1,r⟩
theorem TabG.fits {b:Bool × Bool} {t:SetTable} {n:Nat} (T:TabG b t n) (hn:n<=t.mask):t.fits n=true:=by
 unfold X7 b6;rw [T.size,T.dum];have:((#[]:Array Nat)).size=0:=rfl;simp only [this,beq_self_eq_true,J5,decide_eq_true_eq]
 lia
theorem TabG.mask7 {b:Bool × Bool} {t:SetTable} {n:Nat} (T:TabG b t n):7<=t.mask:=by
 obtain ⟨k,k3,hk⟩:=T.pow;have:=W5 (n:=2) (by decide) k3
 lia
theorem insertAt_perm {es:Array (Int × Value)} {p:Nat} {x:Int × Value}:(C4 es p x).toList.Perm (es.toList++[x]):=by
 rw [qB5];have e3:es.toList++[x]=es.toList.take p++(es.toList.drop p++[x]):=by
  rw [<- j8,A34]
 rw [e3];exact l9 _ (u8 _ _).symm
section
variable {prog:Program} {w:World} {A:Around} {E:Value->Shared->Prop} {s:Shared}
theorem qVW {a:Addr} {es es':Array (Int × Value)} {ep:Nat} {t t':SetTable} {h:Heap} (ho:h.get? a=some { cls:=.type "set",data:=.set es ep t }) :
  (h.update a (A94 es' t')).get? a=some { cls:=.type "set",data:=.set es' (ep+1) t' }:=by
 have:=L5 (A94 es' t') ho (by rw [putSet_of _ _ (ep:=ep) (es:=es) (t:=t) rfl];rfl)
 rw [putSet_of _ _ (ep:=ep) (es:=es) (t:=t) rfl] at this;exact this
theorem qU7 {a:Addr} {zs:List Int} {k:Int} {tk:Tok} {Q:Bool->Shared->Prop} (hS:SetG w a zs s.heap) (hroom:zs.length<4094)
  (h:∀ h',Heap.SameBut a s.heap h'->SetG w a (addI zs k) h'->∀ b,Q b { s with heap:=h' }):wpAny (model prog w) A (setAddHashed a (.int k tk) (hashInt k)) Q E s:=by
 obtain ⟨es,ep,t,ks,ho,T,he,hp,hnd,hlen,hroom2⟩:=id hS;have hsz:es.size=zs.length:=SetI.size (a:=a) (h:=s.heap) he hp;have hel:ElemsOf (intKind prog w) es.toList:=he.elems;have h7:=T.mask7;have hb:es.size<scanBound:=by rw [hsz];unfold scanBound;lia
 have hf:t.fits es.size=true:=T.fits (by lia)
 unfold setAddHashed setAddHashedIn;refine wpAny_holding (wpAny_bind (wpAny_setState_of ho rfl hf ?_));dsimp only;rw [byScan_of (knd:=intKind prog w) (x:=.int k tk) rfl hb hel];simp only [↓reduceIte];unfold setAddByScan;refine wpAny_bind ?_;refine wpAny_bind (wpAny_rule ?_);refine wpAny_bind (wpAny_setScan_of (knd:=intKind prog w) (k:=k) (intKind_is _ _ _ _) ho rfl hf hel ?_);have hfd:=Ents.find (prog:=prog) (w:=w) (k:=k) he;cases hr:A76 (fun e=>(intKind prog w).is k e.2) es.toList with
 | some j=>
  dsimp only;rw [hr] at hfd;have hk:k ∈ zs:=hp.mem_iff.mp (hfd.mp rfl);refine wpAny_pure (wpAny_pure ?_);have e:s={ s with heap:=s.heap }:=by cases s;rfl
  rw [e];refine h s.heap (A93 a s.heap) ?_ _;unfold addI;rw [if_pos hk];exact hS
 | none=>
  dsimp only;rw [hr] at hfd;have hk:¬ k ∈ zs:=fun z=>by have:=hfd.mpr (hp.mem_iff.mpr z);cases this
  obtain ⟨p,t',e1,T',tm,hpe⟩:=T.lay (by lia) rfl (hashInt k) (.int k tk)
  rw [e1];dsimp only;refine wpAny_bind (wpAny_pure ?_);rw [show t'.plain=true from T'.plain];simp only [↓reduceIte];rw [hashByValue_scannable 8 (x:=.int k tk) rfl];refine wpAny_bind (wpAny_pure ?_);have hszE:(C4 es p (hashInt k,Q2 k tk)).size=es.size+1:=by
   rw [<- B2,insertAt_perm.length_eq,A7,B2]
   rfl
  rw [show plainKind (Q2 k tk)=true from rfl];simp only [↓reduceIte];show wpAny _ _ (storeSet a (C4 es p (hashInt k,.int k tk)) t' >>= _) _ _ _;refine wpAny_bind (wpAny_storeSet_of ho rfl ?_ (by rw [hszE,hsz,sizeLine_eq];lia))
  have fin:∀ (es2:Array (Int × Value)) (ep2:Nat) (t2:SetTable) (h2:Heap),h2.get? a=some { cls:=.type "set",data:=.set es2 ep2 t2 }->es2.toList.Perm (C4 es p (hashInt k,Q2 k tk)).toList->TabG (byT w,true) t2 (es.size+1)->(es.size+1) * 5<t2.mask * 3->SetG w a (addI zs k) h2:=by
   intro es2 ep2 t2 h2 g2 pm T2 full;obtain ⟨ks',h4,h5⟩:=Ents.perm (ks:=ks++[k]) (Z8 he ⟨tk,rfl⟩) (pm.trans insertAt_perm);have hs2:es2.size=es.size+1:=by rw [<- hszE,<- B2,pm.length_eq,B2]
   refine ⟨es2,ep2,t2,ks',g2,by rw [hs2];exact T2,h4,?_,?_,?_,by rw [hs2];exact full⟩
   ·unfold addI;rw [if_neg hk];exact h5.trans (hp.append_right _)
   ·unfold addI;rw [if_neg hk];exact qI4 hnd hk
   ·unfold addI;rw [if_neg hk,A7,B4]
    lia
  have hg:=qVW (es':=C4 es p (hashInt k,.int k tk)) (t':=t') ho;have fill:t'.fill=es.size+1:=by
   unfold b6;rw [T'.size,T'.dum]
   rfl
  cases tf:t'.tooFull with
  | false=>
   simp only [Q1,E9,↓reduceIte];refine wpAny_pure (wpAny_pure ?_);refine h _ (M8 s.heap a _) (fin _ _ _ _ hg (.refl _) T' ?_) _;unfold B11 at tf;rw [fill] at tf;have:=of_decide_eq_false tf
   lia
  | true=>
   simp only [l7,A81,↓reduceIte];rw [hszE];have gr:A57 (es.size+1)=(es.size+1) * 4:=by
    unfold A57;rw [if_neg (by lia)]
   obtain ⟨es2,t2,e2,p2,T2,m2⟩:=qUB T' hszE (wanted:=A57 (es.size+1)) (by rw [gr];lia) (by rw [gr];lia)
   rw [gr] at m2;rw [e2];dsimp only;refine wpAny_bind (wpAny_pure ?_);refine wpAny_bind (wpAny_storeSet_of hg rfl ?_ (by rw [<- B2,p2.length_eq,B2,hszE,hsz,sizeLine_eq];lia))
   refine wpAny_pure (wpAny_pure ?_);exact h _ ((M8 s.heap a _).trans (M8 _ a _)) (fin _ _ _ _ (qVW hg) p2 T2 (by lia)) _
end
section
variable {prog:Program} {w:World} {A:Around} {R:Result->Shared->Prop} {I:Addr} {fp wr:List Addr} {G:Array GenState->Array GenState->Prop} {n:Nat} {P:Nat->Value->Prop} {St:Nat->Shared->Prop}
theorem qLM (W:WalksS prog w A.in1 I fp wr G n P St) (S:Addr) (hSf:S ∉ fp) (ns:List Int) (hnn:ns.length=n) (h4:n<=4000) (hval:∀ i v,P i v->∃ t,v=.int (ns.getD i 0) t) :
  ∀ (k i:Nat) (s:Shared),n - i=k->i<=n->St i s->SetG w S (dedI (ns.take i)) s.heap->
   (∀ s',Moved (S::wr) G s s'->SetG w S (dedI ns) s'.heap->R (.ok (.ret .none)) s')->
   codeAny (model prog w) A (.builtin "set.update.loop" ⟨[.ref S,.ref I],[]⟩) R s:=by
 have hSw:S ∉ wr:=fun h=>hSf (W.sub _ h);have hsub:∀ b ∈ wr,b ∈ S::wr:=fun b hb=>D4 _ hb;intro k
 induction k with
 | zero=>
  intro i s hk hi hst hS hR;have hin:i=n:=by lia
  subst hin;refine codeAny_builtin F.entry_set_update_loop ?_;rw [J3 F.plain_set_update_loop _];show wpAny _ A.in1 (pyNext (.ref I) >>= _) _ _ s;refine wpAny_bind (W.done s _ _ hst fun s' hm=>?_);show wpAny _ A.in1 (ret L7) _ _ s';rw [D3 (by lia)] at hS
  exact wpAny_pure (hR s' (hm.mono hsub) (hS.at fun o e=>hm.heap S _ hSw e))
 | succ k ih=>
  intro i s hk hi hst hS hR;have hlt:i<n:=by lia
  refine codeAny_builtin F.entry_set_update_loop ?_;rw [J3 F.plain_set_update_loop _];show wpAny _ A.in1 (pyNext (.ref I) >>= _) _ _ s;refine wpAny_bind (W.item i s _ _ hlt hst fun v s' hP hst' hm=>?_);obtain ⟨t,rfl⟩:=hval i v hP;have hS':SetG w S (dedI (ns.take i)) s'.heap:=hS.at fun o e=>hm.heap S _ hSw e;show wpAny _ A.in1 (holding [Q2 (ns.getD i 0) t] (setAdd S (.int (ns.getD i 0) t)) >>= _) _ _ s';refine wpAny_bind (wpAny_holding ?_);unfold setAdd;refine wpAny_holding ?_;refine wpAny_bind ((intKind prog w).pyHash (k:=ns.getD i 0) (intKind_is _ _ _ _) ?_);have hroom:(dedI (ns.take i)).length<4094:=by
   have:=qCJ (ns.take i) [];rw [B9] at this;unfold dedI;simp at this
   lia
  refine qU7 (s:={ s' with toks:=s'.toks+1 }) hS' hroom fun h' hsb hS2 b=>?_;have e2:addI (dedI (ns.take i)) (ns.getD i 0)=dedI (ns.take (i+1)):=by
   have hi':i<ns.length:=by lia
   rw [C7,A3 hi',C8];unfold dedI;rw [A01,W8,A54,O4,A3 hi',Y6]
  rw [e2] at hS2;refine wpAny_pure ⟨plainId_quiet F.plain_set_update_loop _,ih (i+1) _ (by lia) hlt (W.frame _ s' _ _ hst' (R8 _) fun b hb o e=>?_) hS2 fun s'' hm'' hS''=>?_⟩
  ·rw [hsb.2 b (fun h:b=S=>hSf (by rw [<- h];exact hb))];exact e
  ·refine hR s'' (Moved.trans W.gtrans ((hm.mono hsub).then_heap (R8 _) fun b o hb e=>?_) hm'') hS'';rw [hsb.2 b (fun h:b=S=>hb (by rw [h];exact C9))];exact e
end
section
variable {prog:Program} {w:World} {A:Around} {E:Value->Shared->Prop} {s:Shared}
theorem SetG.fresh {a:Addr} {h:Heap} (e:h.get? a=some (freshSet w)):SetG w a [] h:=
 ⟨#[],0,_,[],e,⟨⟨3,A6 _,rfl⟩,rfl,rfl,rfl,rfl,.nil,fun _ z=>nomatch z⟩,.nil,.refl _,.nil,by decide,by show 0 * 5<7 * 3;decide⟩
end
theorem TabG.below_at {b:Bool × Bool} {t:SetTable} {n:Nat} (T:TabG b t n) (i:Nat) (hi:i<=n):B8 t.place (if i=0 then 0 else t.place.getD (i - 1) 0+1)=i:=by
 obtain ⟨b1,b2,b3⟩:=qCX (j:=if i=0 then 0 else t.place.getD (i - 1) 0+1) T.up
 have hs:=T.size;have gd:∀ a c d,a<t.place.size->t.place.getD a c=t.place.getD a d:=fun a c d ha=>by
  rw [C5,C5,B7 ha]
  rfl
 by_cases h0:i=0
 ·rw [if_pos h0] at b1 b2 b3 ⊢;subst h0;apply A22;intro z;have:=b2 0 z
  lia
 ·rw [if_neg h0] at b1 b2 b3 ⊢;have h1:¬ B8 t.place (t.place.getD (i - 1) 0+1)<i:=fun z=>by
   have:=b3 (i - 1) (by lia) (by lia)
   rw [gd (i - 1) (t.place.getD (i - 1) 0+1) 0 (by lia)] at this
   lia
  have h2:¬ i<B8 t.place (t.place.getD (i - 1) 0+1):=fun z=>by
   have q:=b2 i z;have:=qQT 0 T.up (i - 1) i (by lia) (by lia)
   rw [gd i (t.place.getD (i - 1) 0+1) 0 (by lia)] at q
   lia
  lia
section
variable {prog:Program} {w:World} {A:Around} {E:Value->Shared->Prop} {s:Shared} {a I:Addr} {es:Array (Int × Value)} {ep:Nat} {t:SetTable} {i:Nat}
theorem qLP {Q:Option (Value × Nat)->Shared->Prop} (T:TabG (byT w,true) t es.size) (h8:es.size<=t.mask) (ho:s.heap.get? a=some { cls:=.type "set",data:=.set es ep t }) (hi:i<=es.size)
  (h:Q (match (qC3 w a ep es)[i]? with | some e=>some (e.2,qBW w t (i+1)) | none=>none) s):wpAny (model prog w) A (setNext a (qBW w t i) i ep) Q E s:=by
 have hf:=T.fits h8;unfold setNext;refine wpAny_bind (wpAny_setState_of ho rfl hf ?_);dsimp only;unfold setsByText;refine wpAny_bind (wpAny_bind (wpAny_askSetting (wpAny_pure ?_)));show wpAny _ _ (if byT w=true then _ else _) _ _ _
 cases hb:byT w with
 | true=>
  rw [if_pos rfl];simp only [bne_self_eq_false,E9,if_false];refine wpAny_bind ?_;unfold setWalk;refine wpAny_bind (wpAny_setState_of ho rfl hf ?_);dsimp only;unfold setsByText;refine wpAny_bind (wpAny_bind (wpAny_askSetting (wpAny_pure ?_)));show wpAny _ _ (if byT w=true then _ else _) _ _ _
  rw [hb,if_pos rfl];refine wpAny_bind (wpAny_askSetting (wpAny_pure (wpAny_pure ?_)));have e:qC3 w a ep es=(pickOrder (w.params.setOrder a ep) es).toList:=by unfold qC3;rw [if_pos hb]
  have e2:∀ j,qBW w t j=0:=fun j=>by unfold qBW;rw [if_pos hb]
  rw [e,F6,e2] at h;rw [e2];show Q (Option.map _ (pickOrder (w.params.setOrder a ep) es)[i]?) s;cases hx:(pickOrder (w.params.setOrder a ep) es)[i]? with
  | none=>rw [hx] at h;exact h
  | some v=>rw [hx] at h;exact h
 | false=>
  rw [if_neg (by simp)]
  show wpAny _ _ (if (!t.plain && decide (es.size > 1))=true then _ else _) _ _ _
  rw [show t.plain=true from T.plain];simp only [V4,E2,E9,if_false];refine wpAny_bind ?_;show wpAny _ _ (if (!t.led && !es.isEmpty)=true then _ else _) _ _ _
  rw [show t.led=!(byT w) from T.led,hb];simp only [l7,V4,E2,E9,if_false];refine wpAny_pure (wpAny_pure ?_);have e:qC3 w a ep es=es.toList:=by unfold qC3;rw [if_neg (by rw [hb];simp)]
  have e2:∀ j,qBW w t j=if j=0 then 0 else t.place.getD (j - 1) 0+1:=fun j=>by unfold qBW;rw [if_neg (by rw [hb];simp)]
  rw [e,F6] at h;rw [e2,T.below_at i hi];cases hx:es[i]? with
  | none=>rw [hx] at h;exact h
  | some v=>
   rw [hx] at h;have hlt:i<t.place.size:=by rw [T.size];exact (u9.mp hx).1
   rw [B7 hlt];dsimp only at h ⊢;have e3:qBW w t (i+1)=t.place[i]+1:=by
    rw [e2,if_neg (by lia),A79,C5,B7 hlt]
    rfl
   rw [e3] at h;exact h
theorem qWY {Q:Option Value->Shared->Prop} (T:TabG (byT w,true) t es.size) (h8:es.size<=t.mask) (hit:SetIt w a I es ep t i s.heap) (hne:a ≠ I) {e:Int × Value} (hx:(qC3 w a ep es)[i]?=some e)
  (hQ:∀ h',SetIt w a I es ep t (i+1) h'->(∀ b o,b ≠ I->s.heap.get? b=some o->h'.get? b=some o)->Q (some e.2) { s with heap:=h' }):wpAny (model prog w) A (pyNext (.ref I)) Q E s:=by
 obtain ⟨⟨o,ho,hc,hd⟩,hs⟩:=id hit;have hi:i<es.size:=by
  have:=(A5.mp hx).1;rw [(qBV w a ep es).length_eq,B2] at this;exact this
 unfold pyNext;refine wpAny_bind (wpAny_attempt (wpAny_callSpecial?_slot (name:=D2 "__next__") hit.typeIs slot_si_next (wpAny_call_entry slot_si_next hit.typeIs qCU ?_ (qDG _))));unfold Builtin.«set_iterator.__next__»;refine wpAny_bind (wpAny_pure ?_);refine wpAny_bind (wpAny_fieldsOf ho hd ?_);dsimp only;unfold setEntries;refine wpAny_bind (wpAny_bind (wpAny_setState_of hs rfl (T.fits h8) (wpAny_pure ?_)));rw [if_neg (by simp)]
 simp only [F0];refine wpAny_bind (qLP T h8 hs (T6 hi) ?_);rw [hx];dsimp only;show wpAny _ _ (setField (.ref I) 0 (rawInt _) >>= _) _ _ s;refine wpAny_bind (wpAny_setField ho hd (by simp) ?_)
 have g1:=L5 (b7 (·.setIfInBounds 0 (rawInt ((qBW w t (i+1):Nat):Int)))) ho (V7 (M7 hd _));have d1:=M7 hd (·.setIfInBounds 0 (rawInt ((qBW w t (i+1):Nat):Int)));refine wpAny_bind (wpAny_setField g1 d1 (by simp) ?_)
 have g2:=L5 (b7 (·.setIfInBounds 1 (rawInt ((i:Int)+1)))) g1 (V7 (M7 d1 _));have d2:=M7 d1 (·.setIfInBounds 1 (rawInt ((i:Int)+1)));refine wpAny_pure ⟨_,rfl,wpAny_pure (hQ _ ⟨⟨_,g2,(b8 ..).trans ((b8 ..).trans hc),?_⟩,?_⟩ fun b o' hb e=>?_)⟩
 ·rw [d2];simp [rawInt]
 ·exact (J1 _ _ (J4 hne)).trans ((J1 _ _ (J4 hne)).trans hs)
 ·exact (J1 _ _ (J4 hb)).trans ((J1 _ _ (J4 hb)).trans e)
theorem qYS {Q:Option Value->Shared->Prop} (hh:A.handled=none) (T:TabG (byT w,true) t es.size) (h8:es.size<=t.mask) (hit:SetIt w a I es ep t es.size s.heap)
  (hQ:∀ h',(∀ b o,b ≠ I->s.heap.get? b=some o->h'.get? b=some o)->Q none { s with heap:=h' }):wpAny (model prog w) A (pyNext (.ref I)) Q E s:=by
 obtain ⟨⟨o,ho,hc,hd⟩,hs⟩:=id hit;unfold pyNext;refine wpAny_bind (wpAny_attempt (wpAny_callSpecial?_slot (name:=D2 "__next__") hit.typeIs slot_si_next (wpAny_call_entry slot_si_next hit.typeIs qCU ?_ (qDG _))));unfold Builtin.«set_iterator.__next__»;refine wpAny_bind (wpAny_pure ?_);refine wpAny_bind (wpAny_fieldsOf ho hd ?_);dsimp only;unfold setEntries;refine wpAny_bind (wpAny_bind (wpAny_setState_of hs rfl (T.fits h8) (wpAny_pure ?_)));rw [if_neg (by simp)]
 simp only [F0];have hx:(qC3 w a ep es)[es.size]?=none:=J9 (by rw [(qBV w a ep es).length_eq,B2];exact A6 _)
 refine wpAny_bind (qLP T h8 hs (A6 _) ?_);rw [hx];dsimp only;show wpAny _ _ (setField (.ref I) 2 .none >>= _) _ _ s;refine wpAny_bind (wpAny_setField ho hd (by simp) ?_)
 show wpAny _ _ (newExc (.type "StopIteration") [] >>= _) _ _ _;refine wpAny_bind ?_;simp only [newExc,newTuple];refine wpAny_bind (wpAny_newObj_type ?_ (by size_fits))
 refine wpAny_bind (m:=firstArgMember _ _) (wpAny_of_eq (a:=L7) (by first | rfl | (simp only [firstArgMember];rfl)) ?_)
 refine wpAny_newObj_type ?_ (by size_fits)
 simp only [raiseNew];refine wpAny_bind (wpAny_handled ?_);rw [show A.in1.handled=none from hh];refine wpAny_bind (wpAny_pure (wpAny_throw ?_));refine wpAny_bind (wpAny_isInstance (T:="StopIteration") (b:=true) ⟨_,A9 _ rfl,rfl⟩ isSubtype_stop ?_);exact wpAny_pure (hQ _ (((M8 ..).extBut.push _).push _))
theorem qYR {Q:Value->Shared->Prop} (T:TabG (byT w,true) t es.size) (h8:es.size<=t.mask) (hs:s.heap.get? a=some { cls:=.type "set",data:=.set es ep t })
  (hQ:Q (.ref s.heap.objs.size) { s with heap:=s.heap.push { cls:=.type "set_iterator",data:=.fields #[.int 0 0,.int 0 0,.ref a,.int es.size 0,.int ep 0] } }):wpAny (model prog w) A (pyIter (.ref a)) Q E s:=by
 have hT:s.TypeIs (.ref a) "set":=⟨_,hs,rfl⟩;have hf:=T.fits h8;refine wpAny_pyIter_slot hT t0 (wpAny_call_entry t0 hT qFB ?_ (A96 _));unfold Builtin.«frozenset.__iter__» A12 A02 setEntries;refine wpAny_bind (wpAny_bind (wpAny_pure ?_));show wpAny _ _ (pure a) _ _ s;refine wpAny_pure ?_;refine wpAny_bind (wpAny_bind (wpAny_bind (wpAny_setState_of hs rfl hf (wpAny_pure (wpAny_pure ?_)))));unfold setDrawn setsByText;refine wpAny_bind (wpAny_bind (wpAny_setState_of hs rfl hf ?_));dsimp only;refine wpAny_bind (wpAny_bind (wpAny_askSetting (wpAny_pure (wpAny_pure ?_))));show wpAny _ _ (if (!byT w && (!t.plain && decide (es.size > 1)))=true then _ else _) _ _ _
 rw [show t.plain=true from T.plain];simp only [V4,E2,Q1,E9,if_false];refine wpAny_bind (wpAny_pure ?_);unfold setEpoch;refine wpAny_bind (wpAny_bind (wpAny_setState_of hs rfl hf (wpAny_pure ?_)));refine wpAny_bind (wpAny_newObj_type (wpAny_pure ⟨_,rfl,"set_iterator",_,⟨_,A9 _ rfl,rfl⟩,slot_si_next.lookup,?_⟩));simpa [rawInt] using hQ
theorem qYQ (T:TabG (byT w,true) t es.size) (h8:es.size<=t.mask):PySem.W.KdlSrc prog w "set" a a es.size (fun i v=>∃ e,(qC3 w a ep es)[i]?=some e/\v=e.2) (fun h=>h.get? a=some { cls:=.type "set",data:=.set es ep t }) where
 type:=fun s h=>⟨_,h,rfl⟩
 there:=fun h x=>⟨B3 x,B3 x⟩
 keep:=fun h h' x k=>k a (.inl rfl) _ x
 notList:=by decide
 notTuple:=by decide
 hint:=fun A E s Q x q=>qR8 ⟨_,x,rfl⟩ q
 iter:=fun A s hh x=>by
  have hne:a ≠ s.heap.objs.size:=C2 (B3 x);refine ⟨_,fun i h=>SetIt w a s.heap.objs.size es ep t i h,fun E Q q=>qYR T h8 x q,?_,⟨⟨_,A9 _ rfl,rfl,?_⟩,A4 _ x⟩⟩
  ·refine ⟨fun b hb=>?_,fun i h h' st k=>?_,fun i s' Q E hi st q=>?_,fun s' Q E st q=>?_,fun i s' Q E st q=>qR7 st q⟩
   ·have e:b=s.heap.objs.size:=by simpa using hb
    simp [e]
   ·obtain ⟨⟨o,h1,h2,h3⟩,h4⟩:=st;exact ⟨⟨o,k _ (by simp) _ h1,h2,h3⟩,k _ (by simp) _ h4⟩
   ·have hl:i<(qC3 w a ep es).length:=by rw [(qBV w a ep es).length_eq,B2];exact hi
    refine qWY T h8 st hne (A3 hl) fun h' st' k=>?_;exact q _ h' s'.toks ⟨_,A3 hl,rfl⟩ st' fun b o hb e=>k b o (fun z=>hb (by simp [z])) e
   ·refine qYS hh T h8 st fun h' k=>?_;exact q h' s'.toks fun b o hb e=>k b o (fun z=>hb (by simp [z])) e
  ·unfold qBW
   split <;> rfl
end
section
variable {X:Cx}
def SetM (w:World) (a:Addr) (zs:List Int):HO:=.ext (SetG w a zs)
theorem qSX {ks:List Int} {l:List (Int × Value)} (h:Ents ks l):∀ vs:List Value,vs.length=l.length->(∀ (i:Nat) (v:Value),vs[i]?=some v->∃ e:Int × Value,l[i]?=some e/\v=e.2)->IntsAre vs ks:=by
 induction h with
 | nil=>
  intro vs hl _;have:vs=[]:=X8.mp hl;subst this;exact .nil
 | cons r t ih=>
  intro vs hl hv;cases vs with
  | nil=>simp at hl
  | cons v vs=>
   obtain ⟨tk,rfl⟩:=r;obtain ⟨e,he,rfl⟩:=hv 0 v rfl;simp at he;subst he;exact IntsAre.cons _ _ (ih vs (by simpa using hl) fun i v hi=>by simpa using hv (i+1) v (by simpa using hi))
end
end L2
namespace L2
open PySem PySem.Spec PyProof.Rows
section
variable {X:Cx}
def qaG (K:PySem.W.Frag):R2:=fun x y H Q=>∃ a b xs ys,x=.ref a/\y=.ref b/\SqT K H a xs/\SqT K H b ys/\((xs ≠ []/\H a=some (.tup xs))\/(ys ≠ []/\H b=some (.tup ys)))/\xs.length+ys.length<=sizeLine/\∀ p H',Same H H'->H' p=some (.tup (xs++ys))->Q (.ref p) H'
theorem qX9:OpR X (binaryOp .Add) (qaG X.K):=by
 intro Ab s σ H x y v u Q I rx ry h;obtain ⟨a,b,xs,ys,rfl,rfl,ha,hb,hd,hz,q⟩:=h;have nw:∀ p,H p=none->Q (.ref p) (Ag H p (.tup (xs++ys))):=fun p hp=>q p _ (fun b u e=>by rw [qAC (qA7 e hp)];exact e) qA1
 rcases hd with ⟨hx,ga⟩ | ⟨hy,gb⟩
 ·exact qRS Ab s σ H (.ref a) (.ref b) v u Q I rx ry ⟨a,b,xs,ys,rfl,rfl,ha,hb,hx,hz,fun z=>q a H (fun _ _ e=>e) (by rw [z,B25];exact ga),fun _=>nw⟩
 ·exact qN6 Ab s σ H (.ref a) (.ref b) v u Q I rx ry ⟨a,b,xs,ys,rfl,rfl,ha,hb,hy,hz,fun z=>q b H (fun _ _ e=>e) (by rw [z];exact gb),fun _=>nw⟩
end
section
variable {prog:Program} {w:World} {A:Around} {E:Value->Shared->Prop} {s:Shared}
theorem qNV {l:Addr} {items:Array Value} {ns:List Int} {Q:Value->Shared->Prop} (hh:A.handled=none) (hl:s.heap.IsTuple l items) (hi:IntsAre items.toList ns) (h4:items.size<=4000)
  (h:∀ (h':Heap) (tk:Nat),SetG w s.heap.objs.size (dedI ns) h'->(∀ b o,s.heap.get? b=some o->h'.get? b=some o)->Q (.ref s.heap.objs.size) { s with heap:=h',toks:=tk }) :
  wpAny (model prog w) A (call (.type "set") [.ref l]) Q E s:=by
 have hlen:ns.length=items.size:=by have:=IntsAre.length hi;simpa using this.symm
 obtain ⟨c,tl,hmro⟩:=M9.mro;have hmade:=M9.made;have hsub:=M9.sub;refine wpAny_call (codeAny_of_tree ?_);show wpAny _ _ (callAny (.type "set") _) _ _ _;refine wpAny_pure ⟨A77 _ (by decide +kernel),codeAny_builtin A95 ?_⟩
 rw [A78 (weight_type_call_type "set" [.ref l] []) rfl];have h1:=M9.notType;have h2:=M9.canCreate;have hct:=B12 (.ref l)
 repeat (any_goals (first | assumption | wp_step))
 refine codeAny_mono (qLN (.ref l) (E:=E) (Q₁:=fun obj s₁=>obj=.ref s.heap.objs.size/\s₁={ s with heap:=s.heap.push (freshSet w) }) ⟨rfl,rfl⟩) fun r s₁ hr=>?_;cases r with
 | error e=>exact hr
 | ok fl=>
  cases fl with
  | ret obj=>
   obtain ⟨rfl,rfl⟩:=hr;have hS:(s.heap.push (freshSet w)).get? s.heap.objs.size=some (freshSet w):=A9 _ rfl;have hT:Shared.TypeIs { s with heap:=s.heap.push (freshSet w) } (.ref s.heap.objs.size) "set":=⟨_,hS,rfl⟩;have hli:=M9.init.lookup;have hbi:=M9.init.bind (.ref s.heap.objs.size)
   repeat (any_goals (first | assumption | wp_step))
   refine codeAny_mono (codeAny_call_builtin (R:=wants (fun r s₂=>r=.none/\∃ h' tk,s₂={ s with heap:=h',toks:=tk }/\SetG w s.heap.objs.size (dedI ns) h'/\
     (∀ b o,s.heap.get? b=some o->h'.get? b=some o)) E) M9.init.plain B13 (check_set_init_1 hT ?_)) fun r₂ s₂ hr₂=>?_
   ·obtain ⟨ol,hol,hcl,nl,hdl⟩:=hl;obtain ⟨ocls,odict,odata,oslots⟩:=ol;simp only at hcl hdl;subst hcl;subst hdl;have hol':(s.heap.push (freshSet w)).get? l=some { cls:=.type "tuple",dict:=odict,data:=.seq items nl,slots:=oslots }:=A4 _ hol;have hsls:=F.sub_tuple_set;have hslf:=F.sub_tuple_frozenset;have hne:(f9 "tuple" == f9 "dict")=false:=by decide
    have hl1:(s.heap.push (freshSet w)).IsTuple l items:=⟨_,hol',rfl,nl,rfl⟩;unfold Builtin.«set.__init__» noKeywords o8;generalize hPI:pyIter=PI
    wp_walk
    subst hPI;refine wpAny_pyIter_tuple hl1 ?_;refine wpAny_bind (wpAny_runValue ?_);have hlS:l<s.heap.objs.size:=B3 hol;have hh3:A.in1.in1.in1.handled=none:=by simp [hh]
    have hneI:l ≠ (s.heap.push (freshSet w)).objs.size:=by
     rw [M6];exact C2 (P8 hlS)
    have hSf:s.heap.objs.size ∉ [(s.heap.push (freshSet w)).objs.size,l]:=by
     rw [M6];simp only [B6,A8,F7,or_false,not_or];exact ⟨C2 (B14 _),X3 hlS⟩
    have hval:∀ (i:Nat) (v:Value),items[i]?=some v->∃ t,v=.int (ns.getD i 0) t:=fun i v hv=>
     r8 hi i v (by rw [F6];exact hv)
    refine qLM ((Walks.tuple hh3 _ l hneI items).toS) s.heap.objs.size hSf ns hlen h4 hval (items.size - 0) 0 _ (by lia) (D8 _)
     ⟨⟨_,A9 _ rfl,rfl,rfl⟩,(hl1.push _)⟩ ?hS0 ?hR
    case hS0=>exact SetG.fresh (A4 _ hS)
    case hR=>
     intro s' hm hS';obtain ⟨h',g',d',tk',os'⟩:=s';have eg:g'=s.gens:=hm.gens;have ed:d'=s.drawn:=hm.drawn;have eo:os'=s.os:=hm.os;subst eg;subst ed;subst eo;show wpAny _ _ _ _ _ _;refine wpAny_pure ?_;show wpAny _ _ (ret L7) _ _ _;refine wpAny_pure ⟨rfl,h',tk',rfl,hS',fun b o e=>?_⟩;have hb:=B3 e;have hb1:b ≠ s.heap.objs.size:=C2 hb;have hb2:b ≠ (s.heap.push (freshSet w)).objs.size:=by
      rw [M6];exact C2 (P8 hb)
     exact hm.heap b o (by simp only [B6,A8,F7,or_false,not_or];exact ⟨hb1,hb2⟩) (A4 _ (A4 _ e))
   ·cases r₂ with
    | error e=>exact hr₂
    | ok fl₂=>
     cases fl₂ with
     | ret r=>
      obtain ⟨rfl,h',tk,rfl,hS',hk'⟩:=hr₂
      repeat (any_goals (first | assumption | wp_step))
      exact h _ _ hS' hk'
     | next=>exact hr₂
     | brk=>exact hr₂
     | cont=>exact hr₂
  | next=>exact hr
  | brk=>exact hr
  | cont=>exact hr
end
section
variable {X:Cx}
theorem qQJ (hc:X.calm=true):qCF X (.type "set") (fun xs H Q=>∃ p ns,xs=[.ref p]/\SqT X.K H p (ns.map V.int)/\ns.length<=4000/\∀ a,H a=none->Q (.ref a) (Ag H a (SetM X.w a (dedI ns)))):=by
 intro Ab s σ H xs us Q I r h;obtain ⟨p,ns,rfl,hq,h4,q⟩:=h;obtain ⟨u,rfl,rx⟩:=qDO r;cases rx;obtain ⟨its,rv,pl,hz⟩:=I.tuple hq;have hlen:=rv.length;rw [A0] at hlen;refine qNV (ns:=ns) (I.ok.hd hc) pl (by simpa using qC2 rv) (by simp;lia) fun h' tk hS hk=>?_
 refine ⟨.ref s.heap.objs.size,_,I.laid (t':=tk) hk (A6 _) ?_,rfl,q _ (I.hok.fresh (A6 _))⟩;obtain ⟨es,ep,t,ks,e,_⟩:=id hS;exact ⟨hS,⟨_,e⟩,fun h1 h2 x k=>x.at k⟩
end
end L2
namespace L2
open PySem PySem.Spec PyProof.Rows
structure Ex (B:Heap) (l:List Env) (e:Addr) (cls:Value) (dd:Option Addr) (nt:Bool) (h:Heap):Prop where
 stays:B.StaysIn h
 new:B.get? e=none
 frames:h.FunFrames B l
 rec_:∃ (oe:Obj) (vs:Array Value) (x1:Value),h.get? e=some oe/\oe.cls=cls/\oe.dict=dd/\oe.data=.fields vs/\vs[1]?=some x1/\
  ((x1=.none/\nt=false)\/∃ (T:Addr) (oT:Obj) (ts:Array Value) (x3:Value),x1=.ref T/\B.get? T=none/\T ≠ e/\h.get? T=some oT/\oT.data=.fields ts/\ts[3]?=some x3)
section
variable {M:Model} {A:Around} {E:Value->Shared->Prop} {s:Shared} {B:Heap} {env:Env} {outer l:List Env} {L e:Addr} {cls:Value} {dd:Option Addr} {nt:Bool} {Q:Unit->Shared->Prop}
end
end L2
namespace L2
open PySem PySem.Spec PyProof.Rows
def Kp (outer:List Env) (H':Hp) (h0:Heap) (b:Addr):Prop:=(∃ o,H' b=some o)\/((∃ o,h0.get? b=some o)/\b ∉ frs outer)
structure XD (P:Program) (w:World) (outer l:List Env) (H:Hp) (h0:Heap) (e:Addr) (cls:Value) (dd:Option Addr) (H':Hp) (B:Heap) (nt:Bool) (h:Heap):Prop where
 un:Un (frs outer) [] H H' h0 h
 hok:HOk P w H' h
 ex:Ex B l e cls dd nt h
 kp:∀ b o,h.get? b=some o->Kp outer H' h0 b->B.get? b=some o
 ne:H' e=none
 ge:h0.objs.size<=e
def XP (X:Cx) (G:XK) (ev:Value) (s':Shared):Prop:=X.A.frames=some X.stack/\∃ (e:Addr) (cls:Value) (dd:Option Addr) (H':Hp) (B:Heap) (nt:Bool),ev=.ref e/\s'.os=X.s₀.os/\AllBare s'.gens/\XD X.prog X.w X.outer X.stack X.H₀ X.s₀.heap e cls dd H' B nt s'.heap/\G cls dd H'
section
variable {X:Cx} {E:XK} {G:XK} {Ab:List (Addr × Obj)} {σ:St} {H:Hp} {s s':Shared}
end
section
variable {P:Program} {w:World} {K:PySem.W.Frag} {mg:Str->Option Value} {base:Heap}
end
end L2
namespace L2
open PySem PySem.Spec PyProof.Rows
section
variable {X:Cx} {Ab:List (Addr × Obj)} {σ:St} {H:Hp} {s:Shared} {ev:Value}
end
section
variable {X:Cx}
end
end L2
namespace L2
open PySem PySem.Spec PyProof.Rows
noncomputable def bmV:List Value:=[.type "ValueError",.type "Exception",.type "BaseException",.type "object"]
noncomputable def xcIn (K:PySem.W.Frag) (C:Addr) (init:Option Value):Bool:=match K.lookup C with
 | some ⟨.type "type",_,.cls cd,sl⟩=>(match cd.mro,sl.toList with
  | .ref C'::bm,[_,_,_,_,some (.builtin n),_]=>C' == C && n == "ValueError.__new__" && !cd.hasDel && cd.hasDict && PySem.W.tailIn K bmV bm && PySem.W.nsOkIn K cd.ns && A40 K cd.ns "__init__" == some init
  | _,_=>false)
 | _=>false
structure XCls (K:PySem.W.Frag) (C:Addr) (init:Option Value):Prop where
 cls:xcIn K C init=true
 set:P9 K (.ref C) "__setattr__" = some (some (.builtin "object.__setattr__"))
 kp:V8 K (.ref C)=true
section
variable {prog:Program} {w:World} {A:Around} {E:Value->Shared->Prop} {h:Heap} {g:Array GenState} {d:Drawn} {t:Nat} {os:OsState} {K:PySem.W.Frag} {C x:Addr} {init:Option Value} {mA:Str->Option Value} {name:Str} {v:Value} {ns:List Str}
end
end L2
namespace L2
open PySem PySem.Spec PyProof.Rows
section
variable {prog:Program} {w:World} {A:Around} {R:Result->Shared->Prop} {h:Heap} {g:Array GenState} {d:Drawn} {t:Nat} {os:OsState} {K:PySem.W.Frag} {C fI:Addr} {rest:List Value}
end
section
variable {M:Model} {A:Around} {E:Value->Shared->Prop} {env:Env} {K:PySem.W.Frag} {C:Addr} {init:Option Value}
end
section
variable {X:Cx} {Ab:List (Addr × Obj)} {σ:St} {H:Hp} {s:Shared}
end
section
variable {X:Cx}
end
end L2
namespace L2
open PySem PySem.Spec PyProof.Rows
structure XGet (K:PySem.W.Frag) (C:Addr):Prop where
 ga:P9 K (.ref C) "__getattribute__" = some (some (.builtin "BaseException.__getattribute__"))
 gt:P9 K (.ref C) "__getattr__" = some none
 be:A71 K C (.type "BaseException")=some true
 hd:A86 K C=true
section
variable {prog:Program} {w:World} {A:Around} {E:Value->Shared->Prop} {s:Shared} {K:PySem.W.Frag} {x C:Addr} {ox:Obj} {od:Option Obj} {name:Str} {tk:Tok}
end
structure XTy (K:PySem.W.Frag) (C:Addr):Prop extends XGet K C where
 ca:P9 K (.ref C) "__class__" = some (some (.builtin "object.__class__"))
 cn:y9 K (.builtin "object.__class__") "__get__" = some (some (.builtin "getset_descriptor.__get__"))
 ct:B24 K (.builtin "object.__class__")=some true
 cm:A71 K C (.type "object")=some true
section
variable {K:PySem.W.Frag}
end
section
variable {X:Cx}
end
end L2
namespace L2
open PySem PySem.Spec PyProof.Rows
structure RoomH (k:Nat) (A:Around):Prop where
 dp:A.depth+3 * k+5<recursionLimit
 un:A.units+16 * k+200<cLine
structure FnOkH (P:Program) (w:World) (K:PySem.W.Frag) (mg:Str->Option Value) (base:Heap) (CX:CXT) (k:Nat) (f:Addr) (fd:FuncData) (ps:List Str) (sp:Sp):Prop where
 len:∀ vs H Q E,sp vs H Q E->vs.length=ps.length
 run:∀ (A:Around) (outer:List Env) (s:Shared) (H:Hp) (args:Args) (us:List Value) (vs:List V) (Q:VK) (E:XK),RoomH k A->Env0 P w K mg base A outer s H->BindsTo s fd args (ps.zip us)->Vals vs us->sp vs H Q E->
  codeAny (model P w) A (.call (.ref f) args) (CR CX outer P w H s Q E) s
section
variable {P:Program} {w:World} {K:PySem.W.Frag} {mg:Str->Option Value} {base:Heap}
end
section
variable {X:Cx} {CX:CXT} {k:Nat} {f C:Addr} {fd:FuncData} {ps:List Str} {sp:Sp} {dvs:List V} {ds:List Value} {E:XK} {x m:Str} {p pos apos:Pos} {e o:Expr} {es:List Expr} {ta:TE} {t:TA}
end
end L2
namespace L2
open PySem PySem.Spec PyProof.Rows
section
variable {X:Cx}
end
end L2
namespace L2
open PySem PySem.Spec PyProof.Rows
section
variable {prog:Program} {w:World} {A:Around} {E:Value->Shared->Prop} {s:Shared}
end
end L2
namespace L2
open PySem PySem.Spec PyProof.Rows
section
variable {X:Cx}
theorem qL0 (hc:X.calm=true):qCF X (.builtin "sum") (fun xs H Q=>∃ (p:Addr) (ns:List Int),xs=[.ref p]/\SqL X.K H p (ns.map V.int)/\Q (.int ns.sum) H):=by
 intro Ab s σ H xs us Q I r h;obtain ⟨p,ns,rfl,hq,q⟩:=h;obtain ⟨u,rfl,rx⟩:=qDO r;cases rx;obtain ⟨its,rv,pl,hz⟩:=I.list hq;have hi:=qC2 rv;obtain ⟨xs,hx⟩:=hi.allInts.items;have hl':s.heap.IsList p (intItems xs):=hx ▸ pl.isList;refine sum_intListG (I.ok.hd hc) hl' fun h' tk t' hk=>?_;have e1:ns=xs.toList.map (·.1):=by
  rw [<- nums_intItems,<- hx];exact (show numsOf its.toArray.toList=ns from hi.numsOf).symm
 have e2:preSum (numAt xs) xs.size=ns.sum:=by
  rw [preSum_eq,D3 (by simp),e1]
 rw [e2];exact ⟨.int ns.sum,H,I.kept fun b o e=>hk b o e,⟨_,rfl⟩,q⟩
end
end L2
namespace L2
open PySem PySem.Spec PyProof.Rows
section
variable {X:Cx}
end
end L2
namespace L2
open PySem PySem.Spec PyProof.Rows
structure LcScopeO (X:Cx) (scope:Scope) (own:List Str) (fv:List Nat):Prop where
 kind:scope.kind=.function
 names:∀ y ∈ scope.names,y.2=.local->scope.names.lookup y.1=some .local
 cells:∀ y ∈ scope.names,y.2=.cell->scope.names.lookup y.1=some .cell
 frees:∀ y ∈ scope.names,y.2=.free->scope.names.lookup y.1=some .free
 free:∀ y ∈ scope.names,y.2=.free->X.env.kindOf y.1=some .cell\/X.env.kindOf y.1=some .free
 nd:(own++fv.map fun i=>X.N.getD i Z7).Nodup
 fvs:∀ i ∈ fv,i<X.N.length/\scope.names.lookup (X.N.getD i Z7)=some .free
 owns:∀ x ∈ own,scope.names.lookup x=some .local\/scope.names.lookup x=some .cell
section
variable {X:Cx} {Ab:List (Addr × Obj)} {σ:St} {H:Hp} {s:Shared}
end
section
variable {X:Cx} {tg iter elt:Expr} {ifs:List Expr} {scope:Scope} {pos:Pos} {own:List Str} {fv:List Nat} {wi:TI} {g:TG} {tc:TT} {te:TE}
end
end L2
namespace L2
open PySem PySem.Spec PyProof.Rows
noncomputable abbrev tpK (prog:Program) (w:World):=tupleKind (qB3 prog w)
theorem qMW {prog:Program} {w:World} {h h':Heap} {k:List Key} {b:Addr} (x:(tpK prog w).is h k b) (e:∀ o,h.get? b=some o->h'.get? b=some o):(tpK prog w).is h' k b:=by
 obtain ⟨o,its,n,h1,h2⟩:=x;exact ⟨o,its,n,e _ h1,h2⟩
theorem qXV {prog:Program} {w:World} {h h':Heap} {d:Addr} {xs:List (List Key × Addr × Value)} (x:h.DictOfH (tpK prog w) d xs) (e:∀ o,h.get? d=some o->h'.get? d=some o) (ek:∀ x ∈ xs,∀ o,h.get? x.2.1=some o->h'.get? x.2.1=some o):h'.DictOfH (tpK prog w) d xs:=by
 obtain ⟨o,es,ep,h1,h2,h3,h4,h5,h6⟩:=x;exact ⟨o,es,ep,e _ h1,h2,h3,h4,fun x hx=>qMW (h5 x hx) (ek x hx),h6⟩
theorem qLE {xs:List (List Key × Addr × Value)} {k:List Key} {b:Addr} {v:Value} {F:Addr->Prop} (hx:∀ x ∈ xs,F x.2.1) (hb:F b):∀ x ∈ storedH xs k b v,F x.2.1:=by
 intro x hm;unfold storedH at hm
 split at hm
 ·obtain ⟨y,hy,rfl⟩:=D7.mp hm;unfold putAt
  split
  ·exact hx y hy
  ·exact hx y hy
 ·rcases B1.mp hm with h | h
  ·exact hx x h
  ·simp only [A8] at h;subst h;exact hb
section
variable {prog:Program} {w:World} {A:Around} {R:Result->Shared->Prop} {I:Addr} {fp wr:List Addr} {n:Nat} {P:Nat->Value->Prop} {St:Nat->Heap->Prop}
theorem qT1 (hu:A.units+1<cLine) (W:Walks prog w A.in1 I fp wr n P St) (h0:Heap) (d:Addr) (hdf:d ∉ fp) (ps:List (List Key × Addr × Value)) (hn:ps.length=n) (hz:n<=sizeLine)
  (tup:∀ i v,P i v->∃ r k b x,v=.ref r/\r ∉ wr/\r ≠ d/\b ∉ wr/\b ≠ d/\h0.IsTuple r #[.ref b,x]/\(tpK prog w).is h0 k b/\ps[i]?=some (k,b,x)) :
  ∀ (m i:Nat) (j:Int) (tj:Tok) (s:Shared) (Af:List (List Key × Addr × Value)),n - i=m->i<=n->St i s.heap->s.heap.DictOfH (tpK prog w) d Af->Af.length<=i->(∀ x ∈ Af,x.2.1 ∉ wr)->(∀ b o,b ∉ wr->b ≠ d->h0.get? b=some o->s.heap.get? b=some o)->
  (∀ h' tk,h'.DictOfH (tpK prog w) d ((ps.drop i).foldl (fun m q=>storedH m q.1 q.2.1 q.2.2) Af)->(∀ b o,b ∉ wr->b ≠ d->h0.get? b=some o->h'.get? b=some o)->R (.ok (.ret .none)) { s with heap:=h',toks:=tk })->
  codeAny (model prog w) A (.builtin "dict.update.loop" ⟨[.ref d,.ref I,.int j tj,.none],[]⟩) R s:=by
 have hdw:d ∉ wr:=fun h=>hdf (W.sub _ h);intro m
 induction m with
 | zero=>
  intro i j tj s Af hm hi st hd hl hkk hk hR;have e:i=n:=by lia
  refine codeAny_builtin qG9 ?_;rw [J3 qCL _];show wpAny _ A.in1 (pyNext (.ref I) >>= _) _ _ s;refine wpAny_bind (W.done s _ _ (e ▸ st) fun h' tk hk'=>?_);show wpAny _ A.in1 (A04 d [] >>= fun _=>ret L7) _ _ _;rw [A24 (by lia)] at hR
  exact wpAny_bind (wpAny_pure (wpAny_pure (hR h' tk (qXV hd (fun o eo=>hk' d o hdw eo) fun x hx o eo=>hk' _ o (hkk x hx) eo) fun b o hb hbd eb=>hk' b o hb (hk b o hb hbd eb))))
 | succ m ih=>
  intro i j tj s Af hm hi st hd hl hkk hk hR;have hlt:i<n:=by lia
  refine codeAny_builtin qG9 ?_;rw [J3 qCL _];show wpAny _ A.in1 (pyNext (.ref I) >>= _) _ _ s;refine wpAny_bind (W.item i s _ _ hlt st fun v h' tk hP st' hk'=>?_);obtain ⟨r,k,b,x,rfl,hrw,hrd,hbw,hbd,ht,hkb,ep⟩:=tup i v hP;have ed:ps.drop i=(k,b,x)::ps.drop (i+1):=by
   obtain ⟨hi',e⟩:=A5.mp ep;rw [c9 hi',e]
  rw [ed] at hR;have ht2:h'.IsTuple r #[.ref b,x]:=by
   obtain ⟨o,e1,e2,e3⟩:=ht;exact ⟨o,hk' r o hrw (hk r o hrw hrd e1),e2,e3⟩
  have hkb2:(tpK prog w).is h' k b:=qMW hkb fun o eo=>hk' b o hbw (hk b o hbw hbd eo);obtain ⟨o,ho,hoc,no,hod⟩:=ht2;have hd2:h'.DictOfH (tpK prog w) d Af:=qXV hd (fun o eo=>hk' d o hdw eo) fun x hx o eo=>hk' _ o (hkk x hx) eo;refine wpAny_bind (wpAny_holding (wpAny_bind ?_));show wpAny _ A.in1 (tryCatch (Z0 (.ref r)) _) _ _ _;refine wpAny_tryCatch ?_;unfold Z0;refine wpAny_bind (wpAny_typeOf (T:="tuple") ⟨o,ho,hoc⟩ ?_);rw [if_pos (by decide)]
  refine wpAny_bind (wpAny_seqItems ho hod (wpAny_pure ?_));show wpAny _ A.in1 (holding [F3 b,x] (dictSet d (.ref b) x)) _ _ _;refine wpAny_holding (wpAny_dictSet_heap (hsz:=by lia) (tupleKind_room_in1 hu) hkb2 hd2 fun h2 hd3 sb=>?_)
  have len3:(storedH Af k b x).length<=i+1:=by
   unfold storedH
   split
   ·rw [A0];lia
   ·rw [A7,B4];lia
  refine wpAny_pure ⟨plainId_quiet qCL _,ih (i+1) _ _ _ (storedH Af k b x) (by lia) hlt (W.frame _ _ _ st' fun b hb o eb=>?_) hd3 len3 (qLE (F:=fun c=>c ∉ wr) hkk hbw) (fun b o hb hbd eb=>?_) fun h3 tk3 hd4 hk4=>hR h3 tk3 hd4 hk4⟩
  ·rw [sb.2 b (fun z:b=d=>hdf (z ▸ hb))];exact eb
  ·rw [sb.2 b hbd];exact hk' b o hb (hk b o hb hbd eb)
end
section
variable {prog:Program} {w:World} {A:Around} {E:Value->Shared->Prop} {s:Shared}
theorem qL3 {l:Addr} {o:Obj} {its:Array Value} {nl:Nat} {ps:List (List Key × Addr × Value)} {Q:Value->Shared->Prop} (hu:A.units+64<cLine) (hA:A.handled=none) (hl:s.heap.get? l=some o) (hc:o.cls=.type "list") (hdat:o.data=.seq its nl) (hdn:o.dict=none) (hn:ps.length=its.size) (hz:its.size<=sizeLine)
  (tup:∀ (i:Nat) v,its[i]?=some v->∃ r k b x,v=.ref r/\s.heap.IsTuple r #[.ref b,x]/\(tpK prog w).is s.heap k b/\ps[i]?=some (k,b,x))
  (h:∀ h' tk,h'.DictOfH (tpK prog w) s.heap.objs.size (ps.foldl (fun m q=>storedH m q.1 q.2.1 q.2.2) [])->(∀ b u,s.heap.get? b=some u->h'.get? b=some u)->Q (.ref s.heap.objs.size) { s with heap:=h',toks:=tk }) :
  wpAny (model prog w) A (call (.type "dict") [.ref l]) Q E s:=by
 refine callType_codes (Q₁:=fun obj s₁=>obj=.ref s.heap.objs.size/\s₁={ s with heap:=s.heap.push { cls:=.type "dict",data:=.dict #[] } }) B15 (A49 _) A98 (kt_code_dict_new _ ⟨rfl,rfl⟩) ?_;rintro obj s₁ ⟨rfl,rfl⟩;have nw:(s.heap.push { cls:=.type "dict",data:=.dict #[] }).DictOfH (tpK prog w) s.heap.objs.size []:=Heap.DictOfH.new s.heap;have hl':(s.heap.push { cls:=.type "dict",data:=.dict #[] }).get? l=some o:=A4 _ hl;have hll:l<s.heap.objs.size:=B3 hl;refine ⟨nw.typeIs,A80 _ _,?_⟩;unfold Builtin.«dict.__init__»;refine wpAny_bind ?_;unfold A05;refine wpAny_bind (wpAny_notOrdered_dict nw.typeIs ?_);show wpAny _ _ (pure (s.heap.objs.size,[F3 l])) _ _ _;refine wpAny_pure ?_;show wpAny _ _ (Y0 "dict.__init__" s.heap.objs.size (.ref l) [] .none) _ _ _;unfold Y0;refine wpAny_bind (wpAny_typeOf (T:="list") ⟨o,hl',hc⟩ ?_);rw [if_pos (by decide)]
 refine wpAny_bind (qM4 hl' hc hdat hdn hA fun h1 tk1 k1=>?_);rw [if_pos (show (none:Option Value).isNone=true from rfl)];have hl1:h1.IsList l its:=⟨o,k1 _ _ hl',hc,nl,hdat⟩;have hlt1:l<h1.objs.size:=B3 (k1 _ _ hl');have hdl:s.heap.objs.size<h1.objs.size:=by
  obtain ⟨_,_,_,e,_⟩:=nw;exact B3 (k1 _ _ e)
 refine wpAny_bind (wpAny_rule (wpAny_bind (wpAny_pyIter_list hl1 ?_)));refine wpAny_pure ⟨plainId_quiet qCL _,?_⟩;refine qT1 (n:=its.size) ?hu (A45 (A:=A.in1.in1) hA _ l (C2 hlt1) its) h1 s.heap.objs.size ?_ ps hn hz (fun i v hv=>?_) its.size 0 _ _ _ [] rfl (D8 _) ⟨⟨_,A9 _ rfl,rfl,rfl⟩,hl1.push _⟩ (qXV nw (fun o eo=>A4 _ (k1 _ _ eo)) fun x hx=>nomatch hx) (A6 _) (fun x hx=>nomatch hx) (fun b u hb hbd eb=>A4 _ eb) fun h' tk hd' hk'=>?_
 case hu=>
  show A.units+1+1<cLine
  lia
 ·simp only [B6,F7,or_false,not_or];exact ⟨C2 hdl,X3 hll⟩
 ·obtain ⟨r,k,b,x,e1,e2,e3,e4⟩:=tup i v hv;obtain ⟨or,hr,hr2,hr3⟩:=e2;have hrs:=B3 hr;have hbs:b<s.heap.objs.size:=by
   obtain ⟨_,_,_,z,_⟩:=e3;exact B3 z
  refine ⟨r,k,b,x,e1,?_,C2 hrs,?_,C2 hbs,⟨or,k1 _ _ (A4 _ hr),hr2,hr3⟩,qMW e3 fun o eo=>k1 _ _ (A4 _ eo),e4⟩
  ·simp only [B6,F7,or_false];exact C2 (R1 hrs hdl)
  ·simp only [B6,F7,or_false];exact C2 (R1 hbs hdl)
 ·refine ⟨rfl,h h' tk hd' fun b u eb=>?_⟩;have hbs:=B3 eb;refine hk' b u ?_ (C2 hbs) (k1 _ _ (A4 _ eb));simp only [B6,F7,or_false];exact C2 (R1 hbs hdl)
end
section
variable {X:Cx}
def qOL (H:Hp) (K:PySem.W.Frag) (rs:List Addr) (ps:List (List Key × Addr × V)):Prop:=Paired (fun r (q:List Key × Addr × V)=>SqT K H r [.ref q.2.1,q.2.2]/\H q.2.1=some (.tup (q.1.map kV))) rs ps
noncomputable def qBN (Af:List (List Key × V)) (ps:List (List Key × Addr × V)):List (List Key × V):=ps.foldl (fun m q=>putK m q.1 q.2.2) Af
theorem qHX:∀ (ps:List (List Key × Addr × V)) (Af:List (List Key × V)),(qBN Af ps).length<=Af.length+ps.length
 | [],Af=>by simp [qBN]
 | q::ps,Af=>by
  have:=qHX ps (putK Af q.1 q.2.2);have:=qC0 Af q.1 q.2.2;show (qBN (putK Af q.1 q.2.2) ps).length<=Af.length+(q::ps).length;rw [D5]
  lia
theorem qPT {Ab:List (Addr × Obj)} {σ:St} {H:Hp} {s:Shared} (I:Inv X Ab σ H s):∀ {rs:List Addr} {ps:List (List Key × Addr × V)},qOL H X.K rs ps->
  ∃ qs:List (List Key × Addr × Value),Paired (fun r (q:List Key × Addr × Value)=>s.heap.IsTuple r #[.ref q.2.1,q.2.2]) rs qs/\Paired (fun (p:List Key × Addr × V) (q:List Key × Addr × Value)=>p.1=q.1/\p.2.1=q.2.1/\H p.2.1=some (.tup (p.1.map kV))/\RelV p.2.2 q.2.2) ps qs:=by
 intro rs ps h;unfold qOL at h
 induction h with
 | nil=>exact ⟨[],.nil,.nil⟩
 | @cons r q rs ps h t ih=>
  obtain ⟨qs,h1,h2⟩:=ih;obtain ⟨its,rv,pl,hz⟩:=I.tuple h.1;obtain ⟨u1,u2,rfl,r1,r2⟩:=qJW rv;cases r1;exact ⟨(q.1,q.2.1,u2)::qs,.cons pl h1,.cons ⟨rfl,rfl,h.2,r2⟩ h2⟩
theorem qUE {H:Hp}:∀ {ps:List (List Key × Addr × V)} {qs:List (List Key × Addr × Value)} {Af:List (List Key × V)} {vs:List (List Key × Addr × Value)},Paired (fun (p:List Key × Addr × V) (q:List Key × Addr × Value)=>p.1=q.1/\p.2.1=q.2.1/\H p.2.1=some (.tup (p.1.map kV))/\RelV p.2.2 q.2.2) ps qs->KT H Af vs->KT H (qBN Af ps) (qs.foldl (fun m q=>storedH m q.1 q.2.1 q.2.2) vs):=by
 intro ps qs Af vs h
 induction h generalizing Af vs with
 | nil=>exact fun r=>r
 | cons h t ih=>
  intro r;refine ih ?_;dsimp only;rw [<- h.1,<- h.2.1];exact r.put _ h.2.2.1 h.2.2.2
theorem qQK (hc:X.calm=true) (hu:X.A.units+64<cLine):qCF X (.type "dict") (fun xs H Q=>∃ (p:Addr) (rs:List Addr) (ps:List (List Key × Addr × V)),xs=[.ref p]/\SqL X.K H p (rs.map V.ref)/\qOL H X.K rs ps/\∀ d,H d=none->Q (.ref d) (Ag H d (.dT (qBN [] ps)))):=by
 intro Ab s σ H xs us Q I r h;obtain ⟨p,rs,ps,rfl,hq,hp,q⟩:=h;obtain ⟨u,rfl,rx⟩:=qDO r;cases rx;obtain ⟨its,rv,pl,hz⟩:=I.list hq;obtain ⟨qs,h1,h2⟩:=qPT I hp;have l0:=rv.length;rw [A0] at l0;have l1:rs.length=qs.length:=C6 h1;have l2:ps.length=qs.length:=C6 h2;obtain ⟨o,ho,hoc,hod,n,hdat⟩:=qHZ pl;rw [A0] at hz;refine qL3 (ps:=qs) hu (I.ok.hd hc) ho hoc hdat hod (by simp;lia) (by simp;lia) (fun i v hv=>?_) fun h' tk hd' hk=>?_
 ·have hv':its[i]?=some v:=by simpa using hv
  have hi:i<rs.length:=by rw [l0];exact (A5.mp hv').1
  obtain ⟨u,hu,ru⟩:=rv.get (i:=i) (x:=.ref rs[i]) (by rw [B5,A3 hi];rfl)
  rw [hv'] at hu;cases hu;cases ru;obtain ⟨b,hb,ht⟩:=qFZ h1 (A3 hi);obtain ⟨b',hb',e1,e2,e3,e4⟩:=qFZ h2 (i:=i) (a:=ps[i]'(by lia)) (A3 _)
  rw [hb] at hb';cases hb';rw [e1,e2] at e3;exact ⟨rs[i],b.1,b.2.1,b.2.2,rfl,ht,qJG I.hok e3,hb⟩
 ·have z:(qBN [] ps).length<=sizeLine:=by
   have:=qHX ps [];simp at this
   lia
  have hn:H s.heap.objs.size=none:=I.hok.fresh (A6 _);obtain ⟨o,es,ep,d1,d2,d3,d4,_,d5⟩:=hd';refine ⟨.ref s.heap.objs.size,_,I.laid (a:=s.heap.objs.size) (o:=.dT (qBN [] ps)) (t':=tk) hk (A6 _) ⟨z,beq_eq_false_iff_ne.mpr (J4 (C2 I.big)),_,(qUE h2 .nil).keeps fun c ys ec=>?_,o,es,ep,d1,d2,d3,d4,d5⟩,rfl,q _ hn⟩
  first
   | exact ec
   | (rw [qAC (qA7 ec hn)];exact ec)
theorem qE7:OpR X (binaryOp .Add) (fun x y H Q=>∃ a b xs ys,x=.ref a/\y=.ref b/\H a=some (.tup xs)/\H b=some (.tup ys)/\xs.length+ys.length<=sizeLine/\∀ p H',Same H H'->H' p=some (.tup (xs++ys))->Q (.ref p) H'):=by
 intro Ab s σ H x y v u Q I rx ry h;obtain ⟨a,b,xs,ys,rfl,rfl,ga,gb,hz,q⟩:=h;by_cases hx:xs=[]
 ·subst hx;cases rx;cases ry;obtain ⟨its,r1,p1,_⟩:=I.tuple (SqT.of ga);obtain ⟨its2,r2,p2,_⟩:=I.tuple (SqT.of gb);cases r1;obtain ⟨⟨cls,dd,data,sl⟩,ho,hc,n,hd⟩:=id p1;obtain ⟨⟨cls2,dd2,data2,sl2⟩,ho2,hc2,n2,hd2⟩:=id p2;simp only at hc hd hc2 hd2;subst hc hd hc2 hd2;exact concat_meets ⟨_,ho,rfl⟩ ⟨_,ho2,rfl⟩ noFill_tuple_add seq_tuple_add Y9 X6 (W7 _ _) (tuple_addW0 a b #[] its2.toArray n n2 dd dd2 sl sl2 rfl) ⟨ho,ho2,.ref b,H,I,rfl,q b H (fun _ _ e=>e) gb⟩
 ·exact qX9 Ab s σ H (.ref a) (.ref b) v u Q I rx ry ⟨a,b,xs,ys,rfl,rfl,SqT.of ga,SqT.of gb,.inl ⟨hx,ga⟩,hz,q⟩
end
end L2
namespace L2
open PySem PySem.Spec PyProof.Rows
theorem qWI:bootBuiltins "any" = some (.builtin "any"):=by decide +kernel
theorem qTG:bootBuiltins "sum" = some (.builtin "sum"):=by decide +kernel
theorem qPU (bs:List Bool):((E6 bs.length).any fun i=>(bs[i]?).getD false)=bs.any id:=by
 rw [O7,d9,d9]
 constructor
 ·rintro ⟨i,hi,h⟩;have hi':=D6.mp hi;rw [A3 hi'] at h;exact ⟨_,d8 hi',h⟩
 ·rintro ⟨b,hb,h⟩;obtain ⟨i,hi,e⟩:=u0 hb;exact ⟨i,D6.mpr hi,by rw [A3 hi,e];exact h⟩
section
variable {X:Cx}
theorem qP9 (hc:X.calm=true):qCF X (.builtin "any") (fun xs H Q=>∃ (p:Addr) (bs:List Bool),xs=[.ref p]/\SqL X.K H p (bs.map V.bl)/\Q (.bl (bs.any id)) H):=by
 intro Ab s σ H xs us Q I r h;obtain ⟨p,bs,rfl,hq,q⟩:=h;obtain ⟨u,rfl,rx⟩:=qDO r;cases rx;obtain ⟨its,rv,pl,hz⟩:=I.list hq;have hl:=pl.isList;have hlt:p<s.heap.objs.size:=by obtain ⟨_,e,_⟩:=hl;exact B3 e
 have hlen:=rv.length;rw [A0] at hlen;refine call_any_walk (wpAny_pyIter_list hl ?_);refine ⟨s.heap.objs.size,[s.heap.objs.size,p],[s.heap.objs.size],its.toArray.size,_,_,fun i=>(bs[i]?).getD false,rfl,A45 (A:=X.A.in1) (I.ok.hd hc) _ p (C2 hlt) its.toArray,
  ⟨⟨_,A9 _ rfl,rfl,rfl⟩,hl.push _⟩,fun i v s' Q' E' hP hQ=>?_,fun h' tk hk=>?_⟩
 ·have hP':its[i]?=some v:=by simpa using hP
  have hi:i<bs.length:=by rw [hlen];exact (A5.mp hP').1
  obtain ⟨u,hu,ru⟩:=rv.get (i:=i) (x:=.bl bs[i]) (by rw [B5,A3 hi];rfl)
  rw [hP'] at hu;cases hu;cases ru;dsimp only at hQ;rw [A3 hi,Y6] at hQ;exact wpAny_truthy_bool hQ
 ·have e:((E6 its.toArray.size).any fun i=>(bs[i]?).getD false)=bs.any id:=by
   rw [C0,<- hlen];exact qPU bs
  refine ⟨.bl (bs.any id),H,I.kept fun b x e=>hk b x (fun hm=>by rw [A8.mp hm] at e;exact X5 _ (B3 e)) (A4 _ e),?_,q⟩
  rw [e]
  rfl
end
end L2
namespace L2
open PySem PySem.Spec PyProof.Rows
section
variable {prog:Program} {w:World} {A:Around} {E:Value->Shared->Prop} {s:Shared}
end
section
variable {prog:Program} {w:World} {A:Around} {E:Value->Shared->Prop} {s:Shared}
end
section
variable {X:Cx}
def qZQ (H:Hp) (a:Addr) (xs:List V):Prop:=∃ o:Obj,H a=some (.frz o (.tup xs))/\o.cls=.type "tuple"/\o.dict=none
end
end L2
namespace L2
open PySem PySem.Spec PyProof.Rows
section
variable {X:Cx}
theorem qQ1 (hu:X.A.units<cLine):OpR X (compareOp .NotEq) (fun x y H Q=>∃ p l xs,x=.ref p/\y=.ref l/\SqT X.K H p xs/\SqT X.K H l []/\Q (.bl (!xs.isEmpty)) H):=by
 intro Ab s σ H x y v u Q I rx ry h;obtain ⟨p,l,xs,rfl,rfl,h1,h2,q⟩:=h;cases rx;cases ry;obtain ⟨its,r1,p1,z1⟩:=I.tuple h1;obtain ⟨its2,r2,p2,z2⟩:=I.tuple h2;cases r2;cases r1 with
 | nil=>exact d6 (e:=fun _=>true) p1 p2 hu (fun j h _=>absurd h (by simp)) _ _ _ _ ⟨.bl false,H,I,rfl,q⟩
 | cons a r=>exact d6 (e:=fun _=>true) p1 p2 hu (fun j _ h=>absurd h (by simp)) _ _ _ _ ⟨.bl true,H,I,rfl,q⟩
end
end L2
namespace HT
open PySem PySem.Spec PyProof.Rows
section
variable {prog:Program} {w:World} {A:Around} {E:Value->Shared->Prop} {s:Shared}
theorem getItem_tuple_whole {t sl:Addr} {items:Array Value} {vl vu:Value} {lo hi:Option Int} {Q:Value->Shared->Prop} (ht:IsTup s.heap t items) (hs:s.heap.IsSliceOf sl vl vu .none) (pl:IsPart vl lo) (pu:IsPart vu hi)
  (hw:sIx items.size 0 lo=0/\sIx items.size items.size hi=items.size) (h:Q (.ref t) s):wpAny (model prog w) A (getItem (.ref t) (.ref sl)) Q E s:=by
 obtain ⟨os,hos,hcs,hds⟩:=id hs;have hTs:s.TypeIs (.ref sl) "slice":=⟨os,hos,hcs⟩;unfold getItem
 try with_reducible refine wpAny_holding ?_
 first | refine wpAny_bind (wpAny_pure ?_) | skip
 refine wpAny_bind (wpAny_sequenceKey ht.typeIs (by decide) ?_)
 refine wpAny_bind (wpAny_callSpecial?_slot (name:=D2 "__getitem__") ht.typeIs E3
  (wpAny_call_entry E3 ht.typeIs entry_tuple_getitem ?_ (args_tuple_getitem _ _)))
 show wpAny _ _ (T3 (.ref t) >>= _) _ _ s;refine wpAny_bind (tupleItemsOf_ ht ?_);refine wpAny_bind (wpAny_typeOf hTs ?_);rw [if_pos (by decide)]
 refine wpAny_bind (qEG hs pl pu ?_);have hyes:(((sIx items.size 0 lo:Nat):Int) == 0 && (1:Int) == 1 && (sIx items.size items.size hi - sIx items.size 0 lo) == items.size)=true:=by
  rw [hw.1,hw.2];simp
 show wpAny _ _ (if (((sIx items.size 0 lo:Nat):Int) == 0 && (1:Int) == 1 && (sIx items.size items.size hi - sIx items.size 0 lo) == items.size)=true then _ else _) _ _ s
 rw [if_pos hyes];unfold Builtin.Tuple.tupleIsExact;refine wpAny_bind (wpAny_bind (wpAny_typeOf ht.typeIs (wpAny_pure ?_)));rw [if_pos (by decide)]
 exact wpAny_bind (wpAny_rule (wpAny_pure ⟨_,rfl,wpAny_pure h⟩))
end
end HT
namespace L2
open PySem PySem.Spec PyProof.Rows
section
variable {X:Cx}
end
section
variable {A:Around} {s:Shared}
end
section
variable {X:Cx}
end
end L2
namespace L2
open PySem PySem.Spec PyProof.Rows
section
variable {X:Cx}
end
end L2
namespace L2
open PySem PySem.Spec PyProof.Rows
section
variable {X:Cx} {e:Expr} {te:TE} {st:Option Expr} {tst:TO} {pos p2:Pos}
end
end L2
namespace L2
open PySem PySem.Spec PyProof.Rows
section
variable {X:Cx}
end
end L2
namespace L2
open PySem PySem.Spec PyProof.Rows
section
variable {prog:Program} {w:World} {A:Around} {E:Value->Shared->Prop} {s:Shared}
end
section
variable {X:Cx}
end
end L2
namespace L2
open PySem PySem.Spec PyProof.Rows
end L2
namespace L2
open PySem PySem.Spec PyProof.Rows
section
variable {prog:Program} {w:World} {A:Around} {R:Result->Shared->Prop} {h:Heap} {g:Array GenState} {d:Drawn} {t:Nat} {os:OsState} {K:PySem.W.Frag} {C fI:Addr} {rest:List Value}
end
end L2
namespace L2
open PySem PySem.Spec PyProof.Rows
section
variable {X:Cx}
def TB:Type:=(St->XK)->TS
end
end L2
namespace L2
open PySem PySem.Spec PyProof.Rows
section
variable {prog:Program} {w:World} {A:Around} {E:Value->Shared->Prop} {s:Shared}
end
section
variable {X:Cx} {pos:Pos}
end
end L2
namespace L2
open PySem PySem.Spec PyProof.Rows
section
variable {X:Cx} {tg:Expr}
def tFrz (t:TE):TE:=fun σ H Q=>t σ H fun v H1=>∃ d Af,v=.ref d/\H1 d=some (.dK Af)/\∀ o,Q v (Ag H1 d (.frz o (.dK Af)))
theorem Inv.freeze {Ab:List (Addr × Obj)} {σ:St} {H:Hp} {s:Shared} {d:Addr} {Af:List (Key × V)} (I:Inv X Ab σ H s) (h:H d=some (.dK Af)):∃ o,Inv X Ab σ (Ag H d (.frz o (.dK Af))) s:=by
 have ok:=I.hok d _ h;obtain ⟨hz,hd,vs,rel,o,es,ep,ho,r⟩:=id ok;refine ⟨o,?_⟩;have:=I.write (h':=s.heap) (t':=s.toks) (x:=d) (e:=d) (o:=.frz o (.dK Af)) (by rw [h];trivial) (.inl rfl) (fun b u _ q=>q) ⟨o,ho⟩ ⟨ho,ok⟩
 exact this
theorem qZ1 {e:Expr} {t:TE} (he:PE X e t):PE X e (tFrz t):=by
 intro Ab s σ H Q I h;refine thn (he Ab s σ H _ I h) fun v s1 ⟨x,H1,I1,r1,d,Af,e,hd,q⟩=>?_;obtain ⟨o,I2⟩:=I1.freeze hd;exact ⟨x,_,I2,r1,q o⟩
noncomputable def Itk (a:Addr) (o:Obj) (Af:List (Key × V)):It:=
 ⟨fun i H=>i<Af.length/\H a=some (.frz o (.dK Af)),fun i H x H'=>H'=H/\∃ k v,Af[i]?=some (k,v)/\x=kV k,fun i H=>Af.length<=i/\H a=some (.frz o (.dK Af))⟩
theorem qUC {k:Key} {v:Value} (h:qM7 k v=true):RelV (kV k) v:=by
 rcases qBD h with ⟨i,t,rfl,rfl⟩ | ⟨x,t,rfl,rfl⟩
 ·exact ⟨t,rfl⟩
 ·exact ⟨t,rfl⟩
theorem Inv.heldD {Ab:List (Addr × Obj)} {σ:St} {H:Hp} {s:Shared} {d:Addr} {o:Obj} {Af:List (Key × V)} (I:Inv X Ab σ H s) (h:H d=some (.frz o (.dK Af))):s.heap.get? d=some o/\(d == sysModules)=false/\∃ vs ep,KV Af vs/\s.heap.DictAt (qB3 X.prog X.w) d vs ep/\(∃ es,o.data=.dict es ep):=by
 obtain ⟨ho,hz,hd,vs,rel,dd⟩:=(show ObjOk X.prog X.w H s.heap d (.frz o (.dK Af)) from I.hok d _ h);obtain ⟨ep,da⟩:=dd.dictAt;obtain ⟨o',es,ho',hc,hdat,r⟩:=id da;rw [ho] at ho';cases ho';exact ⟨ho,hd,vs,ep,rel,da,es,hdat⟩
theorem qPL {P:Program} {w:World} {K:PySem.W.Frag} {tg:Expr} (a it:Addr) (o:Obj) (Af:List (Key × V)) (ep:Nat) (es:_) (ho:o.data=.dict es ep):Turn P w K tg (Itk a o Af) [it] it (fun i h=>h.IsKeyIter it a i Af.length ep) where
 mem:=by simp
 obj:=fun i h st b hb=>by
  have e:b=it:=by simpa using hb
  subst e;obtain ⟨o,e,c,d⟩:=st;exact ⟨o,e,fun v z=>by rw [d] at z;cases z⟩
 keep:=fun i h h' st k=>st.at fun o e=>k it (by simp) o e
 item:=by
  intro X hP hw hK hc i Ab s σ H E I hf st hg;subst hP hw hK;obtain ⟨hi,hq⟩:=hg;obtain ⟨e1,e2,vs,ep',rel,da,es',e3⟩:=I.heldD hq;rw [ho] at e3;cases e3;obtain ⟨f0,f1,f2,f3,f4,f5⟩:=hf it (by simp)
  have lv:vs.length=Af.length:=rel.length.symm;rw [<- lv] at st;obtain ⟨⟨k,x⟩,hx⟩:∃ p,vs[i]?=some p:=⟨vs[i]'(by lia),A3 (by lia)⟩
  obtain ⟨⟨k',v'⟩,hx'⟩:∃ p,Af[i]?=some p:=⟨Af[i],A3 hi⟩;have ek:k'=k:=by
   have h1:(Af.map (·.1))[i]?=some k':=by rw [B5,hx'];rfl
   have h2:(vs.map (·.1))[i]?=some k:=by rw [B5,hx];rfl
   rw [rel.keys,h2] at h1;cases h1
   rfl
  refine wpAny_pyNext_dict_item st da hx fun key h' hkey hit' hs'=>?_;have I1:Inv X Ab σ H { s with heap:=h' }:=I.turned (t':=s.toks) (fun b o hb e=>(hs'.2 b hb).trans e) f0 f1 f3 f4 f5;rw [lv] at hit';obtain ⟨oi,ei,c,d⟩:=id hit';exact ⟨key,rfl,qQ7 (s:={ s with heap:=h' }) ei c d (by decide) ⟨kV k,H,I1,qUC hkey,⟨rfl,k',v',hx',by rw [ek]⟩,hit',fun b hb=>(hf b hb).1⟩⟩
 done:=by
  intro X hP hw hK hc i Ab s σ H E I hf st hg;subst hP hw hK;obtain ⟨hi,hq⟩:=hg;obtain ⟨e1,e2,vs,ep',rel,da,es',e3⟩:=I.heldD hq;rw [ho] at e3;cases e3;obtain ⟨f0,f1,f2,f3,f4,f5⟩:=hf it (by simp)
  have lv:vs.length=Af.length:=rel.length.symm;rw [<- lv] at st;exact wpAny_pyNext_dict_end (I.ok.hd hc) st da (by simp;lia) fun h' eb=>⟨rfl,I.turned (t':=s.toks) (fun b o hb e=>eb b o hb e) f0 f1 f3 f4 f5⟩
 self:=fun _ _ _ _ _ st h=>wpAny_pyIter_keyiter st h
def qZH (tl:TE):TI:=fun σ H R=>tl σ H fun x H1=>∃ a o Af,x=.ref a/\H1 a=some (.frz o (.dK Af))/\R (Itk a o Af) H1
theorem qOJ {l:Expr} {tl:TE} (hl:PE X l tl):PI X tg l (qZH tl):=by
 intro Ab s σ H R I h;refine thn (hl Ab s σ H _ I h) fun v s1 ⟨x,H1,I1,r1,q1⟩=>?_;obtain ⟨a,o,Af,e,hq,q⟩:=q1;subst e;cases r1;obtain ⟨e1,e2,vs,ep,rel,da,es,e3⟩:=I1.heldD hq;have lv:vs.length=Af.length:=rel.length.symm;refine wpAny_pyIter_dict e2 da ?_;refine ⟨s1.heap.objs.size,[s1.heap.objs.size],_,_,H1,rfl,I1.kept (t':=s1.toks) fun b o e=>A4 _ e,qPL a _ o Af ep es e3,⟨_,A9 _ rfl,rfl,by rw [lv];rfl⟩,fun b hb=>?_,q⟩
 have e:b=s1.heap.objs.size:=by simpa using hb
 subst e;exact I1.fpOk (A6 _) (I1.hok.fresh (A6 _))
end
theorem qUV {a:Addr} {o:Obj} {Af:List (Key × V)} {g:TG} {tc:TT} {te:TE} {Kf:Hp->Prop} {σ0:St} {H0:Hp} {p:Addr} (Pv:Nat->St->Hp->Prop) (h0:Pv 0 σ0 H0) (hl:∀ i σ H,i<=Af.length->Pv i σ H->H a=some (.frz o (.dK Af)))
  (hs:∀ i k v σ H,Af[i]?=some (k,v)->Pv i σ H->g (kV k) σ H fun σ2 H2=>tc σ2 H2 fun b H3=>if b=true then te σ2 H3 fun y H4=>∃ ys,H4 p=some (.lst ys)/\ys.length<sizeLine/\Pv (i+1) σ2 (Ag H4 p (.lst (ys++[y]))) else Pv (i+1) σ2 H3)
  (hd:∀ σ H,Pv Af.length σ H->Kf H) :
  LcG (Itk a o Af) g tc te Kf σ0 H0 p:=by
 refine ⟨fun i m σ H=>m=Af.length - i/\i<=Af.length/\Pv i σ H,⟨Af.length,by simp,D8 _,h0⟩,?_⟩
 rintro i m σ H ⟨rfl,hi,q⟩;have hq:=hl i σ H hi q;by_cases hlt:i<Af.length
 ·refine .inr ⟨⟨hlt,hq⟩,Pv (i+1),fun σ' H' p'=>⟨Af.length - (i+1),by lia,rfl,hlt,p'⟩,fun x H' y=>?_⟩
  obtain ⟨e,k,v,e2,e3⟩:=y;subst e e3;exact hs i k v σ _ e2 q
 ·have e:i=Af.length:=by lia
  subst e;exact .inl ⟨⟨A6 _,hq⟩,hd σ H q⟩
theorem qSO {a:Addr} {o:Obj} {Af:List (Key × V)} {g:TG} {tb:TS} {D:Ends} {σ:St} {H:Hp} (Pv:Nat->St->Hp->Prop) (h0:Pv 0 σ H) (hl:∀ i σ H,i<=Af.length->Pv i σ H->H a=some (.frz o (.dK Af)))
  (hs:∀ i k v σ H,Af[i]?=some (k,v)->Pv i σ H->g (kV k) σ H fun σ2 H2=>tb { D with nx:=Pv (i+1),ct:=Pv (i+1),bk:=D.nx } σ2 H2) (hd:∀ σ H,Pv Af.length σ H->D.nx σ H) :
  ForG (Itk a o Af) g tb D σ H:=by
 refine ⟨fun i m σ H=>m=Af.length - i/\i<=Af.length/\Pv i σ H,⟨Af.length,by simp,D8 _,h0⟩,?_⟩
 rintro i m σ H ⟨rfl,hi,p⟩;have q:=hl i σ H hi p;by_cases hlt:i<Af.length
 ·refine .inr ⟨⟨hlt,q⟩,Pv (i+1),fun σ' H' p'=>⟨Af.length - (i+1),by lia,rfl,hlt,p'⟩,fun x H' y=>?_⟩
  obtain ⟨e,k,v,e2,e3⟩:=y;subst e e3;exact hs i k v σ _ e2 p
 ·have e:i=Af.length:=by lia
  subst e;exact .inl ⟨⟨A6 _,q⟩,hd σ H p⟩
theorem qTC {X:Cx} {K:PySem.W.Frag} (hK:X.K=K) (hc:X.calm=true):qCF X (.builtin "sum") (fun xs H Q=>∃ (p:Addr) (ns:List Int),xs=[.ref p]/\SqL K H p (ns.map V.int)/\Q (.int ns.sum) H):=by subst hK;exact qL0 hc
end L2
namespace L2
open PySem PySem.Spec PyProof.Rows
section
variable {prog:Program} {w:World} {A:Around} {E:Value->Shared->Prop} {s:Shared} {it d:Addr} {i n ep:Nat} {od:Obj} {es:Array DictEntry}
theorem qSV {Q:Value->Shared->Prop} (hT:s.TypeIs (.ref d) "dict") (hd:(d == sysModules)=false) (ho:s.heap.get? d=some od) (he:od.data=.dict es ep)
  (hQ:Q (.ref s.heap.objs.size) { s with heap:=s.heap.push { cls:=.type "dict_keyiterator",data:=.fields #[.ref d,rawInt 0,rawInt es.size,rawInt ep] } }):wpAny (model prog w) A (pyIter (.ref d)) Q E s:=by
 apply wpAny_pyIter_slot hT B17;refine wpAny_call_entry B17 hT F.entry_dict_iter ?go (F.args_dict_iter_1 (.ref d));unfold Builtin.«dict.__iter__»;apply wpAny_bind;unfold Builtin.Dict.dictSlotNone;apply wpAny_bind;apply wpAny_notOrdered_dict hT;apply wpAny_pure;apply wpAny_bind;apply wpAny_pure;apply wpAny_bind;unfold Builtin.Dict.showsAll;rw [hd];apply wpAny_pure;apply wpAny_bind;apply wpAny_dictEntries ho he;apply wpAny_bind;apply wpAny_dictEpoch ho he;apply wpAny_bind;refine wpAny_newObj_type ?made;apply wpAny_pure;exact ⟨_,rfl,"dict_keyiterator",_,⟨_,A9 _ rfl,rfl⟩,P2.lookup,hQ⟩
def qTT (h:Heap) (it d:Addr) (i n ep:Nat):Prop:=h.get? it=some { cls:=.type "dict_keyiterator",data:=.fields #[.ref d,rawInt i,rawInt n,rawInt ep] }
theorem qSW {Q:Option Value->Shared->Prop} (hit:qTT s.heap it d i es.size ep) (ho:s.heap.get? d=some od) (he:od.data=.dict es ep) (hi:i<es.size)
  (hQ:∀ h',qTT h' it d (i+1) es.size ep->Heap.SameBut it s.heap h'->Q (some es[i].key) { s with heap:=h' }):wpAny (model prog w) A (pyNext (.ref it)) Q E s:=by
 have hT:s.TypeIs (.ref it) "dict_keyiterator":=⟨_,hit,rfl⟩;unfold pyNext;apply wpAny_bind;apply wpAny_attempt;apply wpAny_callSpecial?_slot (name:=D2 "__next__") hT P2;refine wpAny_call_entry P2 hT n8 ?go (m7 (.ref it));apply wpAny_bind;apply wpAny_pure;apply wpAny_bind;apply wpAny_bind;apply wpAny_bind
 first | apply wpAny_typeNameOfWhole_keyiter hT | apply wpAny_typeNameOf_keyiter hT
 apply wpAny_pure;apply wpAny_bind;refine wpAny_fieldsOf hit rfl ?fs;have own0:p8 "dict_keyiterator" = false:=by decide
 have nn:((F3 d == L7)=true)->False:=fun z=>by cases z
 simp only [own0,E9,if_false];show wpAny _ _ (if (F3 d == L7)=true then _ else _) _ _ s
 rw [if_neg nn];apply wpAny_bind;apply wpAny_pure;apply wpAny_bind;apply wpAny_dictEntries ho he;rw [if_neg (by simp)]
 apply wpAny_bind;apply wpAny_pure;apply wpAny_bind;apply wpAny_dictEpoch ho he;rw [if_neg (by simp)]
 apply wpAny_pure;have pos:¬ ((i:Int)<0):=Int.not_lt.mpr (Z4 i);simp only [pos,if_false,F0,B7 hi];apply wpAny_bind;apply wpAny_bind
 first | apply wpAny_typeNameOfWhole_keyiter hT | apply wpAny_typeNameOf_keyiter hT
 apply wpAny_pure;apply wpAny_bind;apply wpAny_isOneOf_keyiter hT;show wpAny _ _ (setField (.ref it) 1 (rawInt ((i:Int)+1)) >>= _) _ _ s;apply wpAny_bind;refine wpAny_setField hit rfl (by show 1<4;decide) ?set
 have hit':qTT (s.heap.update it (b7 (·.setIfInBounds 1 (rawInt ((i:Int)+1))))) it d (i+1) es.size ep:=L5 _ hit rfl;apply wpAny_bind;apply wpAny_holding;apply wpAny_bind;refine wpAny_isOneOf_keyiter (s:={ s with heap:=s.heap.update it (b7 (·.setIfInBounds 1 (rawInt ((i:Int)+1)))) }) ⟨_,hit',rfl⟩ ?one;apply wpAny_pure;apply wpAny_pure;exact ⟨_,rfl,wpAny_pure (hQ _ hit' (M8 ..))⟩
theorem qVC {Q:Option Value->Shared->Prop} (hh:A.handled=none) (hit:qTT s.heap it d i es.size ep) (hi:es.size<=i) (ho:s.heap.get? d=some od) (he:od.data=.dict es ep)
  (hQ:∀ h',Heap.ExtBut it s.heap h'->Q none { s with heap:=h' }):wpAny (model prog w) A (pyNext (.ref it)) Q E s:=by
 have hT:s.TypeIs (.ref it) "dict_keyiterator":=⟨_,hit,rfl⟩;unfold pyNext;apply wpAny_bind;apply wpAny_attempt;apply wpAny_callSpecial?_slot (name:=D2 "__next__") hT P2;refine wpAny_call_entry P2 hT n8 ?go (m7 (.ref it));apply wpAny_bind;apply wpAny_pure;apply wpAny_bind;apply wpAny_bind;apply wpAny_bind
 first | apply wpAny_typeNameOfWhole_keyiter hT | apply wpAny_typeNameOf_keyiter hT
 apply wpAny_pure;apply wpAny_bind;refine wpAny_fieldsOf hit rfl ?fs;have own0:p8 "dict_keyiterator" = false:=by decide
 have nn:((F3 d == L7)=true)->False:=fun z=>by cases z
 simp only [own0,E9,if_false];show wpAny _ _ (if (F3 d == L7)=true then _ else _) _ _ s
 rw [if_neg nn];apply wpAny_bind;apply wpAny_pure;apply wpAny_bind;apply wpAny_dictEntries ho he;rw [if_neg (by simp)]
 apply wpAny_bind;apply wpAny_pure;apply wpAny_bind;apply wpAny_dictEpoch ho he;rw [if_neg (by simp)]
 apply wpAny_pure;have pos:¬ ((i:Int)<0):=Int.not_lt.mpr (Z4 _);simp only [pos,if_false,F0,A25 hi];apply wpAny_bind;apply wpAny_bind
 first | apply wpAny_typeNameOfWhole_keyiter hT | apply wpAny_typeNameOf_keyiter hT
 apply wpAny_pure;show wpAny _ _ (setField (.ref it) 0 .none >>= _) _ _ s;apply wpAny_bind;refine wpAny_setField hit rfl (by show 0<4;decide) ?set
 have eb:Heap.ExtBut it s.heap (s.heap.update it (b7 (·.setIfInBounds 0 L7))):=fun b o hb e=>(J1 _ _ (J4 hb)).trans e;show wpAny _ _ (newExc (.type "StopIteration") [] >>= _) _ _ _;apply wpAny_bind;simp only [newExc,newTuple];apply wpAny_bind;refine wpAny_newObj_type ?t1 (by size_fits)
 refine wpAny_bind (m:=firstArgMember _ _) (wpAny_of_eq (a:=L7) (by first | rfl | (simp only [firstArgMember];rfl)) ?t2)
 refine wpAny_newObj_type ?t3 (by size_fits)
 simp only [raiseNew];apply wpAny_bind;apply wpAny_handled;rw [show A.in1.handled=none from hh]
 first | apply wpAny_throw | (apply wpAny_bind;apply wpAny_pure;apply wpAny_throw)
 apply wpAny_bind;refine wpAny_isInstance (T:="StopIteration") (b:=true) ⟨_,A9 _ rfl,rfl⟩ isSubtype_stop ?t4;exact wpAny_pure (hQ _ ((eb.push _).push _))
end
section
variable {X:Cx} {tg:Expr}
def qa2 (t:TE):TE:=fun σ H Q=>t σ H fun v H1=>∃ d Af,v=.ref d/\H1 d=some (.dT Af)/\∀ o,Q v (Ag H1 d (.frz o (.dT Af)))
theorem Inv.freezeT {Ab:List (Addr × Obj)} {σ:St} {H:Hp} {s:Shared} {d:Addr} {Af:List (List Key × V)} (I:Inv X Ab σ H s) (h:H d=some (.dT Af)):∃ o,Inv X Ab σ (Ag H d (.frz o (.dT Af))) s:=by
 have ok:=I.hok d _ h;obtain ⟨hz,hd,xs,rel,o,es,ep,ho,r⟩:=id ok;refine ⟨o,I.write (h':=s.heap) (t':=s.toks) (x:=d) (e:=d) (o:=.frz o (.dT Af)) (by rw [h];trivial) (.inl rfl) (fun b u _ q=>q) ⟨o,ho⟩ ⟨ho,?_⟩⟩
 refine (show ObjOk X.prog X.w H s.heap d (.dT Af) from ok).stay (fun b u _ q=>q) (fun b q=>?_) (fun b ys q=>?_) fun b t q=>?_
 ·rw [qAC (qDV q h (by intro z;cases z))];exact q
 ·rw [qAC (qDV q h (by intro z;cases z))];exact q
 ·rw [qAC (qDV q h (by intro z;cases z))];exact q
theorem qRK {e:Expr} {t:TE} (he:PE X e t):PE X e (qa2 t):=by
 intro Ab s σ H Q I h;refine thn (he Ab s σ H _ I h) fun v s1 ⟨x,H1,I1,r1,d,Af,e,hd,q⟩=>?_;obtain ⟨o,I2⟩:=I1.freezeT hd;exact ⟨x,_,I2,r1,q o⟩
def ItT (a:Addr) (o:Obj) (Af:List (List Key × V)):It:=
 ⟨fun i H=>i<Af.length/\H a=some (.frz o (.dT Af)),fun i H x H'=>H'=H/\∃ k v r,Af[i]?=some (k,v)/\x=.ref r/\H r=some (.tup (k.map kV)),fun i H=>Af.length<=i/\H a=some (.frz o (.dT Af))⟩
theorem Inv.heldT {Ab:List (Addr × Obj)} {σ:St} {H:Hp} {s:Shared} {d:Addr} {o:Obj} {Af:List (List Key × V)} (I:Inv X Ab σ H s) (h:H d=some (.frz o (.dT Af))) :
  s.heap.get? d=some o/\(d == sysModules)=false/\o.cls=.type "dict"/\∃ es ep,o.data=.dict es ep/\es.size=Af.length/\∀ (i:Nat) (hi:i<es.size),∃ k v r,Af[i]?=some (k,v)/\es[i].key=.ref r/\H r=some (.tup (k.map kV)):=by
 obtain ⟨ho,hz,hd,xs,rel,o',es,ep,ho',hc,hdat,eq,nd⟩:=(show ObjOk X.prog X.w H s.heap d (.frz o (.dT Af)) from I.hok d _ h);rw [ho] at ho';cases ho';have lx:xs.length=Af.length:=rel.length.symm;have le:es.size=xs.length:=by rw [<- B2,eq,A0]
 refine ⟨ho,hd,hc.1,es,ep,hdat,le.trans lx,fun i hi=>?_⟩;have hi2:i<xs.length:=by lia
 have hi3:i<Af.length:=by lia
 have h1:=A3 hi3;obtain ⟨x,hx,e1,e2,e3⟩:=qFZ rel h1;refine ⟨Af[i].1,Af[i].2,x.2.1,h1,?_,e2⟩;have h3:es[i]?=some (entryOfKey (tupleKind (qB3 X.prog X.w)) x):=by rw [<- F6,eq,B5,hx];rfl
 rw [B7 hi] at h3;rw [I0 h3]
 rfl
theorem qPK {P:Program} {w:World} {K:PySem.W.Frag} {tg:Expr} (a it:Addr) (o:Obj) (Af:List (List Key × V)) (ep:Nat) (es:_) (ho:o.data=.dict es ep):Turn P w K tg (ItT a o Af) [it] it (fun i h=>qTT h it a i Af.length ep) where
 mem:=by simp
 obj:=fun i h st b hb=>by
  have e:b=it:=by simpa using hb
  subst e;exact ⟨_,st,fun v z=>by cases z⟩
 keep:=fun i h h' st k=>k it (by simp) _ st
 item:=by
  intro X hP hw hK hc i Ab s σ H E I hf st hg;subst hP hw hK;obtain ⟨hi,hq⟩:=hg;obtain ⟨e1,e2,e3,es',ep',e4,e5,get⟩:=I.heldT hq;rw [ho] at e4;cases e4;obtain ⟨f0,f1,f2,f3,f4,f5⟩:=hf it (by simp)
  rw [<- e5] at st;have hi2:i<es.size:=by lia
  obtain ⟨k,v,r,g1,g2,g3⟩:=get i hi2;refine qSW st e1 ho hi2 fun h' hit' hs'=>?_;have I1:Inv X Ab σ H { s with heap:=h' }:=I.turned (t':=s.toks) (fun b o hb e=>(hs'.2 b hb).trans e) f0 f1 f3 f4 f5;rw [e5] at hit';rw [g2];exact ⟨.ref r,rfl,qQ7 (s:={ s with heap:=h' }) hit' rfl rfl (by decide) ⟨.ref r,H,I1,rfl,⟨rfl,k,v,r,g1,rfl,g3⟩,hit',fun b hb=>(hf b hb).1⟩⟩
 done:=by
  intro X hP hw hK hc i Ab s σ H E I hf st hg;subst hP hw hK;obtain ⟨hi,hq⟩:=hg;obtain ⟨e1,e2,e3,es',ep',e4,e5,get⟩:=I.heldT hq;rw [ho] at e4;cases e4;obtain ⟨f0,f1,f2,f3,f4,f5⟩:=hf it (by simp)
  rw [<- e5] at st;exact qVC (I.ok.hd hc) st (by lia) e1 ho fun h' eb=>⟨rfl,I.turned (t':=s.toks) (fun b o hb e=>eb b o hb e) f0 f1 f3 f4 f5⟩
 self:=fun _ _ _ _ _ st h=>wpAny_pyIter_keyiter ⟨_,st,rfl,rfl⟩ h
def qZG (tl:TE):TI:=fun σ H R=>tl σ H fun x H1=>∃ a o Af,x=.ref a/\H1 a=some (.frz o (.dT Af))/\R (ItT a o Af) H1
theorem qOI {l:Expr} {tl:TE} (hl:PE X l tl):PI X tg l (qZG tl):=by
 intro Ab s σ H R I h;refine thn (hl Ab s σ H _ I h) fun v s1 ⟨x,H1,I1,r1,q1⟩=>?_;obtain ⟨a,o,Af,e,hq,q⟩:=q1;subst e;cases r1;obtain ⟨e1,e2,e3,es,ep,e4,e5,get⟩:=I1.heldT hq;refine qSV ⟨_,e1,e3⟩ e2 e1 e4 ?_;refine ⟨s1.heap.objs.size,[s1.heap.objs.size],_,_,H1,rfl,I1.kept (t':=s1.toks) fun b o e=>A4 _ e,qPK a _ o Af ep es e4,by rw [e5];exact A9 _ rfl,fun b hb=>?_,q⟩
 have e:b=s1.heap.objs.size:=by simpa using hb
 subst e;exact I1.fpOk (A6 _) (I1.hok.fresh (A6 _))
end
section
variable {X:Cx} {k v:Expr} {tk tv:TE} {pos:Pos}
end
end L2
namespace L2
open PySem PySem.Spec PyProof.Rows
section
variable {X:Cx} {Ab:List (Addr × Obj)} {σ:St} {H:Hp} {s:Shared}
structure LmScope (X:Cx) (scope:Scope) (p:Str) (fv:List Nat):Prop where
 kind:scope.kind=.function
 co:scope.isCoroutine=false
 gen:scope.isGenerator=false
 nocell:∀ y ∈ scope.names,y.2 ≠ .cell
 par:scope.names.lookup p=some .local
 free:∀ y ∈ scope.names,y.2=.free->X.env.kindOf y.1=some .cell\/X.env.kindOf y.1=some .free
 fvs:∀ i ∈ fv,i<X.N.length/\scope.names.lookup (X.N.getD i Z7)=some .free
structure LmZ where
 A:Around
 f:Addr
 cd:Value
 s₀:Shared
 H₀:Hp
 rm:Room 0 A
noncomputable def qXE (fv:List Nat) (σ:St) (x:V):St:=some x::fv.map fun i=>(σ[i]?).join
end
end L2
namespace L2
open PySem PySem.Spec PyProof.Rows
abbrev Sm0 (H H':Hp):Prop:=∀ b o,H b=some o->H' b=some o
section
variable {X:Cx}
structure KCmp (X:Cx) (KR:Hp->V->List Int->Prop):Prop where
 mono:∀ H H' y k,Sm0 H H'->KR H y k->KR H' y k
 cmp:∀ (Ab:List (Addr × Obj)) (σ:St) (s:Shared) (H:Hp) (y y':V) (u u':Value) (k k':List Int) (Q:Value->Shared->Prop) (E:Value->Shared->Prop),Inv X Ab σ H s->RelV y u->RelV y' u'->KR H y k->KR H y' k'->Q (.bool (HT.lexLt k k')) s->
  wpAny (model X.prog X.w) X.A.in1 (richCompare .Lt u u') Q E s
structure KeyAt (X:Cx) (σ:St) (fv:List Nat) (te:TE) (KR:Hp->V->List Int->Prop) (H0:Hp) (xs:List V) (ks:List (List Int)):Prop where
 len:ks.length=xs.length
 key:∀ (i:Nat) (x:V) (k:List Int),xs[i]?=some x->ks[i]?=some k->∀ Hc,Sm0 H0 Hc->te (qXE fv σ x) Hc fun y H'=>Sm0 Hc H'/\KR H' y k
section
variable {Ab:List (Addr × Obj)} {σ:St} {params:Arguments} {body:Expr} {scope:Scope} {p:Str} {fv:List Nat} {q:Str} {te:TE} {KR:Hp->V->List Int->Prop} {l f cc:Addr} {ctv:Value} {H0:Hp} {xs:List V} {ks:List (List Int)} {Q:VK}
end
end
end L2
namespace L2
open PySem PySem.Spec PyProof.Rows
section
variable {X:Cx}
end
structure LTab where
 x:Str
 c:Addr
 P:Addr
 q:Str
end L2
namespace L2
open PySem PySem.Spec PyProof.Rows
section
variable {prog:Program} {w:World} {A:Around} {E:Value->Shared->Prop} {s:Shared}
end
section
variable {X:Cx}
end
end L2
namespace L2
open PySem PySem.Spec PyProof.Rows
section
open PySem.SeqAt
open PySem.AutoSeq1 (wpAny_loadPart')
open PySem.MeetsSeq PySem.MeetsSeq2 PySem.MeetsSeq3
theorem qFG:∀ {vs:List Value} {ns:List Int},IntsAre vs ns->∀ (j:Nat) (hj:j<vs.length),∃ n t,ns[j]?=some n/\vs[j]=.int n t
 | _,_,.cons a t h,0,_=>⟨a,t,rfl,rfl⟩
 | _,_,.cons a t h,j+1,hj=>qFG h j (Nat.lt_of_succ_lt_succ hj)
end
section
variable {X:Cx}
end
end L2
namespace L2.GS
open PySem PySem.Spec PyProof.Rows
section
variable [NM]
variable {prog:Program} {w:World} {A:Around} {E:Value->Shared->Prop} {s:Shared}
end
noncomputable def qaC (L:List (List Int)) (a:List Int):Int:=(((L.filter fun x=>HT.lexLt x a).length:Nat):Int)
noncomputable def qUZ (xs:List V):List Int:=xs.map fun | .int i=>i | _=>0
theorem qSB (t:List Int):qUZ (t.map V.int)=t:=by
 unfold qUZ;rw [m5];exact (Y3 fun x _=>rfl).trans (List.map_id _)
noncomputable def keyH (H:Hp):Value->List Int
 | .ref r=>match H r with
  | some (.tup xs)=>qUZ xs
  | _=>[]
 | _=>[]
@[reducible] def tupNM (H:Hp) (L:List (List Int)):NM:=⟨fun v=>qaC L (keyH H v),fun v=>∃ r t,v=.ref r/\H r=some (.tup (t.map V.int))/\t ∈ L⟩
theorem keyH_at {H:Hp} {r:Addr} {t:List Int} (h:H r=some (.tup (t.map V.int))):keyH H (.ref r)=t:=by
 show (match H r with | some (.tup xs)=>qUZ xs | _=>[])=t
 rw [h];exact qSB t
section
variable {prog:Program} {w:World} {A:Around} {E:Value->Shared->Prop} {s:Shared}
end
end L2.GS
namespace L2.GS
open PySem PySem.Spec PyProof.Rows
section
variable {prog:Program} {w:World} {A:Around} {E:Value->Shared->Prop} {s:Shared}
end
end L2.GS
namespace L2.GS
open PySem PySem.Spec PyProof.Rows
section
variable {X:Cx}
end
end L2.GS
namespace L2
open PySem PySem.Spec PyProof.Rows
section
variable {prog:Program} {w:World} {A:Around} {E:Value->Shared->Prop} {s:Shared}
theorem qPN {a:Addr} {vs:List Value} {ns:List Int} {n:Nat} {P:Fin->Shared->Prop} (e0:s.heap.get? a=some (seqObj "list" vs.toArray n)) (ia:IntsAre vs ns) (hs:vs.length<64) (hz:vs.length<=sizeLine)
  (h:∀ (out:Array Value) (zs:List Int),IntsAre out.toList zs->zs.Perm ns->zs.Pairwise (·<=·)->P (.done (.ret .none)) { s with heap:=sortedHeap s.heap a vs out }):wpAny (model prog w) A (Builtin.«list.sort» ⟨[.ref a],[]⟩) P E s:=by
 have la:=B3 e0;have z0:vs.toArray.size<=sizeLine:=by simpa using hz
 rw [list_sort_plain];refine wpAny_bind (listItems_at e0 rfl (wpAny_bind (listUpdate_at e0 rfl ?_ z0 (D8 _))));have e1:∃ k,(s.heap.update a (i0 fun _=>#[])).get? a=some (seqObj "list" #[] k):=⟨_,get?_update_seq e0 fun _=>#[]⟩;obtain ⟨k,e1⟩:=e1;refine wpAny_bind (seqEpoch_at e1 rfl (wpAny_bind (wpAny_newTuple ?_ (by simpa using hz))))
 refine wpAny_bind (wpAny_newList (wpAny_holding ?_));have e2:(((s.heap.update a (i0 fun _=>#[])).push (seqObj "tuple" vs.toArray 0)).push (seqObj "list" #[] 0)).get? a=some (seqObj "list" #[] k):=by
  rw [B00,B00]
  ·exact e1
  ·rw [B18];exact C2 la
  ·rw [size_push',B18];exact C2 (P8 la)
 have last:∀ xs:Array Keyed,xs.Perm (pairsOf vs)->SortedTo xs (pairsOf vs).size->P (.done (.ret .none)) { s with heap:=sortedHeap s.heap a vs (xs.map (·.2)) }:=by
  intro xs px sx;obtain ⟨zs,q1,q2,q3⟩:=sorted_out ia px sx;exact h _ zs q1 q2 q3
 have sz:∀ xs:Array Keyed,xs.Perm (pairsOf vs)->(xs.map (·.2)).size<=sizeLine+1:=by
  intro xs px;rw [A56,px.size_eq,pairsOf_size]
  lia
 show wpAny _ A _ P E { s with heap:=((s.heap.update a (i0 fun _=>#[])).push (seqObj "tuple" vs.toArray 0)).push (seqObj "list" #[] 0) };dsimp only;by_cases few:vs.toArray.size<2
 ·simp only [if_pos few];refine wpAny_bind (wpAny_pure ?_);rw [StateT.run_pure];refine wpAny_bind (wpAny_pure (wpAny_bind (seqEpoch_at e2 rfl (wpAny_bind (listUpdate_at e2 rfl ?_ (D8 _) (sz (pairsOf vs) (.refl _)))))));simp only [bne_self_eq_false,E9,if_false];refine wpAny_pure (last (pairsOf vs) (.refl _) fun i j hij hj=>?_);rw [pairsOf_size] at hj;rw [C0] at few;rw [show i=j by lia]
  exact X9 _
 ·simp only [if_neg few];have kk:keyKind' vs.toArray=pure oneType':=by
   match vs,few,ia with
   | [],few,_=>exact absurd (by simp) few
   | [_],few,_=>exact absurd (by simp) few
   | _::_::_,_,ia=>exact keyKind_ints ia
  rw [kk]
  letI:GS.NM:=⟨numOf,fun v=>∃ n t,v=.int n t⟩
  haveI:GS.LtOk prog w A { s with heap:=((s.heap.update a (i0 fun _=>#[])).push (seqObj "tuple" vs.toArray 0)).push (seqObj "list" #[] 0) } oneType':=⟨fun {x y Q E} hx hy h=>by
   obtain ⟨n,t,rfl⟩:=hx;obtain ⟨m,u,rfl⟩:=hy;rw [keyLt'_oneType];exact oneLt_int h⟩
  refine wpAny_bind (wpAny_pure (wpAny_bind (wpAny_mono (GS.gwpS_runs (κ0:=oneType') (a₀:=pairsOf vs) (Q:=fun _ st2=>GS.gSG oneType' (pairsOf vs) st2/\GS.gSortedTo (arrOf st2) (pairsOf vs).size) (by simpa [pairsOf] using hs) ia.intKeys ⟨.refl _,rfl,rfl⟩ rfl fun st2 g u=>⟨g,u⟩) ?_ fun _ _ x=>x)))
  rintro ⟨_,st2⟩ s2 ⟨es,g,u⟩;cases (show s2=_ from es);refine wpAny_bind (seqEpoch_at e2 rfl (wpAny_bind (listUpdate_at e2 rfl ?_ (D8 _) (sz _ g.perm))));dsimp only;rw [g.failed];simp only [bne_self_eq_false,E9,if_false];exact wpAny_pure (last _ g.perm u)
end
section
variable {X:Cx}
theorem qR4 {Ab:List (Addr × Obj)} {s:Shared} {σ:St} {H:Hp} {Q:VK} {A:Around} {E:Value->Shared->Prop} {ns:List Int} {D:Addr} (I:Inv X Ab σ (Ag H D (.lst (ns.map V.int))) s) (hs:ns.length<64)
  (q:∀ zs:List Int,zs.Perm ns->zs.Pairwise (·<=·)->Q (.ref D) (Ag H D (.lst (zs.map V.int)))) :
  wpAny (model X.prog X.w) A (call (.builtin "list.sort") [.ref D]) (fun _ s'=>EP X Ab σ Q (.ref D) s') E s:=by
 obtain ⟨z,its,n,rv,hl,e⟩:=I.lstM qA1;have ia:=qC2 rv;have hlen:=rv.length;refine wpAny_call_entry slot_list_sort ⟨_,e,rfl⟩ entry_list_sort (qPN (ns:=ns) (n:=n) e ia (by rw [<- hlen,A0];exact hs) (by rw [<- hlen];exact z) fun out zs a1 a2 a3=>⟨_,rfl,?_⟩) (args_list_sort _)
 obtain ⟨e2,hat⟩:=sortedHeap_at (vs:=its) (out:=out) e;refine ⟨.ref D,Ag H D (.lst (zs.map V.int)),?_,rfl,q zs a2 a3⟩;have hu:Ag (Ag H D (.lst (ns.map V.int))) D (.lst (zs.map V.int))=Ag H D (.lst (zs.map V.int)):=qHQ;rw [<- hu];refine I.write (x:=D) (e:=D) (t':=s.toks) (by rw [qA1];exact trivial) (.inl rfl) (fun b u hb hbu=>?_) ⟨_,hat⟩ ?_
 ·rw [sortedHeap_old hb (B3 hbu)];exact hbu
 ·refine ⟨?_,out.toList,e2,qEL a1,by simpa using hat⟩
  rw [A0,a2.length_eq,<- A0 (f:=V.int)];exact z
theorem qL1 (hc:X.calm=true):qCF X (.builtin "sorted") (fun xs H Q=>∃ p ns,xs=[.ref p]/\H p=some (SetM X.w p ns)/\ns.length<64/\
  ∀ (a:Addr) (zs:List Int),H a=none->zs.Perm ns->zs.Pairwise (·<=·)->Q (.ref a) (Ag H a (.lst (zs.map V.int)))):=by
 intro Ab s σ H xs us Q I r h;obtain ⟨p,ns,rfl,hq,h64,q⟩:=h;obtain ⟨u,rfl,rx⟩:=qDO r;cases rx;refine x9 kind_sorted plain_sorted entry_sorted (args_sorted1 _) ?_;unfold Builtin.«sorted»;refine wpAny_bind (m:=checkCount "sorted" 1 1 _) (wpAny_pure ?_);have fin:∀ (s1:Shared) (vs:List Value) (zs:List Int),Inv X Ab σ H s1->IntsAre vs zs->zs.length<=sizeLine->zs.Perm ns->wpAny (model X.prog X.w) X.A.in1 (do
   let l <- newList vs
   let _ <- holding [l] (call (.builtin "list.sort") [l] [])
   ret l) (fun fin s'=>∃ r,fin=.done (.ret r)/\EP X Ab σ Q r s') X.xe s1:=by
  intro s1 vs zs I1 hv hz hp;have hlen:=IntsAre.length hv;refine wpAny_bind (wpAny_newList ?_ (by rw [hlen];exact hz))
  have hf:=I1.hok.fresh (A6 s1.heap.objs.size);refine wpAny_bind (wpAny_holding (wpAny_mono (qR4 (E:=X.xe) (qJD I1 hv hz) (by rw [hp.length_eq];exact h64) fun zs a b=>q _ zs hf (a.trans hp) b) (fun _ s' x=>?_) fun _ _ e=>e))
  exact wpAny_pure ⟨_,rfl,x⟩
 obtain ⟨hS,_,_⟩:=(show ObjOk X.prog X.w H s.heap p (.ext (SetG X.w p ns)) from I.hok p _ hq);obtain ⟨es,ep,t,ks,e,T,he,hp,hnd,h4,full⟩:=hS;have hsz:es.size=ns.length:=SetI.size (a:=p) (h:=s.heap) he hp;obtain ⟨ks',h1,h2⟩:=he.perm (qBV X.w p ep es);have h7:=T.mask7;refine wpAny_bind (A59 (A:=X.A.in1) (qYQ (ep:=ep) T (by lia)) (I.ok.hd hc) e (by rw [hsz,sizeLine_eq];lia) fun h' tk acc hk hacc=>?_)
 refine fin _ _ ks' (I.kept (t':=tk) hk) ?_ (by rw [h2.length_eq,hp.length_eq,sizeLine_eq];lia) (h2.trans hp)
 obtain ⟨l1,l2⟩:=hacc;refine qSX h1 acc.toList ?_ fun i v hi=>l2 i v (by rw [<- F6];exact hi)
 rw [B2,l1,(qBV X.w p ep es).length_eq,B2]
end
end L2
namespace L2
open PySem PySem.Spec PyProof.Rows
section
variable {X:Cx}
end
end L2
namespace L2
open PySem PySem.Spec PyProof.Rows
section
variable {X:Cx}
end
end L2
namespace L2
open PySem PySem.Spec PyProof.Rows
section
variable {prog:Program} {w:World} {A:Around} {R:Result->Shared->Prop} {I:Addr} {fp wr:List Addr} {n:Nat} {P:Nat->Value->Prop} {St:Nat->Heap->Prop}
end
section
variable {X:Cx}
end
end L2
namespace L2
open PySem PySem.Spec PyProof.Rows
structure Clb (P:Program) (w:World) (K:PySem.W.Frag) (mg:Str->Option Value) (base:Heap) (n:Nat) (f:Addr) (fd:FuncData) (x:Str) (ps:List Str) (sp:Sp):Prop where
 G:FnOk P w K mg base CX0 n f fd ps sp
 b:Binds K fd ps []
 k:V8 K (.ref f)=true
 m:mg x=some (.ref f)
theorem qAS {X:Cx} {n k:Nat} {f:Addr} {fd:FuncData} {x:Str} {ps:List Str} {sp:Sp} {e:Expr} {es:List Expr} {t:TA} {p pos:Pos} (C:Clb X.prog X.w X.K X.mg X.base n f fd x ps sp) (hr:Room k X.A) (hg:Gl X x)
  (ha:PA X (e::es) t) (hnk:n<=k:=by decide) (hdb:(x == ("__debug__" : Str))=false:=by decide) (he:starEach (e::es) X.env=(false,eval e X.env)::starEach es X.env:=by rfl) (hpl:(backTo pos (starEach es X.env)).any (·.1)=false:=by rfl) :
  PE X (.Call (.Name x p) (e::es) [] pos) (qYI sp [] E0 t):=qX6 C.G (hr.mono hnk) hg C.m C.k C.b .nil qaN ha hdb he hpl
theorem nmD {i:Nat} {t u:TS} {D:Ends} {x:V} {σ:St} {H:Hp} (h:∀ D':Ends,(∀ σ H,D.nx σ H->D'.nx σ H)->(∀ v H,D.rt v H->D'.rt v H)->tSeq t u D' (σ.set i (some x)) H):qSI i x σ H fun σ2 H2=>tSeq t u D σ2 H2:=h D (fun _ _ z=>z) fun _ _ z=>z
end L2
namespace L2
open PySem PySem.Spec PyProof.Rows
def Tf (K:PySem.W.Frag) (x:Str) (s:Stmt) (f:Addr):Prop:=A40 K mainGlobals x=some (some (.ref f))/\∃ fd,Fun K x x s f fd
theorem Tf.use {K:PySem.W.Frag} {h:Heap} {mg:Str->Option Value} {x:Str} {s:Stmt} {f:Addr} (X:K.In h) (G:h.Ns mainGlobals mg) (T:Tf K x s f):∃ fd,Fun K x x s f fd/\mg x=some (.ref f):=
 let ⟨a,fd,F⟩:=T
 ⟨fd,F,B48 X G a⟩
theorem Tf.clb {P:Program} {w:World} {K:PySem.W.Frag} {h base:Heap} {mg:Str->Option Value} {x:Str} {s:Stmt} {f:Addr} {n:Nat} {ps:List Str} {sp:Sp} (X:K.In h) (G:h.Ns mainGlobals mg) (T:Tf K x s f) (hok:∀ fd,Fun K x x s f fd->FnOk P w K mg base CX0 n f fd ps sp)
  (hb:∀ (kV doc pm:Value) (an:Option Addr) (cdv ct:Value) (us:List Value),us.length=ps.length->bindArgs (T8 x x (qEY s) (qDM s) (qAE s) .none kV doc pm an cdv ct) ⟨us,[]⟩=pure (ps.zip us)):∃ fd,Clb P w K mg base n f fd x ps sp:=
 let ⟨fd,F,m⟩:=T.use X G
 ⟨fd,hok fd F,F.binds hb,F.kp,m⟩
def Zs (K:PySem.W.Frag):List Str->Prop
 | []=>True
 | x::r=>A40 K mainGlobals x=some none/\Zs K r
def Zm (mg:Str->Option Value):List Str->Prop
 | []=>True
 | x::r=>mg x=none/\Zm mg r
theorem Zs.mg {K:PySem.W.Frag} {h:Heap} {mg:Str->Option Value} (X:K.In h) (G:h.Ns mainGlobals mg):∀ {l:List Str},Zs K l->Zm mg l
 | [],_=>trivial
 | _::_,⟨a,b⟩=>⟨PySem.W.mg_none_of X G a,Zs.mg X G b⟩
theorem qBP {N P:List Str} {sc:Scope} (h1:sc.kind=.function:=by rfl) (h2:sc.isCoroutine=false:=by rfl) (h3:sc.isGenerator=false:=by rfl) (h4:N.Nodup:=by decide +kernel) (h5:N.take P.length=P:=by rfl) (h6:∀ x ∈ P,sc.names.lookup x=some .local\/sc.names.lookup x=some .cell:=by decide +kernel) (h7:∀ y ∈ sc.names,y.2 ≠ .free:=by decide +kernel):FnScope N P sc:=⟨h1,h2,h3,h4,h5,h6,h7⟩
section
variable {P:Program} {w:World} {K:PySem.W.Frag} {mg:Str->Option Value} {base:Heap}
theorem Fun.okA {x qual:Str} {st:Stmt} {f:Addr} {fd:FuncData} {N ps:List Str} {k:Nat} {sp:Sp} (F:Fun K x qual st f fd) (S:FnScope N ps (qAE st))
  (hbody:∀ (cdv:Value) (A:Around) (outer:List Env) (s:Shared) (H:Hp) (vs:List V) (Q:VK) (E:XK),Room k (A.deeper (envOfC qual (qAE st) s.heap.objs.size f cdv))->sp vs H Q E->
   ∃ t,PSs (cxOf CX0 P w K mg base N qual (qAE st) f cdv A outer s H E).nox (qDM st) t/\t { nx:=fun _ H'=>Q .non H',rt:=Q } (start N vs) H)
  (len:∀ vs H Q E,sp vs H Q E->vs.length=ps.length:=by intro vs H Q E h;(repeat (obtain ⟨_,h⟩:=h));subst_vars;rfl):FnOk P w K mg base CX0 (k+1) f fd ps sp:=F.ok S len hbody
@[elab_as_elim] theorem us5 {α:Type} {P:List α->Prop} (us:List α) (hl:us.length=5) (h:∀ a b c d e,P [a,b,c,d,e]):P us:=by
 match us,hl with
 | [a,b,c,d,e],_=>exact h a b c d e
def Bs (P:Program) (w:World) (base:Heap):Prop:=P=P/\w=w/\base=base
theorem Tf.c {h:Heap} {x:Str} {s:Stmt} {f:Addr} {n:Nat} {ps:List Str} {sp:Sp} (X:K.In h) (G:h.Ns mainGlobals mg) (B:Bs P w base) (T:Tf K x s f) (hok:∀ fd,Fun K x x s f fd->FnOk P w K mg base CX0 n f fd ps sp)
  (hb:∀ (kV doc pm:Value) (an:Option Addr) (cdv ct:Value) (us:List Value),us.length=ps.length->bindArgs (T8 x x (qEY s) (qDM s) (qAE s) .none kV doc pm an cdv ct) ⟨us,[]⟩=pure (ps.zip us):=by
   intro _ _ _ _ _ _ us hl;first | exact us1 us hl (fun _=>rfl) | exact us2 us hl (fun _ _=>rfl) | exact us3 us hl (fun _ _ _=>rfl) | exact us4 us hl (fun _ _ _ _=>rfl) | exact us5 us hl (fun _ _ _ _ _=>rfl) | exact us0 us hl rfl):∃ fd,Clb P w K mg base n f fd x ps sp:=T.clb X G hok hb
end
section
variable {X:Cx} {pos:Pos}
theorem qBF {x:Str} (i:Nat) (hN:X.N.Nodup:=by exact qaQ (by kernel_rfl)) (hi:X.N[i]?=some x:=by rfl) (hx:Loc X.env.scope x:=by exact E8 rfl) (hf:X.fn x=true\/X.env.scope.names.lookup x=some .local:=by first | exact .inl rfl | exact .inr rfl | assumption):PG X (.Name x pos) (qSI i):=qAW hN hi hx hf
end
end L2
namespace L2
open PySem PySem.Spec PyProof.Rows
section
variable {prog:Program} {w:World} {A:Around} {E:Value->Shared->Prop} {s:Shared}
theorem qUY {items:List Value} {ys:List Int} (h:IntsAre items ys):items.length=ys.length/\∀ (i:Nat) (y:Int),ys[i]?=some y->∃ tk,items[i]?=some (.int y tk):=by
 induction h with
 | nil=>exact ⟨rfl,fun i y e=>by simp at e⟩
 | cons n tk hm ih=>
  refine ⟨by rw [D5,D5,ih.1],fun i y e=>?_⟩
  cases i with
  | zero=>cases e;exact ⟨_,rfl⟩
  | succ i=>exact ih.2 i y e
theorem qH3 {t:Addr} {items:Array Value} {ys:List Int} {x:Int} {u:Tok} {j:Nat} {Q:Value->Shared->Prop} (ht:IsTup s.heap t items) (hi:IntsAre items.toList ys) (hj:ys[j]?=some x) (hn:∀ i,i<j->ys[i]? ≠ some x)
  (h:Q (.int j s.toks) { s with toks:=s.toks+1 }):wpAny (model prog w) A (Builtin.«tuple.index» ⟨[.ref t,.int x u],[]⟩) (fun fin s'=>∃ v,fin=.done (.ret v)/\Q v s') E s:=by
 obtain ⟨hl,hg⟩:=qUY hi;have hsz:items.size=ys.length:=by simpa using hl
 have hjn:j<items.size:=by rw [hsz];exact (A5.mp hj).1
 show wpAny _ _ (T3 (.ref t) >>= _) _ _ s;refine wpAny_bind (tupleItemsOf_ ht ?_);refine wpAny_bind (wpAny_pure ?_);refine wpAny_bind (wpAny_pure ?_);refine wpAny_bind ?_;rw [A46];have en:(A41 [0:min items.size items.size])=items.size:=by simp [A41]
 rw [en];refine wpAny_forIn_list _ (fun rest r s'=>r.1=none/\s'=s/\∃ i,rest=List.range' i (items.size - i) 1/\i<=j) _ ?_ ?_ _ _ ⟨rfl,rfl,0,by simp,D8 _⟩
 ·rintro y rest r s' ⟨hr,rfl,i,e,hij⟩;obtain ⟨m,hm⟩:∃ m,items.size - i=m+1:=⟨items.size - i - 1,by lia⟩
  rw [hm,List.range'_succ] at e
  injection e with e1 e2
  subst e1;have hyi:y<ys.length:=by lia
  obtain ⟨tk,htk⟩:=hg y _ (A3 hyi);have hit:items[y]?=some (.int ys[y] tk):=by simpa using htk
  dsimp only;rw [hit];dsimp only;refine wpAny_bind (wpAny_eqBool_int ?_);by_cases hx:ys[y]=x
  ·have ey:y=j:=by
    by_cases hlt:y<j
    ·exact absurd (by rw [A3 hyi,hx]) (hn y hlt)
    ·lia
   subst ey;rw [show (ys[y] == x)=true from by rw [hx];exact beq_self_eq_true _]
   refine wpAny_bind (wpAny_bind (wpAny_mkInt (wpAny_pure ?_)));exact wpAny_pure (wpAny_pure ⟨_,rfl,h⟩)
  ·rw [show (ys[y] == x)=false from by simpa using hx]
   refine wpAny_pure ⟨rfl,rfl,y+1,by rw [e2];congr 1;lia,?_⟩
   rcases B04 y j with hlt | hge
   ·exact hlt
   ·have:y=j:=by lia
    subst this;rw [A3 hyi] at hj;exact absurd (I0 hj) hx
 ·rintro ⟨b1,b2⟩ s' ⟨hb,rfl,i,e,hij⟩;have:(List.range' i (items.size - i) 1).length=0:=by rw [<- e];rfl
  rw [List.length_range'] at this
  lia
end
section
variable {X:Cx}
def qOD (K:PySem.W.Frag):V->List V->Hp->VK->Prop:=fun x vs H Q=>∃ (a:Addr) (ys:List Int) (y:Int) (j:Nat),x=.ref a/\vs=[.int y]/\SqT K H a (ys.map V.int)/\ys[j]?=some y/\(∀ i,i<j->ys[i]? ≠ some y)/\Q (.int j) H
theorem qQ3:MtR X "tuple.index" (qOD X.K):=by
 intro Ab s σ H x vs v us Q I rx rv h;obtain ⟨a,ys,y,j,rfl,rfl,hq,hj,hn,q⟩:=h;cases rx;obtain ⟨u,rfl,ru⟩:=rv.one;obtain ⟨t,rfl⟩:=ru;obtain ⟨its,r,ht,z⟩:=I.tuple hq;refine wpAny_call_entry F.slot_tuple_index ht.typeIs F.entry_tuple_index (qH3 ht (qGN (by simpa using r)) hj hn ?_) (F.args_tuple_index_2 _ _)
 exact ⟨.int j,H,I.tok _,⟨_,rfl⟩,q⟩
theorem qN8 {K:PySem.W.Frag} (hK:X.K=K):MtR X "tuple.index" (qOD K):=by
 subst hK;exact qQ3
theorem Rd.same {H H':Hp} {a:Addr} {u:HO} (h:Rd H a u) (s:∀ b o,H b=some o->H' b=some o):Rd H' a u:=by
 rcases h with h | ⟨o,h⟩
 ·exact .inl (s _ _ h)
 ·exact .inr ⟨o,s _ _ h⟩
end
end L2
namespace L2
open PySem PySem.Spec PyProof.Rows
section
variable {X:Cx}
def tBMU (r:V->List V->Hp->VK->Prop) (to:TE) (t:TA):TE:=fun σ H Q=>to σ H fun x H1=>(∃ a xs,x=.ref a/\H1 a=some (.tup xs))/\t σ H1 fun xs H2=>r x xs H2 Q
theorem qZ2 {o e:Expr} {es:List Expr} {to:TE} {t:TA} {name:Str} {apos cpos:Pos} {id:String} {r:V->List V->Hp->VK->Prop} (pa:PlainAttrs "tuple") (slot:Slot "tuple" name id) (hty:typeOf (.builtin id)=pure (.type "method_descriptor")) (hm:MtR X id r) (ho:PE X o to) (ha:PA X (e::es) t)
  (hbase:attributeBase o name X.env (eval o X.env)=eval o X.env:=by rfl)
  (hfew:((backTo cpos (starEach (e::es) X.env)).all (fun x=>!x.1) && (backToKw cpos (keywordEach [] X.env)).all (fun x=>x.1.isSome)
   && decide ((e::es).length+([]:List Keyword).length+(if ([]:List Keyword).isEmpty then 0 else 1)<30))=true:=by rfl)
  (hline:(apos.endLine == cpos.line)=true:=by rfl) (hs:starEach (e::es) X.env=(false,eval e X.env)::starEach es X.env:=by rfl) (hplain:(backTo cpos (starEach es X.env)).any (·.1)=false:=by rfl) :
  PE X (.Call (.Attribute o name apos) (e::es) [] cpos) (tBMU r to t):=by
 intro Ab s σ H Q I h;refine wpAny_Call_method_late hbase hfew hline rfl (thn (ho Ab s σ H _ I h) fun v s1 ⟨x,H1,I1,r1,ty,q1⟩=>?_);obtain ⟨a,xs,rfl,hq⟩:=ty;cases r1;obtain ⟨_,its,_,ob,ho',hc,n,_,hd⟩:=(show ObjOk X.prog X.w H1 s1.heap a (.tup xs) from I1.hok a _ hq);refine ⟨"tuple",id,pa,slot,hty,⟨ob,ho',hc⟩,fun b e=>?_,?_⟩
 ·cases e;exact ⟨ob,ho',hd⟩
 have hA:=ha cpos Ab s1 σ H1 _ I1 q1;rw [hs] at hA ⊢;refine A21 (by show (false || (backTo cpos (starEach es X.env)).any (·.1))=false;rw [hplain] <;> rfl) (A47 ?_)
 exact thn hA fun us s2 ⟨vs,H2,I2,r2,q2⟩=>hm Ab s2 σ H2 (.ref a) vs (.ref a) us Q I2 rfl r2 q2
theorem qQ0 (hu:X.A.units<cLine):OpR X (compareOp .NotEq) (fun x y H Q=>∃ (p l:Addr) (ns ms:List Int),x=.ref p/\y=.ref l/\H p=some (.tup (ns.map V.int))/\H l=some (.tup (ms.map V.int))/\∀ b,Q (.bl b) H):=by
 intro Ab s σ H x y v u Q I rx ry h;obtain ⟨p,l,ns,ms,rfl,rfl,h1,h2,q⟩:=h;cases rx;cases ry;obtain ⟨us,r1,p1,z1⟩:=I.tuple (SqT.of (K:=X.K) h1);obtain ⟨vs,r2,p2,z2⟩:=I.tuple (SqT.of (K:=X.K) h2);have hi:=qGN (by simpa using r1:Vals (ns.map V.int) us)
 have hj:=qGN (by simpa using r2:Vals (ms.map V.int) vs)
 refine d6 (e:=fun j=>decide (ns[j]?=ms[j]?)) p1 p2 hu (fun j j1 j2=>?_) _ _ _ _ ⟨.bl _,H,I,rfl,q _⟩;obtain ⟨n,t,e1,e2⟩:=qFG hi j (by simpa using j1)
 obtain ⟨m,t',e3,e4⟩:=qFG hj j (by simpa using j2)
 have e2:us.toArray[j]=.int n t:=by simpa using e2
 have e4:vs.toArray[j]=.int m t':=by simpa using e4
 rw [e1,e3,e2,e4];have q:=w6 (A:=X.A.in1) (s:=s) n t m t'
 rwa [show (n == m)=decide (some n=some m) by simp [BEq.beq]] at q
theorem qN4 {K:PySem.W.Frag} (hK:X.K=K) (hu:X.A.units<cLine):OpR X (compareOp .NotEq) (fun x y H Q=>∃ p l xs,x=.ref p/\y=.ref l/\SqT K H p xs/\SqT K H l []/\Q (.bl !xs.isEmpty) H):=by subst hK;exact qQ1 hu
end
end L2
namespace L2
open PySem PySem.Spec PyProof.Rows
section
variable {X:Cx} {tg:Expr}
end
section
variable {X:Cx}
end
end L2
namespace L2
open PySem PySem.Spec PyProof.Rows
section
variable {X:Cx}
def qX0:V->List V->Hp->VK->Prop:=fun x vs H Q=>∃ (l:Addr) (xs:List V) (i:Int) (y:V),x=.ref l/\vs=[.int i,y]/\H l=some (.lst xs)/\0<=i/\i<=(xs.length:Int)/\xs.length<100000/\Q .non (Ag H l (.lst (xs.take i.toNat++y::xs.drop i.toNat)))
theorem qRX:MtM X "list.insert" qX0:=by
 intro Ab s σ H x vs v us Q I rx rv h;obtain ⟨l,xs,i,y,rfl,rfl,hH,h0,hk,hz,q⟩:=h;cases rx;obtain ⟨u,w,rfl,ru,rw'⟩:=rv.two;obtain ⟨t,rfl⟩:=ru;obtain ⟨z,its,n,r,hl,e⟩:=I.lstM hH;have lr:=r.length;have hs:=sizeLine_eq;have hc0:¬ (!Builtin.List.listFitsIndex i)=true:=by rw [fitsIndex_both (by lia) (by lia)];decide
 refine call_meets F.slot_list_insert ⟨_,e,rfl⟩ F.entry_list_insert (F.args_list_insert_3 _ _ _) (AutoSeq1.list_insert_list_int_val_1 l its.toArray n i t w hc0 (by rw [C0,<- hl];exact z)) ⟨e,?_⟩
 refine ⟨.non,_,I.lset (its':=its.take i.toNat++w::its.drop i.toNat) hH e ?_ ((r.take i.toNat).append (.cons rw' (r.drop i.toNat))) ?_,rfl,q⟩
 ·dsimp only;rw [if_neg (by lia),C0,i9 (by lia)]
  simp;exact D3 (by rw [F1];exact A6 _)
 ·rw [A7,B9,D5,F1]
  lia
end
end L2
namespace L2
open PySem PySem.Spec PyProof.Rows
section
variable {X:Cx}
end
end L2
namespace L2
open PySem PySem.Spec PyProof.Rows
end L2
namespace Fw
open PySem L2
theorem qAY:bootBuiltins "len" = some (.builtin "len"):=by decide +kernel
theorem qTH:bootBuiltins "min" = some (.builtin "min"):=by decide +kernel
theorem qTI:bootBuiltins "max" = some (.builtin "max"):=by decide +kernel
theorem qD6:bootBuiltins "sorted" = some (.builtin "sorted"):=by decide +kernel
theorem qTJ:bootBuiltins "divmod" = some (.builtin "divmod"):=by decide +kernel
theorem qML:bootBuiltins "all" = some (.builtin "all"):=by decide +kernel
theorem qAU:bootBuiltins "isinstance" = some (.builtin "isinstance"):=by decide +kernel
theorem qMK:bootBuiltins "int" = some (.type "int"):=by decide +kernel
theorem qNX:bootBuiltins "bool" = some (.type "bool"):=by decide +kernel
theorem qWH:bootBuiltins "str" = some (.type "str"):=by decide +kernel
theorem qGV:bootBuiltins "list" = some (.type "list"):=by decide +kernel
theorem qAP:bootBuiltins "tuple" = some (.type "tuple"):=by decide +kernel
theorem qPA:bootBuiltins "set" = some (.type "set"):=by decide +kernel
theorem qPB:bootBuiltins "range" = some (.type "range"):=by decide +kernel
theorem qCM:bootBuiltins "enumerate" = some (.type "enumerate"):=by decide +kernel
structure StAt (H:Hp) (d c:Addr) (t:Int) (ns:List Int):Prop where
 dict:H d=some (.dK [(O2 "cells",.ref c),(O2 "turn",.int t)])
 list:H c=some (.lst (ns.map V.int))
 ne:0<ns.length
 len:ns.length<=63
 pos:0<=t
def Keep (d c:Addr) (H H':Hp):Prop:=∀ b o,H b=some o->b ≠ d->b ≠ c->H' b=some o
theorem Keep.refl {d c:Addr} {H:Hp}:Keep d c H H:=fun _ _ h _ _=>h
theorem Keep.trans {d c:Addr} {H H1 H2:Hp} (a:Keep d c H H1) (b:Keep d c H1 H2):Keep d c H H2:=fun x o h n m=>b x o (a x o h n m) n m
theorem Keep.of_same {d c:Addr} {H H':Hp} (h:Same H H'):Keep d c H H':=fun b o e _ _=>h b o e
theorem qA3 {H:Hp} {p:Addr} (h:H p=none) (o:HO):Same H (Ag H p o):=fun b u q=>by rw [qAC (qA7 q h)];exact q
theorem qCS {d c:Addr} {H:Hp} {p:Addr} (h:H p=none) (o:HO):Keep d c H (Ag H p o):=.of_same (qA3 h o)
theorem StAt.ndc {H:Hp} {d c:Addr} {t:Int} {ns:List Int} (S:StAt H d c t ns):d ≠ c:=qDV S.dict S.list (by intro z;cases z)
theorem StAt.same {H H':Hp} {d c:Addr} {t:Int} {ns:List Int} (S:StAt H d c t ns) (h:Same H H'):StAt H' d c t ns:=⟨h _ _ S.dict,h _ _ S.list,S.ne,S.len,S.pos⟩
theorem StAt.new {H:Hp} {d c p:Addr} {t:Int} {ns:List Int} (S:StAt H d c t ns) (h:H p=none) (o:HO):StAt (Ag H p o) d c t ns:=S.same (qA3 h o)
theorem s_cs:¬ (D2 "cells" = D2 "turn"):=by decide +kernel
theorem s_ct:¬ ((O2 (D2 "cells"):Key)=O2 (D2 "turn")):=fun h=>s_cs (B55 h)
theorem qXT {H:Hp} {d c:Addr} {t:Int} {ns:List Int} (S:StAt H d c t ns):DGet H d (.str "turn") (some (.int t)):=by
 have h:=DGet.k (k:=O2 "turn") S.dict;rw [qBZ s_ct,qBU rfl] at h;exact h
theorem qKV {H:Hp} {d c:Addr} {t:Int} {ns:List Int} (S:StAt H d c t ns):DGet H d (.str "cells") (some (.ref c)):=by
 have h:=DGet.k (k:=O2 "cells") S.dict;rw [qBU rfl] at h;exact h
theorem qUD (c:Addr) (t u:Int):putK [((O2 "cells" : Key),V.ref c),(O2 "turn",V.int t)] (O2 "turn") (V.int u)=[((O2 "cells" : Key),V.ref c),(O2 "turn",V.int u)]:=by
 unfold putK;simp [s_cs]
theorem qXS {H:Hp} {d c:Addr} {t u:Int} {ns:List Int} (S:StAt H d c t ns):DPut H d (.str "turn") (.int u) (Ag H d (.dK [(O2 "cells",.ref c),(O2 "turn",.int u)])):=by
 have h:=DPut.k (k:=O2 "turn") (v:=.int u) S.dict (by rw [sizeLine_eq];exact (by decide:2<16777216))
 rw [qUD] at h;exact h
theorem StAt.turn {H:Hp} {d c:Addr} {t u:Int} {ns:List Int} (S:StAt H d c t ns) (h:0<=u):StAt (Ag H d (.dK [(O2 "cells",.ref c),(O2 "turn",.int u)])) d c u ns:=
 ⟨qA1,by rw [qAC (J4 S.ndc)];exact S.list,S.ne,S.len,h⟩
theorem StAt.put {H:Hp} {d c:Addr} {t:Int} {ns ms:List Int} (S:StAt H d c t ns) (h:ms.length=ns.length):StAt (Ag H c (.lst (ms.map V.int))) d c t ms:=
 ⟨by rw [qAC S.ndc];exact S.dict,qA1,by rw [h];exact S.ne,by rw [h];exact S.len,S.pos⟩
abbrev TB:Int:=1000000000
def qFP:Sp:=fun vs H Q _=>∃ d c t ns m,vs=[.ref d,.int m]/\StAt H d c t ns/\t<=TB/\1<=m/\m<=1000000/\∀ k ns' H',0<=k->k<m->StAt H' d c (t+1) ns'->Keep d c H H'->Q (.int k) H'
def qR2 (K:PySem.W.Frag):Sp:=fun vs H Q _=>∃ (a:Addr) (ns:List Int),vs=[.ref a]/\SqL K H a (ns.map V.int)/\ns.length<=63/\∀ d c ms H',StAt H' d c 0 ms->Same H H'->H d=none->H c=none->Q (.ref d) H'
noncomputable def cutI {α:Type} (xs:List α) (lo hi:Option Int):List α:=(xs.drop (HT.sIx xs.length 0 lo)).take (HT.sIx xs.length xs.length hi - HT.sIx xs.length 0 lo)
theorem qHL {α:Type} (f:α->V) (xs:List α) (lo hi:Option Int):cutV (xs.map f) lo hi=(cutI xs lo hi).map f:=by
 unfold cutV cutI;rw [A0,<- B49,<- A82]
theorem qVF {α:Type} (xs:List α) (lo hi:Option Int):(cutI xs lo hi).length<=xs.length:=by
 unfold cutI;rw [B9,F1]
 lia
theorem qW2 (c:Addr) (t:Int):qFA [] [((O2 (D2 "cells"):Key),V.ref c),(O2 (D2 "turn"),V.int t)]=[((O2 (D2 "cells"):Key),V.ref c),(O2 (D2 "turn"),V.int t)]:=by
 unfold qFA;simp only [W8,A54];unfold putK;simp [s_cs]
theorem qS5 {xs:List V} {j:Nat} (h:j<xs.length):ixN xs.length (j:Int)=some j:=by
 unfold ixN;rw [if_pos (by lia),if_pos (by lia),F0]
def qU4 (K:PySem.W.Frag):Sp:=fun vs H Q _=>∃ (a:Addr) (ns:List Int),vs=[.ref a]/\SqL K H a (ns.map V.int)/\ns.length<=63/\∀ H',Q (.bl true) H'
theorem cut {t u:TS} {D:Ends} {σ:St} {H:Hp} (h:∀ N:St->Hp->Prop,(∀ σ H,u D σ H->N σ H)->t { D with nx:=N } σ H):tSeq t u D σ H:=h _ fun _ _ z=>z
theorem opq {A:Prop} (h:∀ G:Prop,(A->G)->G):A:=h A id
structure Rise (k:Int) (zs:List Int):Prop where
 up:zs.Pairwise (·<·)
 in_:∀ x ∈ zs,0<=x/\x<k
theorem Rise.nil {k:Int}:Rise k []:=⟨.nil,fun _ h=>nomatch h⟩
theorem Rise.mono {j k:Int} {zs:List Int} (h:Rise j zs) (l:j<=k):Rise k zs:=⟨h.up,fun x hx=>⟨(h.in_ x hx).1,by have:=(h.in_ x hx).2;lia⟩⟩
theorem Rise.sub {k:Int} {zs ys:List Int} (h:Rise k zs) (s:ys.Sublist zs):Rise k ys:=⟨h.up.sublist s,fun x hx=>h.in_ x (s.subset hx)⟩
theorem Rise.snoc {k:Int} {zs:List Int} (h:Rise k zs) (h0:0<=k):Rise (k+1) (zs++[k]):=by
 refine ⟨c5.mpr ⟨h.up,A14 _ _,fun a ha b hb=>?_⟩,fun x hx=>?_⟩
 ·rw [A8.mp hb];exact (h.in_ a ha).2
 ·rcases B1.mp hx with hx | hx
  ·have:=h.in_ x hx;lia
  ·rw [A8.mp hx];lia
theorem Rise.shift {k j:Int} {zs:List Int} (h:Rise k zs) (hj:0<=j):Rise (k+j) (zs.map (·+j)):=by
 refine ⟨b9.mpr (h.up.imp fun {a b} hab=>by lia),fun x hx=>?_⟩
 obtain ⟨y,hy,e⟩:=D7.mp hx;have:=h.in_ y hy
 lia
theorem Rise.nodup {k:Int} {zs:List Int} (h:Rise k zs):zs.Nodup:=h.up.imp fun {a b} hab=>by lia
theorem Rise.len {zs:List Int} {k:Nat} (h:Rise (k:Int) zs):zs.length<=k:=by
 have sub:zs ⊆ (E6 k).map fun (i:Nat)=>(i:Int):=fun x hx=>by
  have:=h.in_ x hx;exact D7.mpr ⟨x.toNat,D6.mpr (by lia),by lia⟩
 have:=O5 h.nodup sub;simpa using this
theorem mem_addI {zs:List Int} {k x:Int}:x ∈ addI zs k ↔ x ∈ zs\/x=k:=by
 unfold addI
 split
 ·rename_i h
  constructor
  ·exact .inl
  ·rintro (z | rfl)
   ·exact z
   ·exact h
 ·simp
theorem qXB {zs:List Int} {k:Int} (h:zs.Nodup):(addI zs k).Nodup:=by
 unfold addI
 split
 ·exact h
 ·rename_i hk
  exact qI4 h hk
theorem qT2:∀ (l zs:List Int),zs.Nodup->(l.foldl addI zs).Nodup/\∀ x,x ∈ l.foldl addI zs ↔ x ∈ zs\/x ∈ l
 | [],zs,h=>⟨h,fun x=>by simp⟩
 | k::r,zs,h=>by
  obtain ⟨a,b⟩:=qT2 r (addI zs k) (qXB h);refine ⟨a,fun x=>?_⟩;rw [W8,b x,mem_addI,B6,or_assoc]
theorem qQE (l:List Int):(dedI l).Nodup:=(qT2 l [] .nil).1
theorem mem_dedI {l:List Int} {x:Int}:x ∈ dedI l ↔ x ∈ l:=by
 have:=(qT2 l [] .nil).2 x;unfold dedI;rw [this];simp
theorem qHK (l:List Int):(dedI l).length<=l.length:=by
 have:=qCJ l [];simpa [dedI] using this
theorem qM5 {zs:List Int} (h1:zs.Pairwise (·<=·)) (h2:zs.Nodup):zs.Pairwise (·<·):=by
 have h3:zs.Pairwise (fun a b=>a<=b/\a ≠ b):=List.pairwise_and_iff.mpr ⟨h1,h2⟩;exact h3.imp fun {a b} ⟨x,y⟩=>by lia
theorem qKA {k:Int} {fs zs:List Int} (hp:zs.Perm (dedI fs)) (hs:zs.Pairwise (·<=·)) (h:∀ x ∈ fs,0<=x/\x<k):Rise k zs:=
 ⟨qM5 hs (hp.nodup_iff.mpr (qQE fs)),fun x hx=>h x (mem_dedI.mp (hp.mem_iff.mp hx))⟩
noncomputable def qB8 (lo hi:Int):List Int:=(E6 (hi - lo).toNat).map fun (i:Nat)=>lo+i
theorem qHU (lo hi:Int):qFW lo hi=(qB8 lo hi).map V.int:=by
 unfold qFW qB8;rw [m5]
 rfl
theorem mem_rangeI {lo hi x:Int}:x ∈ qB8 lo hi ↔ lo<=x/\x<hi:=by
 unfold qB8;rw [D7]
 constructor
 ·rintro ⟨i,hi',e⟩;have:=D6.mp hi'
  lia
 ·intro h;exact ⟨(x - lo).toNat,D6.mpr (by lia),by lia⟩
theorem qDP (lo hi:Int):(qB8 lo hi).length=(hi - lo).toNat:=by unfold qB8;simp
theorem qFX (lo hi:Int):(qB8 lo hi).Pairwise (·<·):=by
 unfold qB8;exact b9.mpr (Z1.imp fun {a b} h=>by lia)
theorem qHV {lo hi:Int} (h:0<=lo):Rise hi (qB8 lo hi):=⟨qFX _ _,fun x hx=>by have:=mem_rangeI.mp hx;lia⟩
theorem qMF {α:Type} (xs:List α) (k:Nat) (h:k<=xs.length):cutI xs (some (k:Int)) none=xs.drop k:=by
 unfold cutI;rw [HT.sIx_nat,HT.sIx_none,i9 h];exact D3 (by rw [F1];exact A6 _)
theorem qXW {α:Type} (xs:List α) (k:Nat):cutI xs none (some (k:Int))=xs.take k:=by
 unfold cutI;rw [HT.sIx_nat,HT.sIx_none,y4,A42];rcases Nat.le_total k xs.length with h | h
 ·rw [i9 h]
 ·rw [B19 h,D3 h,D3 (A6 _)]
abbrev NetL (H:Hp):List Addr->List (List Int)->Prop:=Paired fun r zs=>H r=some (.tup (zs.map V.int))
theorem NetL.keep {d c:Addr} {H H':Hp} {rs:List Addr} {Ae:List (List Int)} (h:NetL H rs Ae) (hd:∀ r zs,H r=some (.tup zs)->r ≠ d/\r ≠ c) (k:Keep d c H H'):NetL H' rs Ae:=by
 induction h with
 | nil=>exact .nil
 | cons r t ih=>exact .cons (k _ _ r (hd _ _ r).1 (hd _ _ r).2) ih
theorem NetL.same {H H':Hp} {rs:List Addr} {Ae:List (List Int)} (h:NetL H rs Ae) (k:∀ r zs,H r=some (.tup zs)->H' r=some (.tup zs)):NetL H' rs Ae:=by
 induction h with
 | nil=>exact .nil
 | cons r t ih=>exact .cons (k _ _ r) ih
theorem NetL.get {H:Hp}:∀ {rs:List Addr} {Ae:List (List Int)} {i:Nat} {zs:List Int},NetL H rs Ae->Ae[i]?=some zs->∃ r,rs[i]?=some r/\H r=some (.tup (zs.map V.int))
 | _,_,_,_,.nil,e=>by simp at e
 | _,_,0,_,.cons r _,e=>by simp at e;subst e;exact ⟨_,rfl,r⟩
 | _,_,i+1,zs,.cons _ t,e=>by
  obtain ⟨r,h1,h2⟩:=NetL.get (i:=i) (zs:=zs) t (by simpa using e)
  exact ⟨r,by simpa using h1,h2⟩
def NetAt (H:Hp) (a:Addr) (Ae:List (List Int)):Prop:=∃ rs:List Addr,H a=some (.tup (rs.map V.ref))/\NetL H rs Ae
theorem StAt.tup {H:Hp} {d c:Addr} {t:Int} {ns:List Int} (S:StAt H d c t ns) {r:Addr} {zs:List V} (h:H r=some (.tup zs)):r ≠ d/\r ≠ c:=
 ⟨qDV h S.dict (by intro z;cases z),qDV h S.list (by intro z;cases z)⟩
theorem NetAt.keep {H H':Hp} {d c:Addr} {t:Int} {ns:List Int} (S:StAt H d c t ns) {a:Addr} {Ae:List (List Int)} (h:NetAt H a Ae) (k:Keep d c H H'):NetAt H' a Ae:=by
 obtain ⟨rs,h1,h2⟩:=h;exact ⟨rs,k _ _ h1 (S.tup h1).1 (S.tup h1).2,h2.keep (fun r zs e=>S.tup e) k⟩
theorem NetAt.same {H H':Hp} {a:Addr} {Ae:List (List Int)} (h:NetAt H a Ae) (k:Same H H'):NetAt H' a Ae:=by
 obtain ⟨rs,h1,h2⟩:=h;exact ⟨rs,k _ _ h1,h2.same fun r zs e=>k _ _ e⟩
theorem NetAt.len {H:Hp} {rs:List Addr} {Ae:List (List Int)} (h:NetL H rs Ae):rs.length=Ae.length:=C6 h
def WFn (Ae:List (List Int)):Prop:=∀ (i:Nat) zs,Ae[i]?=some zs->Rise (i:Int) zs
theorem WFn.snoc {Ae:List (List Int)} {zs:List Int} (h:WFn Ae) (hz:Rise (Ae.length:Int) zs):WFn (Ae++[zs]):=by
 intro i ys e;rcases A07 i Ae.length with l | l | l
 ·rw [O9 l] at e;exact h i ys e
 ·subst l;simp at e;subst e;exact hz
 ·rw [J9 (by rw [A7,B4];lia)] at e
  cases e
theorem WFn.nil:WFn []:=fun i zs e=>by simp at e
theorem qCH {α β:Type} {F:α->β->Prop} {a:α} {b:β} {l₁:List α} {l₂:List β} (h:Paired F l₁ l₂) (r:F a b):Paired F (l₁++[a]) (l₂++[b]):=Z8 h r
def qMX:Sp:=fun vs H Q _=>∃ d c t ns k,vs=[.ref d,.int k]/\StAt H d c t ns/\t<=TB - 20/\0<=k/\k<=1000/\
 ∀ r zs t' ns' H',StAt H' d c t' ns'->t<=t'->t'<=t+9->Keep d c H H'->H' r=some (.tup (zs.map V.int))->Rise k zs->Q (.ref r) H'
def qYK:Sp:=fun vs H Q _=>∃ d c t ns m,vs=[.ref d,.int m]/\StAt H d c t ns/\t<=TB - 10000/\1<=m/\m<=400/\
 ∀ a Ae t' ns' H',StAt H' d c t' ns'->t<=t'->t'<=t+10 * m+10->Keep d c H H'->NetAt H' a Ae->WFn Ae->(Ae.length:Int)=m->Q (.ref a) H'
def qVO:Sp:=fun vs H Q _=>∃ d c t ns m,vs=[.ref d,.int m]/\StAt H d c t ns/\t<=TB - 1000/\1<=m/\m<=400/\
 ∀ a Ae t' ns' H',StAt H' d c t' ns'->t<=t'->t'<=t+m->Keep d c H H'->NetAt H' a Ae->WFn Ae->(Ae.length:Int)=m->Q (.ref a) H'
theorem qaK {a b k:Int} (h0:0<=k) (h1:k<4):∃ v,atI [V.int a,V.int b] (k / 3)=some (.int v)/\(v=a\/v=b):=by
 rcases (by lia:k=0\/k=1\/k=2\/k=3) with rfl | rfl | rfl | rfl
 ·exact ⟨a,rfl,.inl rfl⟩
 ·exact ⟨a,rfl,.inl rfl⟩
 ·exact ⟨a,rfl,.inl rfl⟩
 ·exact ⟨b,rfl,.inr rfl⟩
theorem qaJ {k:Int} (h0:0<=k) (h1:k<6):∃ v,atI [V.int 0,V.int 0,V.int 1,V.int 2,V.int 2,V.int 3] k=some (.int v)/\0<=v/\v<=3:=by
 rcases (by lia:k=0\/k=1\/k=2\/k=3\/k=4\/k=5) with rfl | rfl | rfl | rfl | rfl | rfl
 all_goals exact ⟨_,rfl,by decide,by decide⟩
theorem qAG {H Hc:Hp} {p:Addr} {o:HO} (h:Same H Hc) (hp:H p=none):Same H (Ag Hc p o):=fun b u e=>by rw [qAC (qA7 e hp)];exact h b u e
theorem qKH {d c:Addr} {H Hc:Hp} {p:Addr} {o:HO} (h:Keep d c H Hc) (hp:H p=none):Keep d c H (Ag Hc p o):=fun b u e n1 n2=>by rw [qAC (qA7 e hp)];exact h b u e n1 n2
theorem qDC {H:Hp} {p:Addr} {xs:List V} {o:HO} {rs:List Addr} {Ae:List (List Int)} (h:NetL H rs Ae) (hp:H p=some (.lst xs)):NetL (Ag H p o) rs Ae:=
 h.same fun r zs e=>by rw [qAC (qDV e hp (by intro z;cases z))];exact e
theorem qBO (rs:List Addr) (r:Addr):rs.map V.ref++[V.ref r]=(rs++[r]).map V.ref:=by rw [B0];rfl
theorem qYV (b:Bool) (x:Int):(E4 (if b=true then (1:Int) else 0).toNat [V.int x]).flatten=(if b=true then [x] else []).map V.int:=by cases b <;> rfl
theorem qBH {α β:Type} {F:α->β->Prop}:∀ {l₁:List α} {l₂:List β} {i:Nat} {a:α},Paired F l₁ l₂->l₁[i]?=some a->∃ b,l₂[i]?=some b/\F a b
 | _,_,_,_,.nil,e=>by simp at e
 | _,_,0,_,.cons r _,e=>by simp at e;subst e;exact ⟨_,rfl,r⟩
 | _,_,i+1,a,.cons _ t,e=>by
  obtain ⟨b,h1,h2⟩:=qBH (i:=i) (a:=a) t (by simpa using e)
  exact ⟨b,by simpa using h1,h2⟩
theorem qJA {α β:Type} {F G:α->β->Prop} {l₁:List α} {l₂:List β} (h:Paired F l₁ l₂) (k:∀ a b,F a b->G a b):Paired G l₁ l₂:=by
 induction h with
 | nil=>exact .nil
 | cons r t ih=>exact .cons (k _ _ r) ih
theorem qES {rs:List Addr} {i:Nat} {x:V} (h:(rs.map V.ref)[i]?=some x):∃ r,rs[i]?=some r/\x=.ref r:=by
 rw [B5] at h;cases e:rs[i]? with
 | none=>rw [e] at h;cases h
 | some r=>rw [e] at h;exact ⟨r,rfl,(I0 h).symm⟩
theorem qBB {zs:List Int} {i:Nat} {x:V} (h:(zs.map V.int)[i]?=some x):∃ z,zs[i]?=some z/\x=.int z:=by
 rw [B5] at h;cases e:zs[i]? with
 | none=>rw [e] at h;cases h
 | some r=>rw [e] at h;exact ⟨r,rfl,(I0 h).symm⟩
theorem qO8 {α:Type} {l:List α} {a b:α} {j:Nat} (h:(l++[a])[j]?=some b):l[j]?=some b\/(j=l.length/\b=a):=by
 rcases A07 j l.length with z | z | z
 ·rw [O9 z] at h;exact .inl h
 ·subst z;simp at h;exact .inr ⟨rfl,h.symm⟩
 ·rw [J9 (by rw [A7,B4];lia)] at h
  cases h
theorem qD3 (a:Int) (zs:List Int):inV (.int a) (zs.map V.int)=decide (a ∈ zs):=by
 unfold inV
 induction zs with
 | nil=>simp
 | cons z r ih=>
  rw [E5,b4,ih];have e:eqV (.int z) (.int a)=decide (a=z):=by
   by_cases h:z=a
   ·subst h;simp [eqV]
   ·have h':¬ a=z:=fun q=>h q.symm;simp [eqV,h,h']
  rw [e];simp [B6]
theorem qBR (zs:List Int):(zs.map V.int).all qKJ=true:=by
 rw [F2];intro x hx;obtain ⟨z,_,rfl⟩:=D7.mp hx
 rfl
noncomputable def qD8 (ns st:List Int) (Aa wk:Int):V:=if wk ∈ st then .str "there" else if ∀ x ∈ ns,x ∈ st then (if Aa<=(st.length:Int) then .str "full" else .non) else .str "needs"
noncomputable def qDN (st:List Int) (wk:Int):V:=if wk ∈ st then .non else .str "empty"
def qLH:Sp:=fun vs H Q _=>∃ (a s:Addr) (Ae:List (List Int)) (st ns:List Int) (Aa wk:Int),vs=[.ref a,.int Aa,.ref s,.int wk]/\NetAt H a Ae/\H s=some (.tup (st.map V.int))/\st.length<=1000/\0<=wk/\Ae[wk.toNat]?=some ns/\
 ∀ H',Same H H'->Q (qD8 ns st Aa wk) H'
noncomputable def qD7 (ns st:List Int) (Aa:Int) (Ac:Str) (wk:Int):V:=if Ac = "do" then qD8 ns st Aa wk else qDN st wk
def qK0:Sp:=fun vs H Q _=>∃ (a s mv:Addr) (Ae:List (List Int)) (st ns:List Int) (Aa wk:Int) (Ac:Str),vs=[.ref a,.int Aa,.ref s,.ref mv]/\NetAt H a Ae/\H s=some (.tup (st.map V.int))/\st.length<=1000/\H mv=some (.tup [.str Ac,.int wk])/\(Ac = "do"\/Ac = "clear")/\0<=wk/\Ae[wk.toNat]?=some ns/\ns.length<=1000/\
 ∀ H',Same H H'->Q (qD7 ns st Aa Ac wk) H'
theorem qBE:¬ (D2 "clear" = D2 "do"):=by decide +kernel
theorem qDD {xs:List V} {i:Int} {x:V} (h0:0<=i) (h:xs[i.toNat]?=some x):atI xs i=some x:=by
 have e:i=((i.toNat:Nat):Int):=by lia
 rw [e];exact qTN (by simpa using h)
theorem NetAt.get {H:Hp} {a:Addr} {Ae:List (List Int)} {ns:List Int} {i:Nat} (h:NetAt H a Ae) (e:Ae[i]?=some ns):∃ (rs:List Addr) (r:Addr),H a=some (.tup (rs.map V.ref))/\rs.length=Ae.length/\(rs.map V.ref)[i]?=some (.ref r)/\H r=some (.tup (ns.map V.int)):=by
 obtain ⟨rs,h1,h2⟩:=h;obtain ⟨r,h3,h4⟩:=h2.get e;exact ⟨rs,r,h1,C6 h2,by rw [B5,h3];rfl,h4⟩
def qa1 (t:TS):TS:=fun D σ H=>∃ Pm:St->Hp->Prop,t { D with nx:=Pm } σ H/\∀ σ' H',Pm σ' H'->D.nx σ' H'
theorem qX3 {X:Cx} {st:Stmt} {t:TS} (h:PS X st t):PS X st (qa1 t):=by
 intro Ab s σ H D I hq;obtain ⟨Pm,h1,h2⟩:=hq;refine thn (h Ab s σ H _ I h1) fun f s' q=>?_;cases f with
 | next=>obtain ⟨σ',H',I',q⟩:=q;exact ⟨σ',H',I',h2 _ _ q⟩
 | brk=>exact q
 | cont=>exact q
 | ret u=>exact q
theorem qJX {ns st:List Int} {i:Nat} {z:Int} (ez:ns[i]?=some z):((ns.take i).map fun x=>decide (x ∈ st)).map V.bl++[V.bl (decide (z ∈ st))]=((ns.take (i+1)).map fun x=>decide (x ∈ st)).map V.bl:=by
 rw [C7,ez,C8,B0,B0]
 rfl
theorem all_in {ns st:List Int}:(((ns.map fun x=>decide (x ∈ st)).all id)=true) ↔ ∀ x ∈ ns,x ∈ st:=by
 rw [F2]
 constructor
 ·intro h x hx;have:=h _ (D7.mpr ⟨x,hx,rfl⟩);exact of_decide_eq_true this
 ·intro h b hb;obtain ⟨x,hx,rfl⟩:=D7.mp hb;exact decide_eq_true (h x hx)
theorem qZN:bootBuiltins "zip" = some (.type "zip"):=by decide +kernel
def seqO (b:Bool) (xs:List V):HO:=match b with | true=>.tup xs | false=>.lst xs
section
variable {K:PySem.W.Frag}
end
theorem qCD {α:Type} {p:α->Bool} {l:List α} {i:Nat} {x:α} (h:l[i]?=some x):(l.take (i+1)).filter p=(l.take i).filter p++(if p x then [x] else []):=by
 rw [C7,h,C8,List.filter_append];by_cases hp:p x=true
 ·simp [hp]
 ·simp [hp]
end Fw
namespace L2
open PySem PySem.Spec PyProof.Rows
def SqO (b:Bool) (K:PySem.W.Frag) (H:Hp) (a:Addr) (xs:List V):Prop:=match b with | true=>SqT K H a xs | false=>SqL K H a xs
def ItO (b:Bool) (K:PySem.W.Frag) (a:Addr):It:=match b with | true=>Itt K a | false=>Itl K a
def iSeq (K:PySem.W.Frag) (tl:TE):TI:=fun σ H R=>tl σ H fun x H1=>∃ (b:Bool) (a:Addr),x=.ref a/\(∃ xs,SqO b K H1 a xs)/\R (ItO b K a) H1
section
variable {X:Cx} {tg:Expr}
theorem qVZ {l:Expr} {tl:TE} (hl:PE X l tl):PI X tg l (iSeq X.K tl):=by
 intro Ab s σ H R I h;refine thn (hl Ab s σ H _ I h) fun v s1 ⟨x,H1,I1,r1,q1⟩=>?_;obtain ⟨b,a,e,⟨xs,hq⟩,q⟩:=q1;subst e;cases r1;cases b with
 | false=>
  obtain ⟨its,rv,p,hz⟩:=I1.list hq;refine wpAny_pyIter_list p.isList ?_;refine ⟨s1.heap.objs.size,[s1.heap.objs.size],_,_,H1,rfl,I1.kept (t':=s1.toks) fun b o e=>A4 _ e,qLA a _,⟨_,A9 _ rfl,rfl,rfl⟩,fun b hb=>?_,q⟩;cases A8.mp hb;exact I1.fpOk (A6 _) (I1.hok.fresh (A6 _))
 | true=>
  obtain ⟨its,rv,p,hz⟩:=I1.tuple hq;refine wpAny_pyIter_tuple (show s1.heap.IsTuple a its.toArray from p) ?_;refine ⟨s1.heap.objs.size,[s1.heap.objs.size],_,_,H1,rfl,I1.kept (t':=s1.toks) fun b o e=>A4 _ e,qJ2 a _,⟨_,A9 _ rfl,rfl,rfl⟩,fun b hb=>?_,q⟩;cases A8.mp hb;exact I1.fpOk (A6 _) (I1.hok.fresh (A6 _))
end
theorem qW3 {b:Bool} {K:PySem.W.Frag} {a:Addr} {xs:List V} {g:TG} {tc:TT} {te:TE} {Kf:Hp->Prop} {σ0:St} {H0:Hp} {p:Addr} (Pv:Nat->St->Hp->Prop) (h0:Pv 0 σ0 H0) (hl:∀ i σ H,i<=xs.length->Pv i σ H->SqO b K H a xs)
  (hs:∀ i x σ H,xs[i]?=some x->Pv i σ H->g x σ H fun σ2 H2=>tc σ2 H2 fun b H3=>if b=true then te σ2 H3 fun y H4=>∃ ys,H4 p=some (.lst ys)/\ys.length<sizeLine/\Pv (i+1) σ2 (Ag H4 p (.lst (ys++[y]))) else Pv (i+1) σ2 H3)
  (hd:∀ σ H,Pv xs.length σ H->Kf H) :
  LcG (ItO b K a) g tc te Kf σ0 H0 p:=by
 cases b with
 | true=>exact qER Pv h0 hl hs hd
 | false=>exact qDJ Pv h0 hl hs hd
def IeO (b:Bool) (K:PySem.W.Frag) (a:Addr):It:=match b with | true=>IteT K a | false=>Ite K a
def qZF (K:PySem.W.Frag) (ta:TA):TI:=fun σ H R=>ta σ H fun vs H1=>∃ (b:Bool) (l:Addr),vs=[.ref l]/\(∃ xs,SqO b K H1 l xs)/\R (IeO b K l) H1
section
variable {X:Cx}
theorem qUL {elts:List Expr} {k:Nat} {tpos:Pos} {a:Expr} {ta:TA} {p pos:Pos} (hg:Gl X "enumerate") (hm:X.mg "enumerate" = none) (hv:bootBuiltins "enumerate" = some (.type "enumerate")) (ha:PA X [a] ta) (hs:starEach [a] X.env=[(false,eval a X.env)]:=by rfl) :
  PI X (.Tuple elts k tpos) (.Call (.Name "enumerate" p) [a] [] pos) (qZF X.K ta):=by
 intro Ab s σ H R I h;refine Call_ (qG4 I hg hm hv (L4 (thn (ha pos Ab s σ H _ I h) fun us s1 ⟨vs,H1,I1,r1,q1⟩=>?_) hs rfl));obtain ⟨b,l,e,⟨xs,hq⟩,q⟩:=q1;subst e;obtain ⟨u,rfl,rx⟩:=qDO r1;cases rx;cases b with
 | false=>
  obtain ⟨its,rv,pl,hz⟩:=I1.list hq;refine call_enumerate_list pl.isList fun h' he hi hsz hk=>?_;refine wpAny_pyIter_enum he ?_;have I2:Inv X Ab σ H1 { s1 with heap:=h' }:=I1.kept (t':=s1.toks) hk;refine ⟨s1.heap.objs.size+1,[s1.heap.objs.size+1,s1.heap.objs.size],_,_,H1,rfl,I2,qLB l s1.heap.objs.size (s1.heap.objs.size+1) (m9 _),⟨⟨_,he⟩,hi⟩,fun b hb=>?_,q⟩;have e':b=s1.heap.objs.size+1\/b=s1.heap.objs.size:=by simpa using hb
  rcases e' with rfl | rfl
  ·exact I1.fpOk (R8 _) (I1.hok.fresh (R8 _))
  ·exact I1.fpOk (A6 _) (I1.hok.fresh (A6 _))
 | true=>
  obtain ⟨its,rv,pl,hz⟩:=I1.tuple hq;have ltl:l<s1.heap.objs.size:=by obtain ⟨o,e,_⟩:=pl;exact B3 e
  refine qJM pl fun h' he hi hsz hk=>?_;refine wpAny_pyIter_enum he ?_;have I2:Inv X Ab σ H1 { s1 with heap:=h' }:=I1.kept (t':=s1.toks) hk;refine ⟨s1.heap.objs.size+1,[s1.heap.objs.size+1,s1.heap.objs.size],_,_,H1,rfl,I2,qJ3 l s1.heap.objs.size (s1.heap.objs.size+1) (m9 _) (C2 ltl) (C2 (P8 ltl)),⟨⟨_,he⟩,hi⟩,fun b hb=>?_,q⟩;have e':b=s1.heap.objs.size+1\/b=s1.heap.objs.size:=by simpa using hb
  rcases e' with rfl | rfl
  ·exact I1.fpOk (R8 _) (I1.hok.fresh (R8 _))
  ·exact I1.fpOk (A6 _) (I1.hok.fresh (A6 _))
end
theorem qUU {b:Bool} {K:PySem.W.Frag} {a:Addr} {xs:List V} {g:TG} {tc:TT} {te:TE} {Kf:Hp->Prop} {σ0:St} {H0:Hp} {p:Addr} (Pv:Nat->St->Hp->Prop) (h0:Pv 0 σ0 H0) (hl:∀ i σ H,i<=xs.length->Pv i σ H->SqO b K H a xs)
  (hs:∀ i x σ H T,xs[i]?=some x->Pv i σ H->H T=none->g (.ref T) σ (Ag H T (.tup [.int (i:Int),x])) fun σ2 H2=>tc σ2 H2 fun b H3=>if b=true then te σ2 H3 fun y H4=>∃ ys,H4 p=some (.lst ys)/\ys.length<sizeLine/\Pv (i+1) σ2 (Ag H4 p (.lst (ys++[y]))) else Pv (i+1) σ2 H3)
  (hd:∀ σ H,Pv xs.length σ H->Kf H) :
  LcG (IeO b K a) g tc te Kf σ0 H0 p:=by
 cases b with
 | true=>exact qOV Pv h0 hl hs hd
 | false=>exact qNF Pv h0 hl hs hd
theorem qJI {a:Addr} {o:Obj} {Af:List (List Key × V)} {g:TG} {tb:TS} {D:Ends} {σ:St} {H:Hp} (Pv:Nat->St->Hp->Prop) (h0:Pv 0 σ H) (hl:∀ i σ H,i<=Af.length->Pv i σ H->H a=some (.frz o (.dT Af)))
  (hs:∀ i k v r σ H,Af[i]?=some (k,v)->H r=some (.tup (k.map kV))->Pv i σ H->g (.ref r) σ H fun σ2 H2=>tb { D with nx:=Pv (i+1),ct:=Pv (i+1),bk:=D.nx } σ2 H2) (hd:∀ σ H,Pv Af.length σ H->D.nx σ H) :
  ForG (ItT a o Af) g tb D σ H:=by
 refine ⟨fun i m σ H=>m=Af.length - i/\i<=Af.length/\Pv i σ H,⟨Af.length,by simp,D8 _,h0⟩,?_⟩
 rintro i m σ H ⟨rfl,hi,p⟩;have q:=hl i σ H hi p;by_cases hlt:i<Af.length
 ·refine .inr ⟨⟨hlt,q⟩,Pv (i+1),fun σ' H' p'=>⟨Af.length - (i+1),by lia,rfl,hlt,p'⟩,fun x H' y=>?_⟩
  obtain ⟨e,k,v,r,e2,e3,e4⟩:=y;subst e e3;exact hs i k v r σ _ e2 e4 p
 ·have e:i=Af.length:=by lia
  subst e;exact .inl ⟨⟨A6 _,q⟩,hd σ H p⟩
section
variable {X:Cx}
end
def qaE:V->Option Int->Option Int->Hp->VK->Prop:=fun x lo hi H Q=>∃ a xs,x=.ref a/\Rd H a (.tup xs)/\∀ p H',(∀ b o,H b=some o->H' b=some o)->Rd H' p (.tup (cutV xs lo hi))->Q (.ref p) H'
section
variable {X:Cx}
theorem qWV:SlR X qaE:=by
 intro Ab s σ H x v vl vu lo hi sl Q I rx hs pl pu h;obtain ⟨a,xs,rfl,hx,q⟩:=h;by_cases hw:HT.sIx xs.length 0 lo=0/\HT.sIx xs.length xs.length hi=xs.length
 ·cases rx;obtain ⟨its,r,ht,hz⟩:=I.tuple (.inl hx);have hlen:its.toArray.size=xs.length:=by rw [C0];exact r.length.symm
  refine ⟨"tuple",_,E3.lookup,ht.typeIs,?_⟩;refine HT.getItem_tuple_whole ht hs pl pu (by rw [hlen];exact hw) ⟨.ref a,H,I,rfl,q a H (fun _ _ e=>e) ?_⟩
  have:cutV xs lo hi=xs:=by
   unfold cutV;rw [hw.1,hw.2,y4,A42,K0]
  rw [this];exact hx
 ·exact qVU Ab s σ H (.ref a) v vl vu lo hi sl Q I rx hs pl pu ⟨a,xs,rfl,.inl hx,hw,fun p hp=>q p _ (fun b u e=>by rw [qAC (qA7 e hp)];exact e) (.inl qA1)⟩
end
end L2
namespace Fw
open PySem L2
def qIP (x:V) (d:PyData):Prop:=(x=.non/\d=.none)\/(∃ b,x=.bl b/\d=.bool b)\/(∃ i,x=.int i/\d=.int i)\/∃ y,x=.str y/\d=.str y
def seqD (b:Bool) (ds:List PyData):PyData:=match b with | true=>.tuple ds | false=>.list ds
def DatN (H:Hp):Nat->V->PyData->Prop
 | 0,x,d=>qIP x d
 | n+1,x,d=>qIP x d\/∃ (b:Bool) (a:Addr) (xs:List V) (ds:List PyData),x=.ref a/\d=seqD b ds/\H a=some (seqO b xs)/\xs.length=ds.length/\∀ (i:Nat) (x':V) (d':PyData),xs[i]?=some x'->ds[i]?=some d'->DatN H n x' d'
theorem DatN.same {H H':Hp} (s:Same H H'):∀ {n:Nat} {x:V} {d:PyData},DatN H n x d->DatN H' n x d:=by
 intro n
 induction n with
 | zero=>exact fun {x d} h=>show qIP x d from h
 | succ n ih=>
  rintro x d (h | ⟨b,a,xs,ds,e1,e2,h1,hl,h⟩)
  ·exact .inl h
  ·exact .inr ⟨b,a,xs,ds,e1,e2,s _ _ h1,hl,fun i x' d' q1 q2=>ih (h i x' d' q1 q2)⟩
theorem DatN.up {H:Hp}:∀ {n:Nat} {x:V} {d:PyData},DatN H n x d->DatN H (n+1) x d:=by
 intro n
 induction n with
 | zero=>exact fun {x d} h=>.inl h
 | succ n ih=>
  rintro x d (h | ⟨b,a,xs,ds,e1,e2,h1,hl,h⟩)
  ·exact .inl h
  ·exact .inr ⟨b,a,xs,ds,e1,e2,h1,hl,fun i x' d' q1 q2=>ih (h i x' d' q1 q2)⟩
end Fw
namespace L2
open PySem PySem.Spec PyProof.Rows Fw
theorem qFK {n:Nat}:∀ {ds:List PyData},(∀ d ∈ ds,d.depth<=n)->u6 ds<=n
 | [],_=>D8 _
 | d::ds,h=>by
  show max d.depth (u6 ds)<=n;have h1:=h d (C9 ..);have h2:=qFK (ds:=ds) fun d hd=>h d (D4 _ hd)
  lia
section
variable {X:Cx} {Ab:List (Addr × Obj)} {σ:St} {H:Hp} {s:Shared}
theorem qJ6 {x:V} {d:PyData} {v:Value} (h:qIP x d) (r:RelV x v):Reads s.heap v d []/\d.depth=0:=by
 rcases h with ⟨rfl,rfl⟩ | ⟨b,rfl,rfl⟩ | ⟨i,rfl,rfl⟩ | ⟨y,rfl,rfl⟩
 ·cases r;exact ⟨.none,rfl⟩
 ·cases r;exact ⟨.bool _,rfl⟩
 ·obtain ⟨t,rfl⟩:=r;exact ⟨.int _ _,rfl⟩
 ·obtain ⟨t,rfl⟩:=r;exact ⟨.str _ _,rfl⟩
theorem qPS (I:Inv X Ab σ H s):∀ (n:Nat) {x:V} {d:PyData} {v:Value},DatN H n x d->RelV x v->∃ as,Reads s.heap v d as/\d.depth<=n:=by
 intro n
 induction n with
 | zero=>
  intro x d v h r;obtain ⟨a,b⟩:=qJ6 (s:=s) h r;exact ⟨[],a,by lia⟩
 | succ n ih=>
  rintro x d v (h | ⟨b,a,xs,ds,rfl,rfl,h1,hl,h⟩) r
  ·obtain ⟨a,b⟩:=qJ6 (s:=s) h r;exact ⟨[],a,by lia⟩
  ·cases r;have all:∀ {us:List Value} {ys:List V} {es:List PyData},Vals ys us->ys.length=es.length->(∀ (i:Nat) (x':V) (d':PyData),ys[i]?=some x'->es[i]?=some d'->DatN H n x' d')->(∃ as,ReadsAll s.heap us es as)/\∀ e ∈ es,e.depth<=n:=by
    intro us ys es hv
    induction hv generalizing es with
    | nil=>
     intro hl _;cases es with
     | nil=>exact ⟨⟨[],.nil⟩,fun _ z=>nomatch z⟩
     | cons _ _=>cases hl
    | cons r t ih2=>
     intro hl h;cases es with
     | nil=>cases hl
     | cons e es=>
      obtain ⟨as,q1,q2⟩:=ih (h 0 _ _ rfl rfl) r;obtain ⟨⟨bs,q3⟩,q4⟩:=ih2 (by simpa using hl) fun i x' d' e1 e2=>h (i+1) x' d' e1 e2
      refine ⟨⟨as++bs,.cons q1 q3⟩,fun d' hd=>?_⟩;rcases B6.mp hd with z | z
      ·rw [z];exact q2
      ·exact q4 d' z
   cases b with
   | false=>
    obtain ⟨its,rv,⟨o,nn,e1,e2,e3,e4⟩,_⟩:=I.list (a:=a) (xs:=xs) (SqL.of h1);obtain ⟨⟨as,q1⟩,q2⟩:=all rv hl h;refine ⟨a::as,.list e1 e2 e4 (by simpa using q1),?_⟩
    show u6 ds+1<=n+1;have:=qFK q2
    lia
   | true=>
    obtain ⟨its,rv,⟨o,e1,e2,nn,e3⟩,_⟩:=I.tuple (a:=a) (xs:=xs) (SqT.of h1);obtain ⟨⟨as,q1⟩,q2⟩:=all rv hl h;refine ⟨as,.tuple e1 e2 e3 (by simpa using q1),?_⟩
    show u6 ds+1<=n+1;have:=qFK q2
    lia
end
end L2
namespace L2
open PySem PySem.Spec PyProof.Rows
end L2
namespace L2
open PySem PySem.Spec PyProof.Rows
section
variable {X:Cx}
end
end L2
namespace HT
open PySem PySem.Spec PyProof.Rows
section
variable {prog:Program} {w:World} {A:Around} {E:Value->Shared->Prop} {s:Shared}
theorem qH4 {sl:Addr} {tk:Tok} {n:Nat} {Q:Int × Int × Nat->Shared->Prop} (hs:s.heap.IsSliceOf sl .none .none (.int (-1) tk))
  (h:Q ((n:Int) - 1,-1,n) s):wpAny (model prog w) A (T1 (.ref sl) (pure (n:Int))) Q E s:=by
 obtain ⟨os,hos,hcs,hds⟩:=id hs;unfold T1 x8;refine wpAny_bind (wpAny_bind (wpAny_field hos hds (x:=.none) rfl (wpAny_bind (wpAny_field hos hds (x:=.none) rfl (wpAny_bind (wpAny_field hos hds (x:=.int (-1) tk) rfl (wpAny_pure ?_)))))));refine wpAny_bind (slicePart_int ?_);show wpAny _ _ (if ((-1:Int) == 0)=true then _ else _) _ _ s
 rw [if_neg (by decide)]
 refine wpAny_bind (slicePart_none (wpAny_bind (slicePart_none (wpAny_bind (wpAny_pure ?_)))));show wpAny _ _ (pure ((n:Int) - 1,(-1:Int),L9 ((n:Int) - 1) (-1) (-1))) _ _ s;have e:L9 ((n:Int) - 1) (-1) (-1)=n:=by
  unfold L9;rw [if_neg (by decide)]
  split
  ·rw [show (-(-1):Int)=1 from rfl,Int.ediv_one];lia
  ·lia
 rw [e];exact wpAny_pure h
theorem qWA {α β:Type} {f:α->Option β} {g:α->β}:∀ {l:List α},(∀ x ∈ l,f x=some (g x))->l.filterMap f=l.map g
 | [],_=>rfl
 | x::l,h=>by rw [R5,h x C9,E5,qWA fun y hy=>h y (D4 _ hy)]
theorem qUI (xs:Array Value):((E6 xs.size).filterMap fun (m:Nat)=>xs[(((xs.size:Int) - 1)+(m:Int) * (-1)).toNat]?).toArray=xs.toList.reverse.toArray:=by
 congr 1;apply A08;intro i;have e:((E6 xs.size).filterMap fun (m:Nat)=>xs[(((xs.size:Int) - 1)+(m:Int) * (-1)).toNat]?)=(E6 xs.size).map fun (m:Nat)=>xs.toList.getD (xs.size - 1 - m) default:=by
  refine qWA fun m hm=>?_;have hm:=D6.mp hm;have e1:(((xs.size:Int) - 1)+(m:Int) * (-1)).toNat=xs.size - 1 - m:=by lia
  rw [e1];have hl:xs.size - 1 - m<xs.size:=by lia
  rw [B7 hl,O4,F6,B7 hl]
  rfl
 rw [e,B5];by_cases hi:i<xs.size
 ·rw [A65 hi,List.getElem?_reverse (by rw [B2];exact hi),B2]
  show some (xs.toList.getD (xs.size - 1 - i) default)=_;have hl:xs.size - 1 - i<xs.size:=by lia
  rw [O4,F6,B7 hl]
  rfl
 ·rw [J9 (by rw [A09];lia),J9 (by rw [Y4,B2];lia)]
  rfl
theorem getItem_tuple_rev {t sl:Addr} {items:Array Value} {tk:Tok} {Q:Value->Shared->Prop} (ht:IsTup s.heap t items) (hs:s.heap.IsSliceOf sl .none .none (.int (-1) tk))
  (h:Q (.ref s.heap.objs.size) { s with heap:=s.heap.push { cls:=.type "tuple",data:=.seq items.toList.reverse.toArray } })
  (hsz:items.size<=sizeLine):wpAny (model prog w) A (getItem (.ref t) (.ref sl)) Q E s:=by
 have htake:sizeOk (.seq items.toList.reverse.toArray):=by
  show items.toList.reverse.toArray.size<=sizeLine;rw [C0,Y4,B2];exact hsz
 obtain ⟨os,hos,hcs,hds⟩:=id hs;have hTs:s.TypeIs (.ref sl) "slice":=⟨os,hos,hcs⟩;unfold getItem
 try with_reducible refine wpAny_holding ?_
 first | refine wpAny_bind (wpAny_pure ?_) | skip
 refine wpAny_bind (wpAny_sequenceKey ht.typeIs (by decide) ?_)
 refine wpAny_bind (wpAny_callSpecial?_slot (name:=D2 "__getitem__") ht.typeIs E3
  (wpAny_call_entry E3 ht.typeIs entry_tuple_getitem ?_ (args_tuple_getitem _ _)))
 show wpAny _ _ (T3 (.ref t) >>= _) _ _ s;refine wpAny_bind (tupleItemsOf_ ht ?_);refine wpAny_bind (wpAny_typeOf hTs ?_);rw [if_pos (by decide)]
 refine wpAny_bind (qH4 hs ?_);have hno:¬ (((items.size:Int) - 1 == 0 && (-1:Int) == 1 && items.size == items.size)=true):=by
  rw [show ((-1:Int) == 1)=false by decide,Q1,E2]
  decide
 show wpAny _ _ (if ((items.size:Int) - 1 == 0 && (-1:Int) == 1 && items.size == items.size)=true then _ else _) _ _ s
 rw [if_neg hno,qUI]
 first
  | exact wpAny_bind (m:=J8 _) (wpAny_newObj_type (wpAny_pure ⟨_,rfl,wpAny_pure h⟩) htake)
  | exact wpAny_bind (m:=J8 _) (wpAny_newObj_type (wpAny_bind (wpAny_pure (wpAny_pure ⟨_,rfl,wpAny_pure h⟩))) htake)
  | exact wpAny_bind (wpAny_bind (m:=J8 _) (wpAny_newObj_type (wpAny_pure (wpAny_pure ⟨_,rfl,wpAny_pure h⟩)) htake))
end
end HT
namespace L2
open PySem PySem.Spec PyProof.Rows Fw
section
variable {X:Cx} {e:Expr} {te:TE} {st:Option Expr} {tst:TO} {pos p2:Pos}
def qZX (K:PySem.W.Frag) (te:TE) (tst:TO):TE:=fun σ H Q=>te σ H fun x H1=>tst σ H1 fun l H2=>l=some (-1)/\∃ a xs,x=.ref a/\SqT K H2 a xs/\∀ p,H2 p=none->Q (.ref p) (Ag H2 p (.tup xs.reverse))
theorem qJ9 (he:PE X e te) (hst:PO X st tst) (hop:∀ v l:Value,∃ ops,subscripted (.Slice none none st p2) false v l=operate ops (getItem v l):=by intro v l;exact ⟨_,by with_unfolding_all rfl⟩):PE X (.Subscript e (.Slice none none st p2) pos) (qZX X.K te tst):=by
 intro Ab s σ H Q I h;refine Subscript_ (thn (he Ab s σ H _ I h) fun v s1 ⟨x,H1,I1,r1,q1⟩=>?_);refine wpAny_Slice ?_;rw [evalPart_none];refine wpAny_pure (wpAny_pure (thn (hst Ab s1 σ H1 _ I1 q1) fun vk s3 ⟨u,H3,I3,pu,q3⟩=>?_));obtain ⟨rfl,a,xs,rfl,hx,q⟩:=q3;cases r1;have I4:Inv X Ab σ H3 { s3 with heap:=s3.heap.push { cls:=.type "slice",data:=.fields #[.none,.none,vk] } }:=I3.kept (t':=s3.toks) fun b ob q=>A4 _ q;obtain ⟨its,r,ht,hz⟩:=I4.tuple hx;have hlen:=r.length;have hsl:Heap.IsSliceOf (s3.heap.push { cls:=.type "slice",data:=.fields #[.none,.none,vk] }) s3.heap.objs.size .none .none vk:=A73 ..;obtain ⟨ops,hops⟩:=hop (.ref a) (.ref s3.heap.objs.size);cases pu;refine tail_any (ops:=ops) ht.typeIs E3.lookup ?_ hops;refine HT.getItem_tuple_rev ht hsl ?_ (by rw [C0] <;> lia)
 rw [show its.toArray.toList.reverse.toArray=its.reverse.toArray by simp]
 refine ⟨.ref _,_,I4.laid (t':=s3.toks) (o:=.tup xs.reverse) (fun b ob q=>A4 _ q) (A6 _) ?_,rfl,q _ (I4.hok.fresh (A6 _))⟩;exact ⟨by rw [Y4];exact hz,_,r.reverse,⟨_,A9 _ rfl,rfl,0,rfl,rfl⟩⟩
def qaD:V->Option Int->Option Int->Hp->VK->Prop:=fun x lo hi H Q=>∃ a xs,x=.ref a/\H a=some (.tup xs)/\∀ p H',Same H H'->H' p=some (.tup (cutV xs lo hi))->Q (.ref p) H'
theorem qR6:SlR X qaD:=by
 intro Ab s σ H x v vl vu lo hi sl Q I rx hs pl pu h;obtain ⟨a,xs,rfl,hx,q⟩:=h;by_cases hw:HT.sIx xs.length 0 lo=0/\HT.sIx xs.length xs.length hi=xs.length
 ·cases rx;obtain ⟨its,r,ht,hz⟩:=I.tuple (SqT.of hx);have hlen:its.toArray.size=xs.length:=by rw [C0];exact r.length.symm
  refine ⟨"tuple",_,E3.lookup,ht.typeIs,?_⟩;refine HT.getItem_tuple_whole ht hs pl pu (by rw [hlen];exact hw) ⟨.ref a,H,I,rfl,q a H (fun _ _ e=>e) ?_⟩
  have:cutV xs lo hi=xs:=by
   unfold cutV;rw [hw.1,hw.2,y4,A42,K0]
  rw [this];exact hx
 ·exact qVU Ab s σ H (.ref a) v vl vu lo hi sl Q I rx hs pl pu ⟨a,xs,rfl,SqT.of hx,hw,fun p hp=>q p _ (fun b u e=>by rw [qAC (qA7 e hp)];exact e) qA1⟩
theorem qMH (hg:X.A.guards=some []) (hu:X.A.units+64<cLine):qCF X (.type "str") (fun xs H Q=>∃ (x:V) (n:Nat) (d:PyData),xs=[x]/\DatN H n x d/\n<=40/\d.showable=true/\d.hasDict=false/\d.shown.length<=sizeLine/\∀ z,(∃ g:PyData->Str,z=g d/\g=fun d=>match d with | .str y=>y | .bool b=>if b then "True" else "False" | .none=>"None" | .int i=>toString i | d=>d.shown)->Q (.str z) H):=by
 intro Ab s σ H xs us Q I r h;obtain ⟨x,n,d,rfl,hd,hn,h1,h2,h3,q⟩:=h;obtain ⟨u,rfl,rx⟩:=qDO r;have leaf:qIP x d\/∃ a,x=.ref a/\((∃ ds,d=.list ds)\/∃ ds,d=.tuple ds):=by
  cases n with
  | zero=>exact .inl hd
  | succ n=>
   rcases hd with h | ⟨b,a,xs,ds,e1,e2,_⟩
   ·exact .inl h
   ·cases b
    ·exact .inr ⟨a,e1,.inl ⟨ds,e2⟩⟩
    ·exact .inr ⟨a,e1,.inr ⟨ds,e2⟩⟩
 rcases leaf with (⟨rfl,rfl⟩ | ⟨b,rfl,rfl⟩ | ⟨i,rfl,rfl⟩ | ⟨y,rfl,rfl⟩) | ⟨a,rfl,hk⟩
 ·cases rx;exact P.str_of_none ⟨.str "None",H,I.tok _,⟨_,rfl⟩,q _ ⟨_,rfl,rfl⟩⟩
 ·cases rx;exact P.str_of_bool ⟨.str (if b then "True" else "False"),H,I.tok _,⟨_,rfl⟩,q _ ⟨_,rfl,rfl⟩⟩
 ·obtain ⟨t,rfl⟩:=rx;exact P.str_of_int (of_decide_eq_true h1) ⟨.str (toString i),H,I.tok _,⟨_,rfl⟩,q _ ⟨_,rfl,rfl⟩⟩
 ·obtain ⟨t,rfl⟩:=rx;exact P.str_of_str ⟨.str y,H,I,⟨_,rfl⟩,q _ ⟨_,rfl,rfl⟩⟩
 ·cases rx;obtain ⟨as,hr,dp⟩:=qPS I n hd (show RelV (.ref a) (.ref a) from rfl);refine str_of_reads hr h1 (PyData.noDict_hsm h2) hg (by lia) (fun _ _ e=>e) (fun h' u tk hk'=>⟨.str d.shown,H,I.kept hk',⟨_,rfl⟩,q _ ⟨_,?_,rfl⟩⟩) h3
  rcases hk with ⟨ds,rfl⟩ | ⟨ds,rfl⟩ <;> rfl
end
end L2
namespace L2
open PySem PySem.Spec PyProof.Rows
section
variable {X:Cx}
theorem qWR {A:Around} {s:Shared} {Ab:List (Addr × Obj)} {σ:St} {H:Hp} (I:Inv X Ab σ H s) (hu:A.units<cLine) {a b:Addr} {zs ys:List Int} (ha:H a=some (.tup (zs.map V.int))) (hb:H b=some (.tup (ys.map V.int))):SeqAt.EqAt A s (.ref a) (.ref b) (decide (zs=ys)):=by
 have inj:∀ {u v:List Int},u.map V.int=v.map V.int->u=v:=by
  intro u
  induction u with
  | nil=>intro v h;cases v with | nil=>rfl | cons _ _=>cases h
  | cons x u ih=>
   intro v h;cases v with
   | nil=>cases h
   | cons y v=>
    rw [E5,E5] at h
    injection h with h1 h2
    injection h1 with h1
    rw [h1,ih h2]
 by_cases e:a=b
 ·subst e;rw [ha] at hb
  injection hb with hb
  injection hb with hb
  rw [decide_eq_true (inj hb)];exact B26 _
 ·obtain ⟨us,r1,p1,z1⟩:=I.tuple (SqT.of ha);obtain ⟨vs,r2,p2,z2⟩:=I.tuple (SqT.of hb);have l1:=r1.length;have l2:=r2.length;rw [A0] at l1 l2;refine SeqAt.EqAt.of_refs e ?_;have key:=SeqAt.RcAt.tuples (A:=A) (s:=s) (e:=fun j=>decide (zs[j]?=ys[j]?)) p1 p2 hu (fun j h1 h2=>by
   rw [C0] at h1 h2;have hz:j<zs.length:=by lia
   have hy:j<ys.length:=by lia
   obtain ⟨a,ea,ra⟩:=r1.get (i:=j) (x:=.int zs[j]) (by rw [B5,A3 hz];rfl)
   obtain ⟨b,eb,rb⟩:=r2.get (i:=j) (x:=.int ys[j]) (by rw [B5,A3 hy];rfl)
   obtain ⟨t,rfl⟩:=ra;obtain ⟨t',rfl⟩:=rb;have e1:us.toArray[j]=.int zs[j] t:=by
    rw [A50];exact I0 ((A3 h1).symm.trans ea)
   have e2:vs.toArray[j]=.int ys[j] t':=by
    rw [A50];exact I0 ((A3 h2).symm.trans eb)
   rw [e1,e2];have:=w6 (A:=A.in1) (s:=s) zs[j] t ys[j] t';rw [show (zs[j] == ys[j])=decide (zs[j]?=ys[j]?) by rw [A3 hz,A3 hy];by_cases c:zs[j]=ys[j] <;> simp [c]] at this
   exact this)
  have eb:((E6 (min us.toArray.size vs.toArray.size)).all (fun j=>decide (zs[j]?=ys[j]?)) && us.toArray.size == vs.toArray.size)=decide (zs=ys):=by
   rw [C0,C0,<- l1,<- l2,O7,O1,F2,beq_iff_eq,decide_eq_true_eq]
   constructor
   ·rintro ⟨h1,h2⟩;refine A08 fun i=>?_;by_cases hi:i<zs.length
    ·exact of_decide_eq_true (h1 i (D6.mpr (by lia)))
    ·rw [J9 (by lia),J9 (by lia)]
   ·rintro rfl;exact ⟨fun _ _=>decide_eq_true rfl,rfl⟩
  rw [eb] at key;exact key
theorem qWZ {rs:List Addr} {us:List Value} (h:Vals (rs.map V.ref) us):us=rs.map F3:=by
 induction rs generalizing us with
 | nil=>cases h;rfl
 | cons a rs ih=>cases h with | cons h1 h2=>cases h1;rw [ih h2];rfl
theorem qG0 (hu:X.A.units+64<cLine):OpR X (compareOp .NotIn) (fun x y H Q=>∃ (p l:Addr) (zs:List Int) (rs:List Addr) (ts:List (List Int)),x=.ref p/\y=.ref l/\H p=some (.tup (zs.map V.int))/\SqL X.K H l (rs.map V.ref)/\Paired (fun (r:Addr) (t:List Int)=>H r=some (.tup (t.map V.int))) rs ts/\Q (.bl (decide (zs ∉ ts))) H):=by
 intro Ab s σ H x y v u Q I rx ry h;obtain ⟨p,l,zs,rs,ts,rfl,rfl,h1,h2,T,q⟩:=h;cases rx;cases ry;obtain ⟨its,r,pl,hz⟩:=I.list h2;have ei:=qWZ r;subst ei;have mem:∀ {rs:List Addr} {ts:List (List Int)},Paired (fun (r:Addr) (t:List Int)=>H r=some (.tup (t.map V.int))) rs ts->∀ r ∈ rs,∃ t:List Int,H r=some (.tup (t.map V.int)):=by
  intro rs ts h
  induction h with
  | nil=>exact fun r hr=>nomatch hr
  | cons g _ ih=>exact fun r hr=>(B6.mp hr).elim (fun e=>⟨_,e ▸ g⟩) (ih r)
 refine SeqAt.notIn_listAt (fun w=>decide (L2.GS.keyH H w=zs)) pl.isList (fun w hw=>?_) ⟨.bl _,H,I,rfl,?_⟩
 ·obtain ⟨r0,hr0,rfl⟩:=D7.mp (show w ∈ rs.map F3 by simpa using hw)
  obtain ⟨t,ht⟩:=mem T r0 hr0;rw [L2.GS.keyH_at ht];exact qWR I (by show X.A.units+1<cLine;lia) ht h1
 ·have e:(!(rs.map F3).toArray.any fun w=>decide (L2.GS.keyH H w=zs))=decide (zs ∉ ts):=by
   have e2:((rs.map F3).any fun w=>decide (L2.GS.keyH H w=zs))=decide (zs ∈ ts):=by
    clear q r pl hz h2
    induction T with
    | nil=>simp
    | @cons r0 t rs ts g _ ih=>
     rw [E5,b4,ih,L2.GS.keyH_at g,O7,A30,decide_eq_true_eq,decide_eq_true_eq,decide_eq_true_eq,B6];exact ⟨fun h=>h.imp Eq.symm id,fun h=>h.imp Eq.symm id⟩
   rw [List.any_toArray,e2];by_cases c:zs ∈ ts
   ·rw [decide_eq_true c,decide_eq_false (fun z=>z c)];rfl
   ·rw [decide_eq_false c,decide_eq_true c];rfl
  rw [e];exact q
end
end L2
namespace Fw
open PySem L2
abbrev MovL (H:Hp):List Addr->List (Str × Int)->Prop:=Paired fun r m=>H r=some (.tup [.str m.1,.int m.2])
theorem MovL.same {H H':Hp} {rs:List Addr} {ms:List (Str × Int)} (h:MovL H rs ms) (k:Same H H'):MovL H' rs ms:=by
 induction h with
 | nil=>exact .nil
 | cons r t ih=>exact .cons (k _ _ r) ih
theorem MovL.put {H:Hp} {p:Addr} {xs:List V} {o:HO} {rs:List Addr} {ms:List (Str × Int)} (h:MovL H rs ms) (hp:H p=some (.lst xs)):MovL (Ag H p o) rs ms:=by
 induction h with
 | nil=>exact .nil
 | cons r t ih=>exact .cons (by rw [qAC (qDV r hp (by intro z;cases z))];exact r) ih
theorem qPZ {α β:Type} {F:α->β->Prop} {a c:List α} {b d:List β} (h:Paired F a b) (k:Paired F c d):Paired F (a++c) (b++d):=by
 induction h with
 | nil=>exact k
 | cons r t ih=>exact .cons r ih
theorem MovL.snoc {H:Hp} {rs:List Addr} {ms:List (Str × Int)} {r:Addr} {wo:Str} {x:Int} (h:MovL H rs ms) (e:H r=some (.tup [.str wo,.int x])):MovL H (rs++[r]) (ms++[(wo,x)]):=Z8 h e
theorem MovL.app {H:Hp} {rs rs':List Addr} {ms ms':List (Str × Int)} (h:MovL H rs ms) (h':MovL H rs' ms'):MovL H (rs++rs') (ms++ms'):=qPZ h h'
noncomputable def qH8 (w:Str) (n:Nat):List (Str × Int):=(E6 n).map fun (i:Nat)=>(w,(i:Int))
theorem qJF (w:Str) (n:Nat):qH8 w (n+1)=qH8 w n++[(w,0+(n:Int))]:=by
 unfold qH8;rw [A43,B0,B05]
 rfl
theorem qEQ (w:Str) (n:Nat):(qH8 w n).length=n:=by unfold qH8;simp
noncomputable def wd (Ae:List (List Int)) (st:List Int) (Aa:Int) (m:Str × Int):V:=qD7 ((Ae[m.2.toNat]?).getD []) st Aa m.1 m.2
noncomputable def qIZ (n:Nat):List (Str × Int):=qH8 "do" n++qH8 "clear" n
noncomputable def qD5 (Ae:List (List Int)) (st:List Int) (Aa:Int):List (Str × Int):=(qIZ Ae.length).filter fun m=>decide (wd Ae st Aa m=.non)
theorem qME (n:Nat):(qIZ n).length=n+n:=by unfold qIZ;rw [A7,qEQ,qEQ]
theorem qP4 {n:Nat} {m:Str × Int} (h:m ∈ qIZ n):(m.1 = "do"\/m.1 = "clear")/\0<=m.2/\m.2<(n:Int):=by
 unfold qIZ qH8 at h;rcases B1.mp h with h | h
 ·obtain ⟨i,hi,rfl⟩:=D7.mp h;have:=D6.mp hi;exact ⟨.inl rfl,by simp;lia⟩
 ·obtain ⟨i,hi,rfl⟩:=D7.mp h;have:=D6.mp hi;exact ⟨.inr rfl,by simp;lia⟩
def qLG:Sp:=fun vs H Q _=>∃ (a s:Addr) (Ae:List (List Int)) (st:List Int) (Aa:Int),vs=[.ref a,.int Aa,.ref s]/\NetAt H a Ae/\WFn Ae/\Ae.length<=1000/\H s=some (.tup (st.map V.int))/\st.length<=1000/\
 ∀ l rs H',Same H H'->H l=none->H' l=some (.lst (rs.map V.ref))->MovL H' rs (qD5 Ae st Aa)->Q (.ref l) H'
theorem qFE {n:Int} {i:Nat} (h:(i:Int)<n):(qB8 0 n)[i]?=some (i:Int):=by
 unfold qB8;rw [B5,A65 (by lia)]
 simp
theorem qBG {α:Type} {l:List α} {n:Nat} (h:l.length=n):l.take n=l:=D3 (by lia)
theorem qQ9 {p:Int->Bool} {n:Nat}:((qB8 0 (n:Int)).filter p).length<=n:=by
 have:=a8 p (qB8 0 (n:Int));rw [qDP] at this
 lia
theorem qBS {p:Int->Bool} {l:List Int} {i:Nat}:((l.take i).filter p).length<=i:=by
 have:=a8 p (l.take i);rw [B9] at this
 lia
structure Cnt (n:Nat) (cs:List Int) (seen:List Int):Prop where
 len:cs.length=n
 at_:∀ x:Nat,x<n->∃ c,cs[x]?=some c/\0<=c/\(c=0 ↔ (x:Int) ∉ seen)
theorem qBM {n:Nat} (h:n<=1000000):n<sizeLine:=by rw [sizeLine_eq];lia
inductive Nd (Ae:List (List Int)) (Ad:List Int):Int->Prop
 | ask {x:Int}:x ∈ Ad->Nd Ae Ad x
 | need {w y:Int} {zs:List Int}:Nd Ae Ad w->Ae[w.toNat]?=some zs->y ∈ zs->Nd Ae Ad y
structure KeysI (Af:List (Key × V)) (ks:List Int):Prop where
 keys:Af.map (·.1)=ks.map F9
 nd:ks.Nodup
structure Fnd (Ae:List (List Int)) (Ad ks:List Int) (j:Int):Prop where
 in_:∀ x ∈ ks,(0<=x/\x<(Ae.length:Int))/\Nd Ae Ad x
 ask:∀ x ∈ Ad,x ∈ ks
 clo:∀ (w:Nat) zs,j<=(w:Int)->(w:Int) ∈ ks->Ae[w]?=some zs->∀ y ∈ zs,y ∈ ks
theorem Fnd.all {Ae:List (List Int)} {Ad ks:List Int} (wf:WFn Ae) (h:Fnd Ae Ad ks 0) (x:Int):x ∈ ks ↔ Nd Ae Ad x:=by
 refine ⟨fun hx=>(h.in_ x hx).2,fun hx=>?_⟩
 induction hx with
 | ask m=>exact h.ask _ m
 | @need w y zs _ e m ih=>
  have b:=(h.in_ w ih).1;exact h.clo w.toNat zs (by lia) (by rw [show ((w.toNat:Nat):Int)=w by lia];exact ih) e y m
def qCV (Ae:List (List Int)) (Ad zs:List Int):Prop:=Rise (Ae.length:Int) zs/\∀ x,x ∈ zs ↔ Nd Ae Ad x
theorem qYB:∀ {l m:List Int},l.Pairwise (·<·)->m.Pairwise (·<·)->(∀ x,x ∈ l ↔ x ∈ m)->l=m
 | [],[],_,_,_=>rfl
 | [],y::m,_,_,h=>absurd ((h y).mpr (by simp)) (by simp)
 | x::l,[],_,_,h=>absurd ((h x).mp (by simp)) (by simp)
 | x::l,y::m,hl,hm,h=>by
  have l1:=O6.mp hl;have m1:=O6.mp hm;have exy:x=y:=by
   rcases B6.mp ((h x).mp (by simp)) with e | e
   ·exact e
   ·rcases B6.mp ((h y).mpr (by simp)) with e2 | e2
    ·exact e2.symm
    ·have:=m1.1 x e;have:=l1.1 y e2
     lia
  subst exy;rw [qYB l1.2 m1.2 fun z=>?_]
  constructor
  ·intro hz;rcases B6.mp ((h z).mp (by simp [hz])) with e | e
   ·have:=l1.1 z hz;lia
   ·exact e
  ·intro hz;rcases B6.mp ((h z).mpr (by simp [hz])) with e | e
   ·have:=m1.1 z hz;lia
   ·exact e
noncomputable def qC4 (ws:List Int) (x:Int):Option Int:=if x ∈ ws then some (ws.idxOf x:Int) else none
theorem qEO {ws:List Int} {x p:Int} (h:qC4 ws x=some p):0<=p/\ws[p.toNat]?=some x:=by
 unfold qC4 at h
 split at h
 ·rename_i m
  cases h;have lt:=List.idxOf_lt_length_iff.mpr m;refine ⟨by lia,?_⟩
  rw [F0,A3 lt,List.getElem_idxOf]
 ·cases h
theorem qHG {ws:List Int} (nd:ws.Nodup) {x:Int} {i:Nat} (h:ws[i]?=some x):qC4 ws x=some (i:Int):=by
 obtain ⟨hi,e⟩:=A5.mp h;unfold qC4;rw [if_pos (by rw [<- e];exact d8 hi),<- e,nd.idxOf_getElem]
theorem qJ8 {ws:List Int} (nd:ws.Nodup) {i:Nat} {y:Int} (h:ws[i]?=some y) (x:Int):qC4 (ws.take (i+1)) x=if x=y then some (i:Int) else qC4 (ws.take i) x:=by
 obtain ⟨hi,e⟩:=A5.mp h;have tk:ws.take (i+1)=ws.take i++[y]:=by rw [C7,h];rfl
 have ndt:(ws.take (i+1)).Nodup:=nd.sublist (b0 _ _);by_cases exy:x=y
 ·subst exy;rw [if_pos rfl];exact qHG ndt (by rw [z9 (by lia)];exact h)
 ·rw [if_neg exy];unfold qC4;rw [tk];by_cases m:x ∈ ws.take i
  ·rw [if_pos (by simp [m]),if_pos m,List.idxOf_append,if_pos m]
  ·rw [if_neg (by simp [m,exy]),if_neg m]
noncomputable def qBQ (Ae:List (List Int)) (ws:List Int):List (List Int):=ws.map fun w=>((Ae[w.toNat]?).getD []).filterMap (qC4 ws)
theorem qC7 (Ae:List (List Int)) (ws:List Int):(qBQ Ae ws).length=ws.length:=by simp [qBQ]
theorem qM0 {Ae:List (List Int)} {ws:List Int} {i:Nat} {w:Int} (h:ws[i]?=some w):(qBQ Ae ws)[i]?=some (((Ae[w.toNat]?).getD []).filterMap (qC4 ws)):=by
 unfold qBQ;rw [B5,h]
 rfl
theorem qVL {ws:List Int} (up:ws.Pairwise (·<·)) {i j:Nat} {x y:Int} (hx:ws[i]?=some x) (hy:ws[j]?=some y):i<j ↔ x<y:=by
 obtain ⟨hi,ex⟩:=A5.mp hx;obtain ⟨hj,ey⟩:=A5.mp hy;have key:∀ a b (ha:a<ws.length) (hb:b<ws.length),a<b->ws[a]<ws[b]:=fun a b ha hb hab=>c7.mp up a b ha hb hab
 constructor
 ·intro h;have:=key i j hi hj h
  lia
 ·intro h;rcases A07 i j with z | z | z
  ·exact z
  ·subst z
   lia
  ·have:=key j i hj hi z
   lia
theorem qYA {ws zs:List Int} (uw:ws.Pairwise (·<·)) (uz:zs.Pairwise (·<·)):(zs.filterMap (qC4 ws)).Pairwise (·<·):=by
 rw [i8];refine uz.imp fun {a b} hab p hp q hq=>?_;obtain ⟨p0,e1⟩:=qEO hp;obtain ⟨q0,e2⟩:=qEO hq;have:=(qVL uw e1 e2).mpr hab
 lia
theorem qXD {ws zs:List Int} (nd:ws.Nodup) {p:Int}:p ∈ zs.filterMap (qC4 ws) ↔ 0<=p/\∃ x,ws[p.toNat]?=some x/\x ∈ zs:=by
 rw [Q5]
 constructor
 ·rintro ⟨x,hx,e⟩;obtain ⟨p0,e1⟩:=qEO e;exact ⟨p0,x,e1,hx⟩
 ·rintro ⟨p0,x,e1,hx⟩;refine ⟨x,hx,?_⟩;have:=qHG nd e1;rw [this];congr 1
  lia
theorem qRW {Ae:List (List Int)} (wf:WFn Ae) (w:Nat):Rise (w:Int) ((Ae[w]?).getD []):=by
 cases e:Ae[w]? with
 | none=>exact Rise.nil
 | some zs=>exact wf w zs e
theorem qDR {Ae:List (List Int)} {ws:List Int} (wf:WFn Ae) (r:Rise (Ae.length:Int) ws):WFn (qBQ Ae ws):=by
 intro i zs h;have hi:i<ws.length:=by rw [<- qC7 Ae ws];exact (A5.mp h).1
 have hw:=A3 hi;rw [qM0 hw] at h;cases h;have w0:=(r.in_ ws[i] (d8 hi)).1;have nr:=qRW wf ws[i].toNat;refine ⟨qYA r.up nr.up,fun p hp=>?_⟩;obtain ⟨p0,x,e1,hx⟩:=(qXD r.nodup).mp hp;have xb:=nr.in_ x hx;have:=(qVL r.up e1 hw).mpr (by lia)
 lia
def qYJ:Sp:=fun vs H Q _=>∃ (r d:Addr) (zs:List Int) (Af:List (Key × V)) (num:Int->Option Int),vs=[.ref r,.ref d]/\H r=some (.tup (zs.map V.int))/\zs.length<=1000/\H d=some (.dK Af)/\(∀ x,valV Af (F9 x)=(num x).map V.int)/\
 ∀ r' H',Same H H'->H' r'=some (.tup ((zs.filterMap num).map V.int))->Q (.ref r') H'
abbrev Mv:=Str × Int
def nd (Ae:List (List Int)) (w:Int):List Int:=(Ae[w.toNat]?).getD []
noncomputable def qW4 (Ae:List (List Int)):List Int->Int->Option Int
 | [],_=>none
 | w::r,y=>match qW4 Ae r y with
  | some v=>some v
  | none=>if y ∈ nd Ae w then some w else none
def qUX (Ae:List (List Int)) (zs:List Int) (j:Nat) (x:Int):Prop:=∃ v ∈ zs.drop j,x ∈ nd Ae v
instance (Ae:List (List Int)) (zs:List Int) (j:Nat) (x:Int):Decidable (qUX Ae zs j x):=by unfold qUX;infer_instance
noncomputable def clrs (Ae:List (List Int)) (Ad zs:List Int) (w:Int):List Int:=(nd Ae w).filter fun y=>decide (qW4 Ae zs y=some w/\y ∉ Ad)
noncomputable def qaO (Ae:List (List Int)) (Ad zs:List Int) (w:Int):List Mv:=("do",w)::(clrs Ae Ad zs w).map fun y=>("clear",y)
noncomputable def qYX (Ae:List (List Int)) (Ad zs:List Int):List Mv:=zs.flatMap (qaO Ae Ad zs)
inductive Run (Ae:List (List Int)) (Aa:Int):List Int->List Mv->List Int->Prop
 | nil {s:List Int}:Run Ae Aa s [] s
 | do_ {s s' t:List Int} {w:Int} {ms:List Mv}:w ∉ s->(∀ y ∈ nd Ae w,y ∈ s)->(s.length:Int)<Aa->s'.Perm (s++[w])->s'.Pairwise (·<·)->Run Ae Aa s' ms t->Run Ae Aa s (("do",w)::ms) t
 | clear {s t:List Int} {w:Int} {ms:List Mv}:w ∈ s->Run Ae Aa (s.filter fun x=>decide (x ≠ w)) ms t->Run Ae Aa s (("clear",w)::ms) t
noncomputable def qb4 (ms:List Mv):List Int:=ms.filterMap fun (m:Mv)=>if m.1=D2 "do" then some m.2 else none
section
variable {Ae:List (List Int)} {Ad zs:List Int}
theorem qQ2 {ys:List Int} (a:qCV Ae Ad zs) (b:qCV Ae Ad ys):zs=ys:=qYB a.1.up b.1.up fun x=>(a.2 x).trans (b.2 x).symm
end
def qWM (H:Hp) (l:Addr) (ms:List Mv):Prop:=∃ rs:List Addr,H l=some (.lst (rs.map V.ref))/\MovL H rs ms
def qIO (H:Hp) (t:Addr) (Ae:List (List Int)) (Ad:List Int):Prop:=H t=some (.tup (Ad.map V.int))/\Rise (Ae.length:Int) Ad
def qR3:Sp:=fun vs H Q _=>∃ d c t ns a Ae,vs=[.ref d,.ref a]/\StAt H d c t ns/\t<=TB - 100/\NetAt H a Ae/\WFn Ae/\1<=Ae.length/\Ae.length<=400/\
 ∀ r ws t' ns' H',StAt H' d c t' ns'->t<=t'->t'<=t+10->Keep d c H H'->H' r=some (.tup (ws.map V.int))->Rise (Ae.length:Int) ws->1<=ws.length->Q (.ref r) H'
def qJZ:Sp:=fun vs H Q _=>∃ (a t:Addr) (Ae:List (List Int)) (Ad:List Int),vs=[.ref a,.ref t]/\NetAt H a Ae/\WFn Ae/\Ae.length<=1000/\qIO H t Ae Ad/\
 ∀ l zs H',Same H H'->H l=none->H' l=some (.lst (zs.map V.int))->qCV Ae Ad zs->Q (.ref l) H'
theorem qTK:bootBuiltins "dict" = some (.type "dict"):=by decide +kernel
noncomputable def lv (L:List Int) (x:Int):Int:=(L[x.toNat]?).getD 0
structure Lev (Ae:List (List Int)) (L:List Int):Prop where
 len:L.length=Ae.length
 at_:∀ (i:Nat) zs,Ae[i]?=some zs->∃ l,L[i]?=some l/\0<=l/\l<=(i:Int)/\(∀ y ∈ zs,lv L y+1<=l)/\(l=0\/∃ y ∈ zs,lv L y+1=l)
structure Fd (n:Nat) (L:List Int) (S:Int->Prop) (fs:List Int):Prop where
 len:fs.length=n
 at_:∀ w:Nat,w<n->(S w->fs[w]?=some (lv L w))/\(¬ S w->fs[w]?=some 0)
structure CntX (n:Nat) (cs:List Int) (seen:List Int):Prop where
 len:cs.length=n
 at_:∀ x:Nat,x<n->cs[x]?=some ((seen.count (x:Int):Nat):Int)
def Beh (st st':List Int) (Ac:Str) (wk:Int):Prop:=(Ac = "do"->st'.Perm (st++[wk])/\st'.Pairwise (·<=·))/\(Ac = "clear"->st'=st.filter fun x=>decide (x ≠ wk))
theorem qPM:∀ {l m:List Int},l.Perm m->l.Pairwise (·<=·)->m.Pairwise (·<=·)->l=m:=by
 intro l m hp h1 h2;exact hp.eq_of_pairwise (fun a b _ _ h3 h4=>Int.le_antisymm h3 h4) h1 h2
theorem Beh.one {st a b:List Int} {Ac:Str} {wk:Int} (hw:Ac = "do"\/Ac = "clear") (h1:Beh st a Ac wk) (h2:Beh st b Ac wk):a=b:=by
 rcases hw with e | e
 ·obtain ⟨p1,s1⟩:=h1.1 e;obtain ⟨p2,s2⟩:=h2.1 e;exact qPM (p1.trans p2.symm) s1 s2
 ·rw [h1.2 e,h2.2 e]
def qFQ:Sp:=fun vs H Q _=>∃ (s mv:Addr) (st:List Int) (Ac:Str) (wk:Int),vs=[.ref s,.ref mv]/\H s=some (.tup (st.map V.int))/\st.length<=62/\H mv=some (.tup [.str Ac,.int wk])/\(Ac = "do"\/Ac = "clear")/\
 ∀ r st' H',Same H H'->H' r=some (.tup (st'.map V.int))->Beh st st' Ac wk->Q (.ref r) H'
inductive Play (Ae:List (List Int)) (Aa:Int):List Int->List Mv->List (List Int)->V->Prop
 | nil {st}:Play Ae Aa st [] [] .non
 | stop {st m ms w0}:wd Ae st Aa m=.str w0->Play Ae Aa st (m::ms) [] (.str w0)
 | go {st st' m ms sts v}:wd Ae st Aa m=.non->Beh st st' m.1 m.2->Play Ae Aa st' ms sts v->Play Ae Aa st (m::ms) (st'::sts) v
def MvOk (Ae:List (List Int)) (ms:List Mv):Prop:=∀ m ∈ ms,(m.1 = "do"\/m.1 = "clear")/\0<=m.2/\m.2<(Ae.length:Int)
def qVI (H:Hp) (l:Addr) (sts:List (List Int)):Prop:=∃ rs:List Addr,H l=some (.lst (rs.map V.ref))/\NetL H rs sts
structure YNa (K:PySem.W.Frag) (C:Addr):Prop where
 Ae:qPE K C "net"
 Aa:qPE K C "rooms"
 made:qPE K C "made"
 stands:qPE K C "stands"
noncomputable def yfs (a:Addr) (Aa:Int) (lm ls:Addr):List (Str × V):=putF "stands" (.ref ls) (putF "made" (.ref lm) (putF "rooms" (.int Aa) (putF "net" (.ref a) [])))
structure YardAt (C:Addr) (H:Hp) (y a lm ls:Addr) (Ae:List (List Int)) (Aa:Int) (ms:List Mv) (sts:List (List Int)):Prop where
 obj:∃ dx,H y=some (.ins C dx (yfs a Aa lm ls))
 nat:NetAt H a Ae
 wf:WFn Ae
 n400:Ae.length<=400
 r0:0<=Aa
 r62:Aa<=62
 made:qWM H lm ms
 ok:MvOk Ae ms
 len:ms.length<=10000
 stands:qVI H ls ([]::sts)
 play:Play Ae Aa [] ms sts .non
 ne:lm ≠ ls
section
variable {Ae:List (List Int)}
noncomputable def qXX (Ae:List (List Int)):Nat->List Int
 | 0=>[]
 | i+1=>qXX Ae i++[if nd Ae (i:Int)=[] then 1 else ((nd Ae (i:Int)).map fun z=>(qXX Ae i).getD z.toNat 0).sum]
noncomputable def cn (Ae:List (List Int)) (z:Int):Int:=(qXX Ae (z.toNat+1)).getD z.toNat 0
def hd (p:List Int):Int:=p.headD 0
noncomputable def apF (Ae:List (List Int)):Nat->List Int->List (List Int)
 | 0,p=>[p]
 | n+1,p=>if nd Ae (hd p)=[] then [p] else ((nd Ae (hd p)).reverse.map fun z=>apF Ae n (z::p)).flatten
noncomputable def aP (Ae:List (List Int)) (p:List Int):List (List Int):=apF Ae ((hd p).toNat+1) p
structure POk (Ae:List (List Int)) (p:List Int):Prop where
 ne:p ≠ []
 h0:0<=hd p
 h1:hd p<(Ae.length:Int)
 len:(p.length:Int)+hd p<=(Ae.length:Int)
structure PWay (Ae:List (List Int)) (work:Int) (fs st:List (List Int)):Prop where
 all:fs++(st.map (aP Ae)).flatten=aP Ae [work]
 ok:∀ p ∈ st,POk Ae p
 fok:∀ p ∈ fs,POk Ae p
end
noncomputable abbrev keyOf (s:Nat × Nat):List Key:=[F9 (s.1:Int),F9 (s.2:Int)]
structure NumP (rs:List Addr) (ss:List (Nat × Nat)) (j:Nat) (ps:List (List Key × Addr × V)):Prop where
 keys:ps.map (·.1)=(ss.take j).map keyOf
 at_:∀ (k:Nat) (s:Nat × Nat),k<j->ss[k]?=some s->∃ a,ps[k]?=some (keyOf s,a,.int (k:Int))
noncomputable def qXM (ins:List (Int × Int)) (x:Int):Option Int:=(ins.find? fun q=>decide (q.1=x)).map (·.2)
noncomputable def qaB (ins:List (Int × Int)) (i:Nat):Nat:=((E6 i).filter fun (x:Nat)=>(qXM ins (x:Int)).isNone).length
noncomputable def numO (m:Nat) (ins:List (Int × Int)) (x:Nat):Int:=match qXM ins (x:Int) with | some v=>v | none=>((m+qaB ins x:Nat):Int)
structure InsAt (H:Hp) (i:Addr) (ins:List (Int × Int)):Prop where
 at_:∃ rs:List Addr,qZQ H i (rs.map V.ref)/\Paired (fun r (q:Int × Int)=>H r=some (.tup [.int q.1,.int q.2])) rs ins
 nodup:(ins.map (·.1)).Nodup
structure InsOk (m:Nat) (other:List (List Int)) (k:Nat) (ins:List (Int × Int)) (fs:List Int):Prop where
 st:∀ q ∈ ins,(0<=q.1/\q.1<(k:Int))/\other[q.1.toNat]?=some []/\0<=q.2/\q.2<(m:Int)
 nd1:(ins.map (·.1)).Nodup
 nd2:(ins.map (·.2)).Nodup
 fr:fs.Nodup
 fin:∀ x ∈ fs,(0<=x/\x<(m:Int))/\x ∉ ins.map (·.2)
 len:ins.length<=k
noncomputable def pm (m:Mv):Int:=if m.1 = "do" then 1 else -1
noncomputable def peak:Int->List Mv->Int
 | n,[]=>n
 | n,m::ms=>max n (peak (n+pm m) ms)
noncomputable def less (th s:List Int):List Int:=s.filter fun x=>decide (x ∉ th)
noncomputable def qaU (th:List Int) (ms:List Mv):List Mv:=ms.filter fun m=>decide (m.2 ∉ th)
noncomputable def pbGo (num:Int->Int) (jn:Int->Bool) (pl:Int->List Mv):List Int->List Mv->List Mv
 | _,[]=>[]
 | th,m::ms=>if m.1 = "clear" then ("clear",num m.2)::pbGo num jn pl (th.filter fun x=>decide (x ≠ num m.2)) ms else (if jn m.2 then qaU th (pl (num m.2)) else [("do",num m.2)])++pbGo num jn pl (th++[num m.2]) ms
structure ThOk (n:Nat) (num:Int->Int) (th s:List Int):Prop where
 perm:th.Perm (s.map num)
 rise:Rise (n:Int) s
structure TopO (Ae:List (List Int)) (zs:List Int):Prop where
 nodup:zs.Nodup
 in_:∀ x ∈ zs,0<=x/\x<(Ae.length:Int)
 bef:∀ (p:Nat) (o:Int),zs[p]?=some o->∀ x ∈ nd Ae o,x ∈ zs.take p
 aft:∀ (p:Nat) (o:Int),zs[p]?=some o->p+1<zs.length->qUX Ae zs (p+1) o
structure Begun (Ae:List (List Int)) (some_ ord:List Int):Prop where
 nodup:ord.Nodup
 sub:∀ x ∈ ord,x ∈ some_
 bef:∀ (p:Nat) (o:Int),ord[p]?=some o->∀ x ∈ nd Ae o,x ∈ ord.take p
noncomputable def ndOf (Ae:List (List Int)) (Ad:List Int):List Int:=by
 classical
 exact if h:∃ zs,qCV Ae Ad zs then B20 h else []
noncomputable def qVY (Ae:List (List Int)) (w:Int):List Mv:=qYX Ae [w] (ndOf Ae [w])
def numF (m:Nat) (ins:List (Int × Int)) (x:Int):Int:=numO m ins x.toNat
noncomputable def qaW (ins:List (Int × Int)) (x:Int):Bool:=(qXM ins x).isSome
noncomputable def qbH (one:List (List Int)) (ins:List (Int × Int)) (ms:List Mv):List Mv:=pbGo (numF one.length ins) (qaW ins) (qVY one) [] ms
noncomputable def qaR (one:List (List Int)) (ins:List (Int × Int)):Int:=(topD (some 1) (ins.map fun q=>peak 0 (qVY one q.2))).getD 0
noncomputable def qbG (one:List (List Int)) (ins:List (Int × Int)) (ms:List Mv):Int:=match ins with | []=>peak 0 ms | _::_=>qaR one ins+peak 0 ms - 1
structure BehIn (H:Hp) (a b i l:Addr) (one other:List (List Int)) (ins:List (Int × Int)) (ms:List Mv) (st:List Int):Prop where
 gA:NetAt H a one
 wf1:WFn one
 gB:NetAt H b other
 wf2:WFn other
 gI:InsAt H i ins
 ok:∃ fs,InsOk one.length other other.length ins fs
 plan:qWM H l ms
 mv:MvOk other ms
 len:ms.length<=400
 run:Run other (other.length:Int) [] ms st
 o1:1<=one.length
 o2:one.length<=60
 o3:1<=other.length
 o4:other.length<=60
theorem qUR {Ae:List (List Int)} {Ad:List Int} (wf:WFn Ae) (r:Rise (Ae.length:Int) Ad) {x:Int} (h:Nd Ae Ad x):0<=x/\x<(Ae.length:Int):=by
 induction h with
 | ask m=>exact r.in_ _ m
 | need _ e hy ih=>
  have h1:=(wf _ _ e).in_ _ hy;have h2:=(A5.mp e).1
  lia
theorem qRV {Ae:List (List Int)} {Ad:List Int} (wf:WFn Ae) (r:Rise (Ae.length:Int) Ad):∃ zs,qCV Ae Ad zs:=by
 classical
 refine ⟨(qB8 0 Ae.length).filter fun x=>decide (Nd Ae Ad x),⟨(qFX _ _).filter _,fun x hx=>?_⟩,fun x=>?_⟩
 ·have:=mem_rangeI.mp (K9.mp hx).1
  lia
 ·rw [K9,decide_eq_true_eq,mem_rangeI];exact ⟨fun h=>h.2,fun h=>⟨qUR wf r h,h⟩⟩
structure TwoIn (H:Hp) (a b i:Addr) (one other:List (List Int)) (ins:List (Int × Int)):Prop where
 gA:NetAt H a one
 wf1:WFn one
 gB:NetAt H b other
 wf2:WFn other
 gI:InsAt H i ins
 ok:∃ fs,InsOk one.length other other.length ins fs
 o1:1<=one.length
 o2:one.length<=40
 o3:1<=other.length
 o4:other.length<=7
theorem qY9 {Ae:List (List Int)} {st:List Int} {Aa:Int} {Ac:Str} {wk:Int} (hw:Ac = "do"\/Ac = "clear") (e:wd Ae st Aa (Ac,wk)=.non):(Ac = "do"->wk ∉ st/\(∀ y ∈ nd Ae wk,y ∈ st)/\(st.length:Int)<Aa)/\(Ac = "clear"->wk ∈ st):=by
 rcases hw with d | d
 ·subst d;refine ⟨fun _=>?_,fun z=>absurd z.symm qBE⟩;have e':qD8 ((Ae[wk.toNat]?).getD []) st Aa wk=.non:=by
   have:=e;unfold wd qD7 at this;rw [if_pos rfl] at this;exact this
  unfold qD8 at e'
  split at e'
  ·cases e'
  rename_i hn
  split at e'
  ·rename_i hall
   split at e'
   ·cases e'
   ·exact ⟨hn,hall,by lia⟩
  ·cases e'
 ·subst d;refine ⟨fun z=>absurd z qBE,fun _=>?_⟩;have e':qDN st wk=.non:=by
   have:=e;unfold wd qD7 at this;rw [if_neg (show ¬ D2 "clear" = D2 "do" from qBE)] at this
   exact this
  unfold qDN at e'
  split at e'
  ·rename_i hin;exact hin
  ·cases e'
structure Ord (Ae:List (List Int)) (Ad os:List Int):Prop where
 nodup:os.Nodup
 in_:∀ w ∈ os,0<=w/\w<(Ae.length:Int)
 has:∀ (i:Nat) (w y:Int),os[i]?=some w->y ∈ nd Ae w->y ∈ os.take i
 used:∀ (i:Nat) (w:Int),os[i]?=some w->w ∈ Ad\/qUX Ae os (i+1) w
 ask:∀ x ∈ Ad,x ∈ os
section
variable {Ae:List (List Int)} {Ad os:List Int}
end
structure Span (Ae:List (List Int)) (Ad os:List Int) (K:Nat):Prop where
 near:∀ (q r:Nat) (x v:Int),os[q]?=some x->os[r]?=some v->x ∈ nd Ae v->r<=q+K
 last:∀ x ∈ Ad,∀ q:Nat,os[q]?=some x->q+1=os.length
structure Told (Ae:List (List Int)) (R:Int) (ms:List Mv):Prop where
 run:Run Ae R [] ms [(Ae.length:Int) - 1]
 top:peak 0 ms=R
 ok:MvOk Ae ms
 once:(qb4 ms).Perm (qB8 0 (Ae.length:Int))
 len:ms.length<=2 * Ae.length
noncomputable def mskN (zs:List Int):Nat:=(zs.map fun z=>2 ^ z.toNat).sum
noncomputable def cntN (n b:Nat):Nat:=((E6 n).map fun k=>b / 2 ^ k % 2).sum
def clrb (b k:Nat):Nat:=b - 2 ^ k * (b / 2 ^ k % 2)
noncomputable def nxt (Ae:List (List Int)) (k:Nat):Nat:=mskN ((Ae[k]?).getD [])
def can (Ae:List (List Int)) (Aa:Int) (b k:Nat):Prop:=(cntN Ae.length b:Int)<Aa/\k<Ae.length/\b &&& nxt Ae k=nxt Ae k
inductive Rm (Ae:List (List Int)) (Aa:Int):Nat->Nat->Prop
 | zero:Rm Ae Aa 0 0
 | clr {m b k:Nat}:Rm Ae Aa m b->k<Ae.length->Rm Ae Aa m (clrb b k)
 | do_ {m b k:Nat}:Rm Ae Aa m b->can Ae Aa b k->Rm Ae Aa (m+1) (b ||| 2 ^ k)
def Mn (Ae:List (List Int)) (Aa:Int) (m b:Nat):Prop:=Rm Ae Aa m b/\∀ m',m'<m->¬ Rm Ae Aa m' b
theorem qXY (b k:Nat):clrb b k<=b:=Nat.sub_le _ _
theorem Rm.lt {Ae:List (List Int)} {Aa:Int} {m b:Nat} (h:Rm Ae Aa m b):b<2 ^ Ae.length:=by
 induction h with
 | zero=>exact A36 _
 | clr _ _ ih=>exact T9 (qXY _ _) ih
 | do_ _ c ih=>exact Nat.or_lt_two_pow ih (A51 (by decide) c.2.1)
theorem qQW {α:Type} [DecidableEq α]:∀ {l r:List α},l.Nodup->(∀ x ∈ l,x ∈ r)->l.length<=r.length
 | [],r,_,_=>D8 _
 | a::l,r,nd,h=>by
  have nd':=Q3.mp nd;have ha:=h a (C9 ..);have:=qQW (r:=r.erase a) nd'.2 fun x hx=>(List.mem_erase_of_ne (fun (e:x=a)=>nd'.1 (e ▸ hx))).mpr (h x (D4 _ hx));rw [List.length_erase_of_mem ha] at this;have:0<r.length:=j7 ha;rw [D5]
  lia
theorem qEZ {ks:List Nat} {n:Nat} (nd:ks.Nodup) (h:∀ b ∈ ks,b<n):ks.length<=n:=by
 have:=qQW (r:=E6 n) nd fun x hx=>D6.mpr (h x hx)
 rwa [A09] at this
theorem qGF {ks:List Nat} {x:Nat} (nd:ks.Nodup) (h:x ∉ ks):(ks++[x]).Nodup:=by
 rw [List.nodup_append];exact ⟨nd,by simp,fun a ha b hb e=>h (by rw [A8.mp hb] at e;exact e ▸ ha)⟩
structure FdC (Ae:List (List Int)) (Aa:Int) (many:Nat) (ks:List Nat) (f:Nat->Nat):Prop where
 nd:ks.Nodup
 snd:∀ b ∈ ks,f b<=many/\Mn Ae Aa (f b) b
 zero:0 ∈ ks
 full:∀ m,m<many->∀ b,Rm Ae Aa m b->b ∈ ks
section
variable {Ae:List (List Int)} {Aa:Int} {many:Nat} {ks cl ly:List Nat} {f:Nat->Nat} {at_ wk:Nat}
theorem FdC.lt (h:FdC Ae Aa many ks f) {b:Nat} (hb:b ∈ ks):b<2 ^ Ae.length:=(h.snd b hb).2.1.lt
theorem FdC.len (h:FdC Ae Aa many ks f):ks.length<=2 ^ Ae.length:=qEZ h.nd fun b hb=>h.lt hb
theorem FdC.le (h:FdC Ae Aa many ks f) {m b:Nat} (hb:b ∈ ks) (r:Rm Ae Aa m b):f b<=m:=by
 apply P1;intro z;exact (h.snd b hb).2.2 m (by lia) r
def fset (f:Nat->Nat) (x v:Nat):Nat->Nat:=fun y=>if y=x then v else f y
theorem qET (f:Nat->Nat) (x v:Nat):fset f x v x=v:=if_pos rfl
theorem qXO {f:Nat->Nat} {x v y:Nat} (h:y ≠ x):fset f x v y=f y:=if_neg h
theorem qEU {f:Nat->Nat} {x v y:Nat} {ks:List Nat} (h:y ∈ ks) (hx:x ∉ ks):fset f x v y=f y:=qXO fun e=>hx (by rw [<- e];exact h)
theorem FdC.add (h:FdC Ae Aa many ks f) {x:Nat} (hx:x ∉ ks) (r:Rm Ae Aa many x):FdC Ae Aa many (ks++[x]) (fset f x many):=by
 refine ⟨qGF h.nd hx,fun b hb=>?_,B1.mpr (.inl h.zero),fun m hm b rb=>B1.mpr (.inl (h.full m hm b rb))⟩;rcases B1.mp hb with hb | hb
 ·rw [qEU hb hx];exact h.snd b hb
 ·rw [A8.mp hb,qET];exact ⟨A6 _,r,fun m' hm z=>hx (h.full m' hm x z)⟩
structure A1 (Ae:List (List Int)) (Aa:Int) (many:Nat) (ks:List Nat) (f:Nat->Nat) (cl:List Nat) (at_ wk:Nat):Prop where
 fd:FdC Ae Aa many ks f
 dos:∀ m b k,m+1=many->Rm Ae Aa m b->can Ae Aa b k->b ||| 2 ^ k ∈ ks
 clm:∀ b,b ∈ cl ↔ b ∈ ks/\f b=many
 nd:cl.Nodup
 done:∀ i b,cl[i]?=some b->i<at_->∀ k,k<Ae.length->clrb b k ∈ ks
 dk:∀ b,cl[at_]?=some b->∀ k,k<wk->clrb b k ∈ ks
theorem A1.start:A1 Ae Aa 0 [0] (fun _=>0) [0] 0 0:=
 ⟨⟨by simp,fun b hb=>by rw [A8.mp hb];exact ⟨A6 _,.zero,fun _ z=>absurd z (O0 _)⟩,by simp,fun m hm=>absurd hm (O0 _)⟩,fun m b k e=>by lia,fun b=>by simp,by simp,fun i b _ z=>absurd z (O0 _),fun b _ k z=>absurd z (O0 _)⟩
theorem A1.hit (h:A1 Ae Aa many ks f cl at_ wk) {c:Nat} (hc:cl[at_]?=some c) (hk:clrb c wk ∈ ks):A1 Ae Aa many ks f cl at_ (wk+1):=by
 refine ⟨h.fd,h.dos,h.clm,h.nd,h.done,fun b hb k hk'=>?_⟩;by_cases e:k=wk
 ·rw [hc] at hb;cases hb;rw [e];exact hk
 ·exact h.dk b hb k (by lia)
theorem A1.add (h:A1 Ae Aa many ks f cl at_ wk) {c:Nat} (hc:cl[at_]?=some c) (hw:wk<Ae.length) (hk:clrb c wk ∉ ks):A1 Ae Aa many (ks++[clrb c wk]) (fset f (clrb c wk) many) (cl++[clrb c wk]) at_ (wk+1):=by
 have cin:=(h.clm c).mp (C3 hc);have rc:Rm Ae Aa many c:=cin.2 ▸ (h.fd.snd c cin.1).2.1;have old:∀ {i b},i<=at_->(cl++[clrb c wk])[i]?=some b->cl[i]?=some b:=fun {i b} hi e=>by
  have:=(A5.mp hc).1
  rwa [O9 (by lia)] at e
 refine ⟨h.fd.add hk (.clr rc hw),fun m b k e1 r c=>B1.mpr (.inl (h.dos m b k e1 r c)),fun b=>?_,qGF h.nd fun z=>hk ((h.clm _).mp z).1,fun i b e hi k hk'=>?_,fun b e k hk'=>?_⟩
 ·rw [B1,B1,A8,h.clm b]
  constructor
  ·rintro (z | z)
   ·exact ⟨.inl z.1,by rw [qEU z.1 hk];exact z.2⟩
   ·exact ⟨.inr z,by rw [z,qET]⟩
  ·rintro ⟨z | z,e⟩
   ·rw [qEU z hk] at e;exact .inl ⟨z,e⟩
   ·exact .inr z
 ·exact B1.mpr (.inl (h.done i b (old (by lia) e) hi k hk'))
 ·have e':=old (A6 _) e;by_cases ek:k=wk
  ·rw [hc] at e';cases e';rw [ek];exact B1.mpr (.inr (A8.mpr rfl))
  ·exact B1.mpr (.inl (h.dk b e' k (by lia)))
theorem A1.next (h:A1 Ae Aa many ks f cl at_ Ae.length):A1 Ae Aa many ks f cl (at_+1) 0:=by
 refine ⟨h.fd,h.dos,h.clm,h.nd,fun i b e hi k hk=>?_,fun b _ k z=>absurd z (O0 _)⟩;by_cases ei:i=at_
 ·rw [ei] at e;exact h.dk b e k hk
 ·exact h.done i b e (by lia) k hk
theorem A1.len (h:A1 Ae Aa many ks f cl at_ wk):cl.length<=2 ^ Ae.length:=qEZ h.nd fun b hb=>h.fd.lt ((h.clm b).mp hb).1
theorem A1.all (h:A1 Ae Aa many ks f cl at_ wk) (he:cl.length<=at_):∀ m b,Rm Ae Aa m b->m<=many->b ∈ ks:=by
 intro m b r
 induction r with
 | zero=>exact fun _=>h.fd.zero
 | @clr m b k r hk ih=>
  intro hm;have hb:=ih hm;by_cases e:f b=many
  ·obtain ⟨i,hi,ei⟩:=u0 ((h.clm b).mpr ⟨hb,e⟩);exact h.done i b (by rw [A3 hi,ei]) (by lia) k hk
  ·have:=(h.fd.snd b hb);exact h.fd.full (f b) (by lia) _ (.clr this.2.1 hk)
 | @do_ m b k r c ih=>
  intro hm;by_cases e:m+1=many
  ·exact h.dos m b k e r c
  ·exact h.fd.full (m+1) (by lia) _ (.do_ r c)
structure A2 (Ae:List (List Int)) (Aa:Int) (many:Nat) (ks:List Nat) (f:Nat->Nat) (cl ly:List Nat) (at_ wk:Nat):Prop where
 fd:FdC Ae Aa (many+1) ks f
 clm:∀ b,b ∈ cl ↔ b ∈ ks/\f b=many
 lym:∀ b,b ∈ ly ↔ b ∈ ks/\f b=many+1
 nd:ly.Nodup
 done:∀ i b,cl[i]?=some b->i<at_->∀ k,can Ae Aa b k->b ||| 2 ^ k ∈ ks
 dk:∀ b,cl[at_]?=some b->∀ k,k<wk->can Ae Aa b k->b ||| 2 ^ k ∈ ks
theorem A1.two (h:A1 Ae Aa many ks f cl at_ wk) (he:cl.length<=at_):A2 Ae Aa many ks f cl [] 0 0:=by
 refine ⟨⟨h.fd.nd,fun b hb=>⟨by have:=(h.fd.snd b hb).1;lia,(h.fd.snd b hb).2⟩,h.fd.zero,fun m hm b r=>h.all he m b r (by lia)⟩,h.clm,fun b=>⟨fun z=>absurd z (by simp),fun z=>?_⟩,.nil,fun i b _ z=>absurd z (O0 _),fun b _ k z=>absurd z (O0 _)⟩
 have:=(h.fd.snd b z.1).1
 lia
theorem A2.hit (h:A2 Ae Aa many ks f cl ly at_ wk) {c:Nat} (hc:cl[at_]?=some c) (hk:can Ae Aa c wk->c ||| 2 ^ wk ∈ ks):A2 Ae Aa many ks f cl ly at_ (wk+1):=by
 refine ⟨h.fd,h.clm,h.lym,h.nd,h.done,fun b hb k hk' c'=>?_⟩;by_cases e:k=wk
 ·rw [hc] at hb;cases hb;rw [e] at c' ⊢;exact hk c'
 ·exact h.dk b hb k (by lia) c'
theorem A2.add (h:A2 Ae Aa many ks f cl ly at_ wk) {c:Nat} (hc:cl[at_]?=some c) (hn:can Ae Aa c wk) (hk:c ||| 2 ^ wk ∉ ks):A2 Ae Aa many (ks++[c ||| 2 ^ wk]) (fset f (c ||| 2 ^ wk) (many+1)) cl (ly++[c ||| 2 ^ wk]) at_ (wk+1):=by
 have cin:=(h.clm c).mp (C3 hc);have rc:Rm Ae Aa many c:=cin.2 ▸ (h.fd.snd c cin.1).2.1;refine ⟨h.fd.add hk (.do_ rc hn),fun b=>?_,fun b=>?_,qGF h.nd fun z=>hk ((h.lym _).mp z).1,fun i b e hi k c'=>B1.mpr (.inl (h.done i b e hi k c')),fun b e k hk' c'=>?_⟩
 ·rw [h.clm b,B1,A8]
  constructor
  ·rintro ⟨z,e⟩;exact ⟨.inl z,by rw [qEU z hk];exact e⟩
  ·rintro ⟨z | z,e⟩
   ·rw [qEU z hk] at e;exact ⟨z,e⟩
   ·rw [z,qET] at e
    lia
 ·rw [B1,B1,A8,h.lym b]
  constructor
  ·rintro (z | z)
   ·exact ⟨.inl z.1,by rw [qEU z.1 hk];exact z.2⟩
   ·exact ⟨.inr z,by rw [z,qET]⟩
  ·rintro ⟨z | z,e⟩
   ·rw [qEU z hk] at e;exact .inl ⟨z,e⟩
   ·exact .inr z
 ·by_cases ek:k=wk
  ·rw [hc] at e;cases e;rw [ek];exact B1.mpr (.inr (A8.mpr rfl))
  ·exact B1.mpr (.inl (h.dk b e k (by lia) c'))
theorem A2.next (h:A2 Ae Aa many ks f cl ly at_ Ae.length):A2 Ae Aa many ks f cl ly (at_+1) 0:=by
 refine ⟨h.fd,h.clm,h.lym,h.nd,fun i b e hi k c=>?_,fun b _ k z=>absurd z (O0 _)⟩;by_cases ei:i=at_
 ·rw [ei] at e;exact h.dk b e k c.2.1 c
 ·exact h.done i b e (by lia) k c
theorem A2.skip (h:A2 Ae Aa many ks f cl ly at_ wk) {c:Nat} (hc:cl[at_]?=some c) (hn:¬ (cntN Ae.length c:Int)<Aa):A2 Ae Aa many ks f cl ly (at_+1) 0:=by
 refine ⟨h.fd,h.clm,h.lym,h.nd,fun i b e hi k c'=>?_,fun b _ k z=>absurd z (O0 _)⟩;by_cases ei:i=at_
 ·rw [ei,hc] at e;cases e;exact absurd c'.1 hn
 ·exact h.done i b e (by lia) k c'
theorem A2.one (h:A2 Ae Aa many ks f cl ly at_ wk) (he:cl.length<=at_):A1 Ae Aa (many+1) ks f ly 0 0:=by
 refine ⟨h.fd,fun m b k e r c=>?_,h.lym,h.nd,fun i b _ z=>absurd z (O0 _),fun b _ k z=>absurd z (O0 _)⟩;have em:m=many:=by lia
 subst em;have hb:=h.fd.full m (by lia) b r
 have hle:=h.fd.le hb r;by_cases e':f b=m
 ·obtain ⟨i,hi,ei⟩:=u0 ((h.clm b).mpr ⟨hb,e'⟩);exact h.done i b (by rw [A3 hi,ei]) (by lia) k c
 ·exact h.fd.full (f b+1) (by lia) _ (.do_ (h.fd.snd b hb).2.1 c)
structure Come (Ae:List (List Int)) (Aa:Int) (ks:List Nat) (f:Nat->Nat):Prop where
 nd:ks.Nodup
 snd:∀ b ∈ ks,Mn Ae Aa (f b) b
 all:∀ m b,Rm Ae Aa m b->b ∈ ks
theorem A1.come (h:A1 Ae Aa many ks f [] at_ wk):Come Ae Aa ks f:=by
 have lt:∀ b ∈ ks,f b<many:=fun b hb=>by
  have h1:=(h.fd.snd b hb).1;have h2:f b ≠ many:=fun e=>nomatch (h.clm b).mpr ⟨hb,e⟩
  lia
 refine ⟨h.fd.nd,fun b hb=>(h.fd.snd b hb).2,fun m b r=>?_⟩
 induction r with
 | zero=>exact h.fd.zero
 | @clr m b k r hk ih=>exact h.fd.full (f b) (lt b ih) _ (.clr (h.fd.snd b ih).2.1 hk)
 | @do_ m b k r c ih=>
  have:=lt b ih;by_cases e:f b+1=many
  ·exact h.dos (f b) b k e (h.fd.snd b ih).2.1 c
  ·exact h.fd.full (f b+1) (by lia) _ (.do_ (h.fd.snd b ih).2.1 c)
end
noncomputable def kvN (ks:List Nat) (f:Nat->Nat):List (Key × V):=ks.map fun (b:Nat)=>((F9 (b:Int):Key),V.int (f b:Int))
theorem qKG (ks:List Nat) (f:Nat->Nat):(kvN ks f).length=ks.length:=by simp [kvN]
theorem qNH (ks:List Nat) (f:Nat->Nat) (x:Nat):valV (kvN ks f) (F9 (x:Int))=if x ∈ ks then some (.int (f x:Int)) else none:=by
 induction ks with
 | nil=>rfl
 | cons b ks ih=>
  show ((((F9 (b:Int):Key),V.int (f b:Int))::kvN ks f).find? fun kv=>decide (kv.1=F9 (x:Int))).map (·.2)=_;rw [W9];by_cases e:b=x
  ·subst e;simp
  ·have:¬ ((F9 (b:Int):Key)=F9 (x:Int)):=fun z=>e (by have:=q9 z;lia)
   rw [decide_eq_false this];show valV (kvN ks f) (F9 (x:Int))=_;rw [ih];have e':x ≠ b:=J4 e;simp [e']
theorem qS2 {ks:List Nat} {f:Nat->Nat} {x v:Nat} (h:x ∉ ks):putK (kvN ks f) (F9 (x:Int)) (.int (v:Int))=kvN (ks++[x]) (fset f x v):=by
 rw [qUF _ (by rw [qNH,if_neg h])]
 unfold kvN;rw [B0];congr 1
 ·exact Y3 fun b hb=>by rw [qEU hb h]
 ·simp [qET]
theorem qDY (a b:Nat):R0 (a:Int) (b:Int)=((a &&& b:Nat):Int):=by
 unfold R0;rw [decide_eq_true (Z4 a),decide_eq_true (Z4 b)]
 rfl
theorem qTM (a b:Nat):A70 (a:Int) (b:Int)=((a ||| b:Nat):Int):=by
 have h1:∀ c:Nat,W2 (c:Int)=A15 c:=fun c=>by unfold W2;lia
 have h2:∀ c:Nat,decide (0<=A15 c)=false:=fun c=>decide_eq_false (by lia)
 have h3:∀ c:Nat,W2 (A15 c)=(c:Int):=fun c=>by unfold W2;lia
 unfold A70 R0;rw [h1,h1,h2,h2];show W2 (W2 (((W2 (A15 a)).toNat ||| (W2 (A15 b)).toNat:Nat)))=_;rw [h3,h3,h1,h3]
 rfl
theorem qWX (a k:Nat):(a:Int) / 2 ^ k=((a / 2 ^ k:Nat):Int):=by
 rw [Int.natCast_ediv,B32]
 rfl
theorem qNY (a k:Nat):R0 ((a:Int) / 2 ^ k) 1=((a / 2 ^ k % 2:Nat):Int):=by
 rw [qWX,show (1:Int)=((1:Nat):Int) from rfl,qDY,Nat.and_one_is_mod]
theorem qN1 (k:Nat):(1:Int) * 2 ^ k=((2 ^ k:Nat):Int):=by
 rw [Int.one_mul,B32]
 rfl
theorem qXZ (a k:Nat):(a:Int) - (1 * 2 ^ k) * R0 ((a:Int) / 2 ^ k) 1=((clrb a k:Nat):Int):=by
 rw [qNY,qN1,<- Int.natCast_mul];unfold clrb;have h1:a / 2 ^ k % 2<=a / 2 ^ k:=Nat.mod_le _ _;have h2:2 ^ k * (a / 2 ^ k % 2)<=a:=J6 (Nat.mul_le_mul_left _ h1) (Nat.mul_div_le _ _)
 lia
noncomputable def qQS (ws Ad:List Int):Nat:=mskN ((qB8 0 ws.length).filter fun p=>decide ((ws[p.toNat]?).getD 0 ∈ Ad))
def qJN (Ae:List (List Int)) (ws Ad:List Int) (r:Int):Prop:=∃ m b,Rm (qBQ Ae ws) r m b/\b &&& qQS ws Ad=qQS ws Ad
def qWN (Ae:List (List Int)) (ws Ad:List Int) (r:Int):Prop:=1<=r/\qJN Ae ws Ad r/\∀ r',1<=r'->r'<r->¬ qJN Ae ws Ad r'
theorem qP8 (g:Nat->Nat):∀ l:List Nat,(l.map fun k=>((g k:Nat):Int)).sum=(((l.map g).sum:Nat):Int)
 | []=>rfl
 | k::l=>by rw [E5,p9,qP8 g l,E5,p9];lia
theorem qN9:∀ zs:List Int,(zs.map fun z=>(1:Int) * 2 ^ z.toNat).sum=((mskN zs:Nat):Int)
 | []=>rfl
 | z::l=>by
  have:=qN9 l;unfold mskN at this ⊢;rw [E5,p9,this,E5,p9,qN1]
  lia
def natI (l:List Nat):List Int:=l.map fun (b:Nat)=>(b:Int)
theorem qI5 (l:List Nat) (b:Nat):natI (l++[b])=natI l++[(b:Int)]:=by simp [natI]
theorem qG2 (l:List Nat):(natI l).length=l.length:=by simp [natI]
theorem qOS {l:List Nat} {i:Nat} {b:Nat} (h:l[i]?=some b):(natI l)[i]?=some (b:Int):=by unfold natI;rw [B5,h];rfl
theorem qXC {l:List Nat} {i:Nat} {z:Int} (h:(natI l)[i]?=some z):∃ b:Nat,l[i]?=some b/\z=(b:Int):=by
 unfold natI at h;rw [B5] at h;cases e:l[i]? with
 | none=>rw [e] at h;cases h
 | some b=>rw [e] at h;cases h;exact ⟨b,rfl,rfl⟩
def qR0:Sp:=fun vs H Q _=>∃ (a:Addr) (Ae:List (List Int)) (Aa:Int),vs=[.ref a,.int Aa]/\NetAt H a Ae/\WFn Ae/\Ae.length<=12/\
 ∀ (d:Addr) (o:Obj) (ks:List Nat) (f:Nat->Nat) H',Same H H'->H d=none->H' d=some (.frz o (.dK (kvN ks f)))->Come Ae Aa ks f->Q (.ref d) H'
def qVS:Sp:=fun vs H Q _=>∃ (l:Addr) (ws:List Int),vs=[.ref l]/\H l=some (.lst (ws.map V.int))/\(∀ x ∈ ws,0<=x/\x<1000)/\ws.length<=1000/\∀ H',Same H H'->Q (.int ((mskN ws:Nat):Int)) H'
def qO5:Sp:=fun vs H Q _=>∃ (a t:Addr) (Ae:List (List Int)) (Ad ws:List Int) (Aa:Int),vs=[.ref a,.ref t,.int Aa]/\NetAt H a Ae/\WFn Ae/\Ae.length<=12/\qIO H t Ae Ad/\qCV Ae Ad ws/\∀ b H',Same H H'->(b=true ↔ qJN Ae ws Ad Aa)->Q (.bl b) H'
def qO4:Sp:=fun vs H Q _=>∃ (a t:Addr) (Ae:List (List Int)) (Ad ws:List Int) (r:Int),vs=[.ref a,.ref t]/\NetAt H a Ae/\WFn Ae/\Ae.length<=12/\qIO H t Ae Ad/\qCV Ae Ad ws/\qWN Ae ws Ad r/\∀ H',Same H H'->Q (.int r) H'
theorem qRY {k:Nat}:∀ {st:List Int},(∀ x ∈ st,(k:Int)<=x)->∃ a,mskN st=2 ^ k * a
 | [],_=>⟨0,rfl⟩
 | z::st,h=>by
  obtain ⟨a,ha⟩:=qRY (st:=st) fun x hx=>h x (D4 _ hx);have hz:=h z (by simp)
  refine ⟨2 ^ (z.toNat - k)+a,?_⟩;show 2 ^ z.toNat+mskN st=_;rw [ha,k8,<- Nat.pow_add,show k+(z.toNat - k)=z.toNat by lia]
theorem qNA:∀ {st:List Int},st.Pairwise (·<·)->(∀ x ∈ st,0<=x)->∀ j:Nat,(mskN st).testBit j=decide ((j:Int) ∈ st)
 | [],_,_,j=>by show (0:Nat).testBit j=_;simp
 | z::st,up,nn,j=>by
  have up':=O6.mp up;have hz:=nn z (by simp)
  obtain ⟨a,ha⟩:=qRY (k:=z.toNat+1) (st:=st) fun x hx=>by have:=up'.1 x hx;lia
  have ih:=qNA up'.2 (fun x hx=>nn x (D4 _ hx)) j;have e:mskN (z::st)=2 ^ (z.toNat+1) * a+2 ^ z.toNat:=by show 2 ^ z.toNat+mskN st=_;rw [ha,x4]
  rw [e,Nat.testBit_two_pow_mul_add a (A51 (by decide) (by lia)) j]
  by_cases c:j<z.toNat+1
  ·rw [if_pos c,A66];refine decide_eq_decide.mpr ⟨fun h=>?_,fun h=>?_⟩
   ·rw [B6];left;lia
   ·rcases B6.mp h with h | h
    ·lia
    ·have:=up'.1 _ h;lia
  ·rw [if_neg c];rw [ha,Nat.testBit_two_pow_mul] at ih;have:decide (j >= z.toNat+1)=true:=decide_eq_true (by lia)
   rw [this,J5] at ih;rw [ih];refine decide_eq_decide.mpr ⟨fun h=>D4 _ h,fun h=>?_⟩;rcases B6.mp h with h | h
   ·lia
   ·exact h
theorem qY0 (b k:Nat):b / 2 ^ k % 2=if b.testBit k=true then 1 else 0:=by
 rw [Nat.testBit_eq_decide_div_mod_eq];by_cases h:b / 2 ^ k % 2=1
 ·rw [decide_eq_true h,if_pos rfl,h]
 ·rw [decide_eq_false h,if_neg C1]
  lia
noncomputable def insL:List Int->Int->List Int
 | [],k=>[k]
 | x::r,k=>if k<x then k::x::r else x::insL r k
theorem qI8:∀ (st:List Int) (k:Int),(insL st k).Perm (st++[k])
 | [],k=>.refl _
 | x::r,k=>by
  unfold insL
  split
  ·exact (List.perm_append_comm (l₁:=x::r) (l₂:=[k])).symm
  ·exact (qI8 r k).cons x
theorem mem_insL {st:List Int} {k x:Int}:x ∈ insL st k ↔ x ∈ st\/x=k:=by
 rw [(qI8 st k).mem_iff,B1,A8]
theorem qSC:∀ {st:List Int} {k:Int},st.Pairwise (·<=·)->(insL st k).Pairwise (·<=·)
 | [],k,_=>by simp [insL]
 | x::r,k,h=>by
  have h':=O6.mp h;unfold insL
  split
  ·rename_i c
   refine O6.mpr ⟨fun y hy=>?_,h⟩;rcases B6.mp hy with e | e
   ·lia
   ·have:=h'.1 y e;lia
  ·rename_i c
   refine O6.mpr ⟨fun y hy=>?_,qSC h'.2⟩;rcases mem_insL.mp hy with e | e
   ·exact h'.1 y e
   ·lia
noncomputable def behL (st:List Int) (m:Mv):List Int:=if m.1=D2 "do" then insL st m.2 else st.filter fun x=>decide (x ≠ m.2)
theorem qVG {n:Int} {st:List Int} {m:Mv} (r:Rise n st) (hw:m.1 = "do"\/m.1 = "clear"):Beh st (behL st m) m.1 m.2:=by
 refine ⟨fun e=>?_,fun e=>?_⟩
 ·unfold behL;rw [if_pos e];exact ⟨qI8 _ _,qSC (r.up.imp fun h=>A35 h)⟩
 ·unfold behL;rw [if_neg (fun z=>by rw [e] at z;exact qBE z)]
theorem qWJ {n:Int} {st st':List Int} {m:Mv} (r:Rise n st) (hw:m.1 = "do"\/m.1 = "clear") (h:Beh st st' m.1 m.2):st'=behL st m:=Beh.one hw h (qVG r hw)
theorem qLD (p:Nat->Bool):∀ l:List Nat,(l.map fun k=>if p k=true then 1 else 0).sum=(l.filter p).length
 | []=>rfl
 | k::l=>by
  rw [E5,p9,qLD p l,List.filter_cons];cases p k
  ·simp
  ·simp;lia
section
variable {Ae:List (List Int)} {Aa:Int}
theorem due_iff {st:List Int} {m:Mv}:m ∈ qD5 Ae st Aa ↔ ((m.1 = "do"\/m.1 = "clear")/\0<=m.2/\m.2<(Ae.length:Int))/\(m.1 = "do"->m.2 ∉ st/\(∀ y ∈ nd Ae m.2,y ∈ st)/\(st.length:Int)<Aa)/\(m.1 = "clear"->m.2 ∈ st):=by
 unfold qD5;rw [K9,decide_eq_true_eq]
 constructor
 ·rintro ⟨h1,h2⟩;have a:=qP4 h1;exact ⟨a,qY9 a.1 h2⟩
 ·rintro ⟨⟨h1,h2,h3⟩,h4,h5⟩;obtain ⟨Ac,wk⟩:=m;refine ⟨?_,?_⟩
  ·unfold qIZ qH8;rw [B1,D7,D7];rcases h1 with e | e
   ·exact .inl ⟨wk.toNat,D6.mpr (by dsimp only at h2 h3;lia),by dsimp only at e h2 ⊢;rw [e];congr 1;lia⟩
   ·exact .inr ⟨wk.toNat,D6.mpr (by dsimp only at h2 h3;lia),by dsimp only at e h2 ⊢;rw [e];congr 1;lia⟩
  ·show qD7 _ st Aa Ac wk=.non;unfold qD7;rcases h1 with e | e
   ·obtain ⟨a,b,c⟩:=h4 e;dsimp only at e;rw [if_pos e];unfold qD8;rw [if_neg a,if_pos (show ∀ y ∈ (Ae[wk.toNat]?).getD [],y ∈ st from b),if_neg (by lia)]
   ·have a:=h5 e;dsimp only at e;rw [if_neg (fun z=>by rw [e] at z;exact qBE z)]
    unfold qDN;rw [if_pos a]
inductive Pt (Ae:List (List Int)) (Aa:Int):Nat->List Int->Prop
 | zero:Pt Ae Aa 0 []
 | step {t:Nat} {st:List Int} {m:Mv}:Pt Ae Aa t st->m ∈ qD5 Ae st Aa->Pt Ae Aa (t+1) (behL st m)
def Mt (Ae:List (List Int)) (Aa:Int) (t:Nat) (st:List Int):Prop:=Pt Ae Aa t st/\∀ u,u<t->¬ Pt Ae Aa u st
structure BF (Ae:List (List Int)) (Aa:Int) (t:Nat) (ks due ly:List (List Int)) (f:List Int->Nat) (i k:Nat):Prop where
 nd:ks.Nodup
 snd:∀ s ∈ ks,∃ u,u<=t+1/\Mt Ae Aa u s/\2 * f s=u+s.length
 full:∀ u s,u<=t->Pt Ae Aa u s->s ∈ ks
 duem:∀ s,s ∈ due ↔ Mt Ae Aa t s
 lym:∀ s,s ∈ ly ↔ s ∈ ks/\Mt Ae Aa (t+1) s
 done:∀ j s,due[j]?=some s->j<i->∀ m ∈ qD5 Ae s Aa,behL s m ∈ ks
 dk:∀ s,due[i]?=some s->∀ m ∈ (qD5 Ae s Aa).take k,behL s m ∈ ks
section
variable {t:Nat} {ks due ly:List (List Int)} {f:List Int->Nat} {i k:Nat}
structure Rch (Ae:List (List Int)) (Aa:Int) (ks:List (List Int)) (f:List Int->Nat):Prop where
 nd:ks.Nodup
 snd:∀ s ∈ ks,∃ u,Mt Ae Aa u s/\2 * f s=u+s.length
 all:∀ u s,Pt Ae Aa u s->s ∈ ks
end
end
noncomputable def keyS (s:List Int):List Key:=s.map F9
theorem qGM (s:List Int):(keyS s).map kV=s.map V.int:=by unfold keyS;rw [m5];rfl
theorem qHI {s s':List Int} (h:keyS s=keyS s'):s=s':=by
 unfold keyS at h;exact List.map_inj_right (fun a b e=>q9 e) |>.mp h
section
variable {H H':Hp} {Af:List (List Key × V)} {ks:List (List Int)} {f:List Int->Nat}
end
def StL (H:Hp) (rs:List Addr) (ss:List (List Int)):Prop:=Paired (fun (r:Addr) (s:List Int)=>H r=some (.tup (s.map V.int))) rs ss
theorem StL.same {H H':Hp} {rs:List Addr} {ss:List (List Int)} (h:StL H rs ss) (sm:Same H H'):StL H' rs ss:=Paired.mapP h fun _ _ z=>sm _ _ z
theorem StL.put {H:Hp} {rs:List Addr} {ss:List (List Int)} {d:Addr} {o u:HO} (h:StL H rs ss) (hd:H d=some o) (ho:∀ xs,o ≠ .tup xs):StL (Ag H d u) rs ss:=Paired.mapP h fun r s z=>by
 rw [qAC (qDV z hd fun e=>ho _ e.symm)];exact z
def LB (Ae:List (List Int)) (Aa:Int) (Ad:List Int):Option Nat->Prop
 | none=>∀ m b,Rm Ae Aa m b->¬ b &&& mskN Ad=mskN Ad
 | some k=>(∃ b,Rm Ae Aa k b/\b &&& mskN Ad=mskN Ad)/\∀ m b,Rm Ae Aa m b->b &&& mskN Ad=mskN Ad->k<=m
section
variable {Ae:List (List Int)} {Aa:Int} {Ad:List Int}
theorem qOU {P:Nat->Prop}:∀ n,P n->∃ k,P k/\∀ m,P m->k<=m:=by
 intro n
 induction n using Nat.strongRecOn with
 | _ n ih=>
  intro h;by_cases c:∃ m,m<n/\P m
  ·obtain ⟨m,h1,h2⟩:=c;exact ih m h1 h2
  ·exact ⟨n,h,fun m hm=>T5 fun z=>c ⟨m,z,hm⟩⟩
theorem qaS (Ae:List (List Int)) (Aa:Int) (Ad:List Int):∃ o,LB Ae Aa Ad o:=by
 by_cases c:∃ m b,Rm Ae Aa m b/\b &&& mskN Ad=mskN Ad
 ·obtain ⟨m,b,R,e⟩:=c;obtain ⟨k,⟨b',R',e'⟩,l⟩:=qOU (P:=fun m=>∃ b,Rm Ae Aa m b/\b &&& mskN Ad=mskN Ad) m ⟨b,R,e⟩;exact ⟨some k,⟨b',R',e'⟩,fun m b R e=>l m ⟨b,R,e⟩⟩
 ·exact ⟨none,fun m b R e=>c ⟨m,b,R,e⟩⟩
noncomputable def lstO (Ae:List (List Int)) (Aa:Int) (Ad:List Int):Option Nat:=B20 (qaS Ae Aa Ad)
noncomputable def upS (Ae:List (List Int)) (Ad:List Int) (r:Nat):List (Nat × Nat):=(E6 r).filterMap fun i=>(lstO Ae ((i+1:Nat):Int) Ad).map fun k=>(i+1,k)
end
abbrev Prv:=Option (List Int × Mv)
def ValX (H:Hp) (v:V) (n:Nat):Prv->Prop
 | none=>∃ r,v=.ref r/\H r=some (.tup [.int (n:Int),.non,.non])
 | some (p,m)=>∃ r rp rm,v=.ref r/\H r=some (.tup [.int (n:Int),.ref rp,.ref rm])/\H rp=some (.tup (p.map V.int))/\H rm=some (.tup [.str m.1,.int m.2])
def EntX (H:Hp) (Af:List (List Key × V)) (ks:List (List Int)) (f:List Int->Nat) (g:List Int->Prv):Prop:=Paired (fun (kv:List Key × V) s=>kv.1=keyS s/\ValX H kv.2 (f s) (g s)) Af ks
section
variable {H H':Hp} {Af:List (List Key × V)} {ks:List (List Int)} {f:List Int->Nat} {g:List Int->Prv}
end
section
variable {Ae:List (List Int)} {Aa:Int} {ks ks':List (List Int)} {f f':List Int->Nat} {g g':List Int->Prv}
end
structure EntZ (H:Hp) (Af:List (List Key × V)) (ks:List (List Int)) (f:List Int->Nat) (Φ:(List Int->Prv)->Prop):Prop where
 ex:∃ g,EntX H Af ks f g/\Φ g
section
variable {H H':Hp} {Af:List (List Key × V)} {ks:List (List Int)} {f:List Int->Nat} {Φ Ψ:(List Int->Prv)->Prop}
end
section
variable {Ae:List (List Int)} {Ad ws:List Int} {Aa:Int}
noncomputable def qCY (ws Ad:List Int):List Int:=Ad.filterMap (qC4 ws)
end
def qQY:Sp:=fun vs H Q _=>∃ (a t:Addr) (Ae:List (List Int)) (ws:List Int),vs=[.ref a,.ref t]/\NetAt H a Ae/\WFn Ae/\Ae.length<=1000/\Rd H t (.tup (ws.map V.int))/\Rise (Ae.length:Int) ws/\
 ∀ b H',Same H H'->NetAt H' b (qBQ Ae ws)->Q (.ref b) H'
def oV:Option Int->V
 | none=>.non
 | some i=>.int i
structure Mo where
 dk:Bool
 wk:Int
 rm:Int
noncomputable def Mo.vs (m:Mo):List V:=match m.dk with | true=>[.str "do",.int m.wk,.int m.rm] | false=>[.str "clear",.int m.rm]
def Mo.res (m:Mo):Option Int:=match m.dk with | true=>some m.wk | false=>none
structure TIn (H:Hp) (a wd sz la mv:Addr) (Ae:List (List Int)) (wides sizes:List Int) (lay:List (Option Int)) (m:Mo) (ns:List Int) (o:Option Int) (s w:Int):Prop where
 net_:NetAt H a Ae
 wides_:H wd=some (.tup (wides.map V.int))
 sizes_:H sz=some (.tup (sizes.map V.int))
 lay_:H la=some (.tup (lay.map oV))
 move:H mv=some (.tup m.vs)
 work:m.dk=true->0<=m.wk/\Ae[m.wk.toNat]?=some ns/\ns.length<=1000/\wides[m.wk.toNat]?=some w
 rm0:0<=m.rm
 at_:lay[m.rm.toNat]?=some o
 size:sizes[m.rm.toNat]?=some s
 len:lay.length<=1000
structure TKit (H:Hp) (a wd sz:Addr) (Ae:List (List Int)) (wides sizes:List Int):Prop where
 net_:NetAt H a Ae
 wf:WFn Ae
 n1:1<=Ae.length
 n6:Ae.length<=6
 wides_:H wd=some (.tup (wides.map V.int))
 lw:wides.length=Ae.length
 w9:∀ x ∈ wides,0<=x/\x<=99
 sizes_:H sz=some (.tup (sizes.map V.int))
 k1:1<=sizes.length
 k5:sizes.length<=5
 s9:∀ x ∈ sizes,0<=x/\x<=99
structure Sm (W:Nat) (d:PyData):Prop where
 sh:d.showable=true
 nd:d.hasDict=false
 ls:d.leavesShort 8=true
 wt:d.weight<=W
theorem Sm.mono {V W:Nat} {d:PyData} (h:Sm V d) (l:V<=W):Sm W d:=⟨h.sh,h.nd,h.ls,J6 h.wt l⟩
theorem qVT {W:Nat}:∀ {ds:List PyData},(∀ d ∈ ds,Sm W d)->A83 ds=true/\B01 ds=false/\A44 8 ds=true/\B21 ds<=ds.length * (W+1)
 | [],_=>⟨rfl,rfl,rfl,D8 _⟩
 | d::ds,h=>by
  have h1:=h d (C9 ..);obtain ⟨a,b,c,e⟩:=qVT (ds:=ds) fun d hd=>h d (D4 _ hd);refine ⟨?_,?_,?_,?_⟩
  ·show (d.showable && A83 ds)=true;rw [h1.sh,a];rfl
  ·show (d.hasDict || B01 ds)=false;rw [h1.nd,b];rfl
  ·show (d.leavesShort 8 && A44 8 ds)=true;rw [h1.ls,c];rfl
  ·show d.weight+1+B21 ds<=(ds.length+1) * (W+1);have:=h1.wt;rw [Nat.succ_mul]
   lia
theorem Sm.seq {W L:Nat} {b:Bool} {ds:List PyData} (h:∀ d ∈ ds,Sm W d) (l:ds.length<=L):Sm (L * (W+1)) (seqD b ds):=by
 obtain ⟨a1,a2,a3,a4⟩:=qVT h;have l2:ds.length * (W+1)<=L * (W+1):=Nat.mul_le_mul_right _ l;cases b
 ·exact ⟨a1,a2,a3,J6 a4 l2⟩
 ·exact ⟨a1,a2,a3,J6 a4 l2⟩
def qXJ (xs:List Int):PyData:=.tuple (xs.map Y8)
noncomputable def layD (lay:List (Option Int)):PyData:=.tuple (lay.map fun o=>match o with | some x=>Y8 x | none=>PyData.none)
noncomputable def netD (Ae:List (List Int)):PyData:=.tuple (Ae.map qXJ)
noncomputable def heldD (Ae:List (List Int)) (wides sizes:List Int) (lay:List (Option Int)):PyData:=.list [netD Ae,qXJ wides,qXJ sizes,layD lay]
def numB:PyData->Bool | .int _=>true | _=>false
def qL4:PyData->Bool | .bool _=>true | _=>false
def tupB:PyData->Bool | .tuple _=>true | _=>false
noncomputable def qGB (e:Int):PyData->Bool | .int i=>decide (0<=i) && decide (i<e) | _=>false
noncomputable def qEN (e:Int):Int->List PyData->Bool
 | _,[]=>true
 | l,.int i::ds=>(decide (0<=i) && decide (i<e)) && decide (l<=i) && qEN e (i+1) ds
 | _,_::_=>false
noncomputable def qE3 (e:Int):PyData->Bool | .tuple ds=>qEN e 0 ds | _=>false
section
variable {K:PySem.W.Frag} {H:Hp}
theorem qJ1 {n:Nat} {x:V} {d:PyData} (h:DatN H n x d):∃ t,TyOf K H x t/\Q0 K t (.type "int")=some (numB d || qL4 d)/\Q0 K t (.type "bool")=some (qL4 d)/\Q0 K t (.type "tuple")=some (tupB d):=by
 have leaf:qIP x d->∃ t,TyOf K H x t/\Q0 K t (.type "int")=some (numB d || qL4 d)/\Q0 K t (.type "bool")=some (qL4 d)/\Q0 K t (.type "tuple")=some (tupB d):=by
  rintro (⟨rfl,rfl⟩ | ⟨b,rfl,rfl⟩ | ⟨i,rfl,rfl⟩ | ⟨y,rfl,rfl⟩)
  ·exact ⟨_,.non,rfl,rfl,rfl⟩
  ·exact ⟨_,.bl b,rfl,rfl,rfl⟩
  ·exact ⟨_,.int i,rfl,rfl,rfl⟩
  ·exact ⟨_,.str y,rfl,rfl,rfl⟩
 cases n with
 | zero=>exact leaf h
 | succ n=>
  rcases h with h | ⟨b,a,xs,ds,rfl,rfl,h1,_⟩
  ·exact leaf h
  ·cases b
   ·exact ⟨_,.lst h1,rfl,rfl,rfl⟩
   ·exact ⟨_,.tup h1,rfl,rfl,rfl⟩
theorem qKW {n:Nat} {x:V} {d:PyData} (h:DatN H n x d) (hn:numB d=true):∃ i,x=.int i/\d=.int i:=by
 have leaf:qIP x d->∃ i,x=.int i/\d=.int i:=by
  rintro (⟨rfl,rfl⟩ | ⟨b,rfl,rfl⟩ | ⟨i,rfl,rfl⟩ | ⟨y,rfl,rfl⟩)
  ·cases hn
  ·cases hn
  ·exact ⟨i,rfl,rfl⟩
  ·cases hn
 cases n with
 | zero=>exact leaf h
 | succ n=>
  rcases h with h | ⟨b,a,xs,ds,rfl,rfl,h1,_⟩
  ·exact leaf h
  ·cases b <;> cases hn
theorem qGU {n:Nat} {x:V} {d:PyData} (h:DatN H n x d) (hn:tupB d=true):∃ m a xs ds,n=m+1/\x=.ref a/\d=.tuple ds/\H a=some (.tup xs)/\xs.length=ds.length/\∀ (i:Nat) (x':V) (d':PyData),xs[i]?=some x'->ds[i]?=some d'->DatN H m x' d':=by
 have leaf:qIP x d->False:=by
  rintro (⟨rfl,rfl⟩ | ⟨b,rfl,rfl⟩ | ⟨i,rfl,rfl⟩ | ⟨y,rfl,rfl⟩) <;> cases hn
 cases n with
 | zero=>exact (leaf h).elim
 | succ n=>
  rcases h with h | ⟨b,a,xs,ds,rfl,rfl,h1,h2,h3⟩
  ·exact (leaf h).elim
  ·cases b
   ·cases hn
   ·exact ⟨n,a,xs,ds,rfl,rfl,rfl,h1,h2,h3⟩
end
theorem qS9:∀ {ds:List PyData},ds.all numB=true->∃ zs:List Int,ds=zs.map Y8
 | [],_=>⟨[],rfl⟩
 | d::ds,h=>by
  rw [i6,O1] at h;obtain ⟨zs,rfl⟩:=qS9 h.2;cases d with
  | int i=>exact ⟨i::zs,rfl⟩
  | _=>cases h.1
def LenN:Nat->PyData->Prop
 | 0,_=>True
 | n+1,d=>∀ (b:Bool) (ds:List PyData),d=seqD b ds->ds.length<=2000/\∀ d' ∈ ds,LenN n d'
theorem LenN.down:∀ {n:Nat} {d:PyData},LenN (n+1) d->LenN n d
 | 0,_,_=>trivial
 | n+1,_,h=>fun b ds e=>⟨(h b ds e).1,fun d' hd=>LenN.down ((h b ds e).2 d' hd)⟩
section
variable {H H':Hp} {n W:Nat} {x:V}
theorem qYL {i:Int} (h : -2000<=i/\i<=2000):Sm 11 (.int i):=by
 have hb:i.natAbs<2 ^ 11:=by lia
 have hd:i.natAbs.log2<11:=by
  by_cases h0:i.natAbs=0
  ·rw [h0];decide
  ·exact (Nat.log2_lt h0).mpr hb
 refine ⟨decide_eq_true (E7 hd (by decide)),rfl,decide_eq_true ?_,by show (if i == 0 then 0 else i.natAbs.log2+1)<=11;split <;> lia⟩
 show (D2 (toString i)).length<=8;have e:=int_text_length_le10 (a:=i) (k:=6) (by decide) (by lia)
 rw [PySem.ofString_length]
 lia
end
def qVQ:Sp:=fun vs H Q _=>∃ x n d,vs=[x]/\DatN H n x d/\Q (.bl (numB d)) H
def qO7:Sp:=fun vs H Q _=>∃ x n d e,vs=[x,.int e]/\DatN H n x d/\Q (.bl (qGB e d)) H
def qHS:Sp:=fun vs H Q _=>∃ x n d e,vs=[x,.int e]/\DatN H n x d/\Q (.bl (qE3 e d)) H
theorem sqo {b:Bool} {K:PySem.W.Frag} {H:Hp} {a:Addr} {xs:List V} (h:Rd H a (seqO b xs)):SqO b K H a xs:=by
 cases b with
 | true=>exact .inl h
 | false=>exact .inl h
theorem Rd.same {H H':Hp} {a:Addr} {o:HO} (h:Rd H a o) (s:Same H H'):Rd H' a o:=h.elim (fun e=>.inl (s _ _ e)) fun ⟨q,e⟩=>.inr ⟨q,s _ _ e⟩
structure Nev (Ae:List (List Int)) (Aa:Int) (want:List Int) (ss:List (List Int)):Prop where
 rise:∀ s ∈ ss,Rise (Ae.length:Int) s
 few:∀ s ∈ ss,(s.length:Int)<=Aa
 nil:[] ∈ ss
 shut:∀ s ∈ ss,∀ m ∈ qD5 Ae s Aa,behL s m ∈ ss
 no:∀ s ∈ ss,¬ ∀ x ∈ want,x ∈ s
structure NevP (Ae:List (List Int)) (Aa:Int) (ss:List (List Int)):Prop where
 nd:ss.Nodup
 mem:∀ s,s ∈ ss ↔ ∃ u,Pt Ae Aa u s
 so:ss.Pairwise fun a b=>HT.lexLt b a=false
def qVR:Sp:=fun vs H Q _=>∃ (b:Bool) (a t:Addr) (st Ad:List Int),vs=[.ref a,.ref t]/\H a=some (.tup (st.map V.int))/\Rd H t (seqO b (Ad.map V.int))/\Ad.length<=1000/\∀ H',Same H H'->Q (.bl (decide (∀ x ∈ Ad,x ∈ st))) H'
def qJY:Sp:=fun vs H Q _=>∃ (o:Bool) (a l:Addr) (Ae:List (List Int)) (ws:List Int),vs=[.ref a,.ref l]/\NetAt H a Ae/\WFn Ae/\Ae.length<=60/\Rd H l (seqO o (ws.map V.int))/\Rise (Ae.length:Int) ws/\∀ b H',Same H H'->NetAt H' b (qBQ Ae ws)->Q (.ref b) H'
structure PapN (H:Hp) (T tw l:Addr) (ws:List Int) (rs:List Addr) (ss:List (List Int)):Prop where
 tup:H T=some (.tup [.ref tw,.ref l])
 works:qZQ H tw (ws.map V.int)
 lst:H l=some (.lst (rs.map V.ref))
 at_:StL H rs ss
abbrev Wy:=Int->List Int
noncomputable def upW (W:Wy) (a b:Int):Wy:=fun x=>if x=a then (W a).erase b else if x=b then W b++[a] else W x
structure Fl0 (W0 W:Wy):Prop where
 nd:∀ x,(W x).Nodup
 ex:∀ x y,y ∈ W0 x->(y ∈ W x ↔ x ∉ W y)
 on:∀ x y,y ∈ W x->y ∈ W0 x\/x ∈ W0 y
structure Anti (W0:Wy):Prop where
 nd:∀ x,(W0 x).Nodup
 no:∀ x y,y ∈ W0 x->x ∉ W0 y
section
variable {W0 W:Wy}
noncomputable def qYD:List Int->Wy->Wy
 | f::s::r,W=>qYD (s::r) (upW W s f)
 | _,W=>W
end
section
variable (Ae:List (List Int)) (path:List Int)
noncomputable def qQ8 (w:Int):Bool:=decide (0<=w) && decide (w<(Ae.length:Int)) && decide (w ∉ path)
noncomputable def qZD (n:Int):Bool:=decide (n ∉ path) && (path.drop 1).any fun w=>decide (n ∈ nd Ae w)
noncomputable def fwW (i:Nat):Wy:=fun x=>
 if x = -1 then ((qB8 0 i).filter fun w=>qQ8 Ae path w && (nd Ae w).isEmpty).map (2 * ·)
 else if x % 2=0 then (if qQ8 Ae path (x / 2) && decide (x / 2<(i:Int)) then [x+1] else [])
 else (if qQ8 Ae path (x / 2) && decide (x / 2<(i:Int)) then (if qZD Ae path (x / 2) then [-2] else [])++((qB8 0 i).filter fun u=>qQ8 Ae path u && decide (x / 2 ∈ nd Ae u)).map (2 * ·) else [])
end
section
variable {Ae:List (List Int)} {path:List Int}
abbrev W0 (Ae:List (List Int)) (path:List Int):Wy:=fwW Ae path Ae.length
structure Fl (Ae:List (List Int)) (path:List Int) (W:Wy):Prop where
 fl:Fl0 (W0 Ae path) W
 len:∀ x,x ≠ -1->x ≠ -2->(W x).length=(W0 Ae path x).length
def Flw (W:Wy) (w:Int):Prop:=2 * w+1 ∉ W (2 * w)
variable {W:Wy}
inductive Sd (W:Wy):Int->List Int->Prop
 | top {w:Int}:W (2 * w)=[-1]->Sd W w [w]
 | step {w n:Int} {s:List Int}:0<=n->W (2 * w)=[2 * n+1]->Sd W n s->Sd W w (s++[w])
structure SdIs (Ae:List (List Int)) (path:List Int) (W:Wy) (w:Int) (s:List Int):Prop where
 up:s.Pairwise (·<·)
 le:∀ x ∈ s,x<=w
 fr:∀ x ∈ s,qQ8 Ae path x=true/\Flw W x
 hd:∃ t r,s=t::r/\nd Ae t=[]
 nx:∀ x ∈ s,x=w\/∃ u ∈ s,x<u/\W (2 * u)=[2 * x+1]
 co:∀ i a b,s[i]?=some a->s[i+1]?=some b->a ∈ nd Ae b
end
abbrev Cm:=List (Int × Int)
noncomputable def vis (cm:Cm) (x:Int):Bool:=decide (x = -1) || cm.any fun p=>decide (p.1=x)
noncomputable def look (cm:Cm) (x:Int):Option Int:=(cm.find? fun p=>decide (p.1=x)).map (·.2)
noncomputable def dfsF (stop:Int):List Int->Cm × List Int->Cm × List Int
 | [],s=>s
 | f::r,s=>dfsF stop r (if vis s.1 f then s else (s.1++[(f,stop)],s.2++[f]))
noncomputable def dfsC (s:Cm × List Int):Bool:=!s.2.isEmpty && !vis s.1 (-2)
inductive Dfs (W:Wy):Cm × List Int->Cm × List Int->Prop
 | stop {s}:dfsC s=false->Dfs W s s
 | go {cm:Cm} {due:List Int} {x:Int} {t}:vis cm (-2)=false->Dfs W (dfsF x (W x) (cm,due)) t->Dfs W (cm,due++[x]) t
inductive Back (cm:Cm):Int->List Int->Prop
 | src:Back cm (-1) [-1]
 | step {x p:Int} {r:List Int}:x ≠ -1->look cm x=some p->Back cm p r->Back cm x (x::r)
def WB (W:Wy) (st:List Int):Prop:=∃ cm due,Dfs W ([],[-1]) (cm,due)/\((vis cm (-2)=false/\st=[])\/(vis cm (-2)=true/\Back cm (-2) st))
structure Gd (W:Wy) (cm:Cm):Prop where
 nd:(cm.map (·.1)).Nodup
 at_:∀ (i:Nat) f p,cm[i]?=some (f,p)->f ∈ W p/\f ≠ -1/\(p = -1\/∃ j q,j<i/\cm[j]?=some (p,q))
structure Sk (W:Wy) (s:Cm × List Int):Prop where
 gd:Gd W s.1
 due:∀ x ∈ s.2,vis s.1 x=true
def inK (Ae:List (List Int)) (path:List Int) (i:Nat) (k:Int):Prop:=k = -1\/k = -2\/∃ w,qQ8 Ae path w=true/\w<(i:Int)/\(k=2 * w\/k=2 * w+1)
structure WaysAt (H0 H:Hp) (d:Addr) (m:Nat) (P:Int->Prop) (W:Wy) (ad:Int->Addr):Prop where
 dict:∃ Af,H d=some (.dK Af)/\Af.length<=m/\∀ k,P k->valV Af (F9 k)=some (.ref (ad k))
 lst:∀ k,P k->H (ad k)=some (.lst ((W k).map V.int))
 inj:∀ k k',P k->P k'->ad k=ad k'->k=k'
 fr:∀ k,P k->H0 (ad k)=none
 frd:H0 d=none
 old:Same H0 H
section
variable {H0 H H':Hp} {d:Addr} {m:Nat} {P:Int->Prop} {W:Wy} {ad:Int->Addr}
end
section
variable {Ae:List (List Int)} {path:List Int} {i:Nat}
end
inductive SW:Wy->Wy->Prop
 | stop {W:Wy}:WB W []->SW W W
 | go {W W':Wy} {st:List Int}:WB W st->st ≠ []->SW (qYD st W) W'->SW W W'
structure SkI (Ae:List (List Int)) (path:List Int) (W:Wy) (s:Cm × List Int):Prop where
 sk:Sk W s
 go:∀ t,Dfs W s t->Dfs W ([],[-1]) t
 dom:∀ q ∈ s.1,inK Ae path Ae.length q.1
structure SkF (Ae:List (List Int)) (path:List Int) (W:Wy) (stop:Int) (s:Cm × List Int):Prop where
 sk:Sk W s
 dom:∀ q ∈ s.1,Fw.inK Ae path Ae.length q.1
 at_:vis s.1 stop=true
noncomputable def qXK:PyData->Int | .int i=>i | _=>0
noncomputable def qB9:PyData->List Int | .tuple ds=>ds.map qXK | _=>[]
noncomputable def qWG (Ae:List (List Int)):List Int->Bool
 | a::b::r=>decide (a ∈ nd Ae b) && qWG Ae (b::r)
 | _=>true
noncomputable def qaL (Ae:List (List Int)) (zs:List Int):Bool:=qWG Ae zs && (nd Ae (zs.headD 0)).isEmpty
noncomputable def qaM (Ae:List (List Int)):PyData->Bool
 | .tuple ds=>!ds.isEmpty && ds.all (qGB (Ae.length:Int)) && qaL Ae (ds.map qXK)
 | _=>false
noncomputable def qa8 (Ae:List (List Int)) (path:List Int) (d:PyData):Bool:=qaM Ae d && qZD Ae path ((qB9 d).getLastD 0) && (qB9 d).all fun x=>decide (x ∉ path)
noncomputable def qbF (Ae:List (List Int)) (path:List Int):PyData->Bool
 | .list ds=>ds.all (qa8 Ae path) && decide ((ds.flatMap qB9).Nodup)
 | _=>false
theorem qSA {zs:List Int}:(zs.map Y8).map qXK=zs:=by rw [m5];exact (Y3 fun x _=>rfl).trans (List.map_id _)
theorem qQM {ds:List PyData} {e:Int} (h:ds.all (qGB e)=true):∃ zs:List Int,ds=zs.map Y8/\∀ z ∈ zs,0<=z/\z<e:=by
 obtain ⟨zs,rfl⟩:=qS9 (ds:=ds) (F2.mpr fun d hd=>by
  have:=F2.mp h d hd;cases d <;> first | rfl | cases this)
 refine ⟨zs,rfl,fun z hz=>?_⟩;have:=F2.mp h (.int z) (Y5 hz);have this:(decide (0<=z) && decide (z<e))=true:=this;rw [O1,decide_eq_true_eq,decide_eq_true_eq] at this;exact this
noncomputable def lstB:PyData->Bool | .list _=>true | _=>false
theorem qVM {K:PySem.W.Frag} {H:Hp} {n:Nat} {x:V} {d:PyData} (h:DatN H n x d):∃ t,TyOf K H x t/\Q0 K t (.type "list")=some (lstB d):=by
 have leaf:qIP x d->∃ t,TyOf K H x t/\Q0 K t (.type "list")=some (lstB d):=by
  rintro (⟨rfl,rfl⟩ | ⟨b,rfl,rfl⟩ | ⟨i,rfl,rfl⟩ | ⟨y,rfl,rfl⟩)
  ·exact ⟨_,.non,rfl⟩
  ·exact ⟨_,.bl b,rfl⟩
  ·exact ⟨_,.int i,rfl⟩
  ·exact ⟨_,.str y,rfl⟩
 cases n with
 | zero=>exact leaf h
 | succ n=>
  rcases h with h | ⟨b,a,xs,ds,rfl,rfl,h1,_⟩
  ·exact leaf h
  ·cases b
   ·exact ⟨_,.lst h1,rfl⟩
   ·exact ⟨_,.tup h1,rfl⟩
theorem qT6 {H:Hp} {n:Nat} {x:V} {d:PyData} (h:DatN H n x d) (hn:lstB d=true):∃ m a xs ds,n=m+1/\x=.ref a/\d=.list ds/\H a=some (.lst xs)/\xs.length=ds.length/\∀ (i:Nat) (x':V) (d':PyData),xs[i]?=some x'->ds[i]?=some d'->DatN H m x' d':=by
 have leaf:qIP x d->False:=by
  rintro (⟨rfl,rfl⟩ | ⟨b,rfl,rfl⟩ | ⟨i,rfl,rfl⟩ | ⟨y,rfl,rfl⟩) <;> cases hn
 cases n with
 | zero=>exact (leaf h).elim
 | succ n=>
  rcases h with h | ⟨b,a,xs,ds,rfl,rfl,h1,h2,h3⟩
  ·exact (leaf h).elim
  ·cases b
   ·exact ⟨n,a,xs,ds,rfl,rfl,rfl,h1,h2,h3⟩
   ·cases hn
theorem qP3 {H:Hp} {m:Nat} {xs:List V} {zs:List Int} (lx:xs.length=(zs.map Y8).length) (el:∀ (i:Nat) (x':V) (d':PyData),xs[i]?=some x'->(zs.map Y8)[i]?=some d'->DatN H m x' d'):xs=zs.map V.int:=A08 fun i=>by
 by_cases hi:i<xs.length
 ·have hx:=A3 hi;have hz:i<zs.length:=by rw [lx,A0] at hi;exact hi
  have ed:(zs.map Y8)[i]?=some (.int zs[i]):=by rw [B5,A3 hz];rfl
  obtain ⟨j,e1,e2⟩:=qKW (el i _ _ hx ed) rfl;rw [hx,B5,A3 hz,e1];cases e2
  rfl
 ·rw [J9 (by lia),J9 (by rw [A0];rw [lx,A0] at hi;lia)]
section
variable {Ae:List (List Int)}
end
section
variable {H H':Hp} {n W:Nat} {x:V}
end
noncomputable def red (d c:Addr) (H:Hp):Hp:=fun b=>if b=d\/b=c then none else H b
section
variable {d c:Addr} {H H':Hp}
theorem qEH {p:Addr} {o:HO} (n:p ≠ d/\p ≠ c) (g:H p=some o):red d c H p=some o:=by
 unfold red;rw [if_neg fun z=>z.elim n.1 n.2];exact g
theorem qKB:Same (red d c H) H:=fun b o e=>by
 unfold red at e;by_cases z:b=d\/b=c
 ·rw [if_pos z] at e;cases e
 ·rw [if_neg z] at e;exact e
theorem qOC {b:Addr} {o:HO} (e:red d c H b=some o):b ≠ d/\b ≠ c:=by
 unfold red at e;by_cases z:b=d\/b=c
 ·rw [if_pos z] at e;cases e
 ·exact ⟨fun h=>z (.inl h),fun h=>z (.inr h)⟩
theorem qA5 (k:Same H H'):Same (red d c H) (red d c H'):=fun b o e=>qEH (qOC e) (k b o (qKB b o e))
theorem qE4 (k:Keep d c H H'):Same (red d c H) (red d c H'):=fun b o e=>qEH (qOC e) (k b o (qKB b o e) (qOC e).1 (qOC e).2)
end
structure RowB (p:List Int × List (List Int)):Prop where
 ne:p.1 ≠ []
 pl:p.1.length<=8
 pin:∀ z ∈ p.1,-2000<=z/\z<=2000
 sl:p.2.length<=8
 sb:∀ s ∈ p.2,s.length<=8/\∀ z ∈ s,-2000<=z/\z<=2000
theorem qKX {xs:List V} {lo hi:Option Int} {x:V} (h:x ∈ cutV xs lo hi):x ∈ xs:=by
 unfold cutV at h;exact Q8 (W3 h)
theorem qNU (xs:List V) (lo hi:Option Int):(cutV xs lo hi).length<=xs.length:=by
 unfold cutV;rw [B9,F1]
 lia
theorem qQF (xs:List V) (k:Nat) (h:k<=xs.length):cutV xs (some (k:Int)) none=xs.drop k:=by
 unfold cutV;rw [HT.sIx_nat,HT.sIx_none,i9 h];exact D3 (by rw [F1];exact A6 _)
theorem qP6 (xs:List V) (k:Nat):cutV xs none (some (k:Int))=xs.take k:=by
 unfold cutV;rw [HT.sIx_nat,HT.sIx_none,y4,A42];rcases Nat.le_total k xs.length with h | h
 ·rw [i9 h]
 ·rw [B19 h,D3 h,D3 (A6 _)]
theorem qAX {H:Hp} {d c q:Addr} {t:Int} {ns:List Int} (S:StAt H d c t ns) (h:H q=none):q ≠ d/\q ≠ c:=⟨(qA7 S.dict h).symm,(qA7 S.list h).symm⟩
theorem qAB {H:Hp} {p:Addr} (h:H p=none) (o:HO):∃ G,Ag H p o=G/\Same H G/\G p=some o:=⟨_,rfl,qA3 h o,qA1⟩
theorem qOB:∀ {ds:List PyData} {e l:Int},qEN e l ds=true->∃ zs:List Int,ds=zs.map Y8/\(∀ z ∈ zs,l<=z/\0<=z/\z<e)/\zs.Pairwise (·<·)
 | [],_,_,_=>⟨[],rfl,(fun _ h=>nomatch h),.nil⟩
 | d::ds,e,l,h=>by
  cases d with
  | int i=>
   have h:((decide (0<=i) && decide (i<e)) && decide (l<=i) && qEN e (i+1) ds)=true:=h;simp only [O1,decide_eq_true_eq] at h;obtain ⟨zs,rfl,b,p⟩:=qOB h.2;refine ⟨i::zs,rfl,fun z hz=>?_,O6.mpr ⟨fun z hz=>by have:=b z hz;lia,p⟩⟩
   rcases B6.mp hz with rfl | hz
   ·exact ⟨h.1.2,h.1.1⟩
   ·have:=b z hz;lia
  | _=>exact nomatch (show false=true from h)
theorem qEM {H:Hp} {n:Nat} {x:V} {d:PyData} {k:Int} (h:DatN H n x d) (hp:qE3 k d=true):∃ t zs,x=.ref t/\d=.tuple (zs.map .int)/\qB9 d=zs/\H t=some (.tup (zs.map V.int))/\Rise k zs:=by
 have c:tupB d=true:=by cases d <;> first | rfl | cases hp
 obtain ⟨m,tt,xs,ds,rfl,rfl,rfl,ga,lx,el⟩:=qGU h c;obtain ⟨zs,rfl,b,p⟩:=qOB (show qEN k 0 ds=true from hp);have ex:=qP3 lx el;subst ex;exact ⟨tt,zs,rfl,rfl,qSA,ga,⟨p,fun z hz=>(b z hz).2⟩⟩
def adjB:List Int->Bool
 | a::b::r=>decide (a<b) && adjB (b::r)
 | _=>true
theorem qTP:∀ {zs:List Int},((zs.zip (zs.drop 1)).all fun p=>decide (p.1<p.2))=adjB zs
 | []=>rfl
 | [_]=>rfl
 | a::b::r=>by
  show (decide (a<b) && (((b::r).zip ((b::r).drop 1)).all fun p=>decide (p.1<p.2)))=_;rw [qTP]
  rfl
theorem qOA {e:Int}:∀ {zs:List Int} {l:Int},(∀ z ∈ zs,0<=z/\z<e)->(∀ h,zs.head?=some h->l<=h)->qEN e l (zs.map Y8)=adjB zs
 | [],_,_,_=>rfl
 | [a],l,h,hl=>by
  show ((decide (0<=a) && decide (a<e)) && decide (l<=a) && true)=true;have:=h a C9;have:=hl a rfl;simp [*]
 | a::b::r,l,h,hl=>by
  show ((decide (0<=a) && decide (a<e)) && decide (l<=a) && qEN e (a+1) ((b::r).map Y8))=(decide (a<b) && adjB (b::r));have h1:=h a C9;have h2:=hl a rfl;rw [decide_eq_true h1.1,decide_eq_true h1.2,decide_eq_true h2,A81,A81,J5];by_cases c:a<b
  ·rw [decide_eq_true c,J5];exact qOA (fun z hz=>h z (D4 _ hz)) fun y hy=>by cases hy;lia
  ·rw [decide_eq_false c,E2];show ((decide (0<=b) && decide (b<e)) && decide (a+1<=b) && _)=false;rw [decide_eq_false (by lia:¬ a+1<=b),Q1,E2]
theorem qPR {e l:Int}:∀ {ds:List PyData} {d:PyData},d ∈ ds->qGB e d=false->qEN e l ds=false:=by
 intro ds
 induction ds generalizing l with
 | nil=>intro d h;cases h
 | cons a r ih=>
  intro d h hb;cases a with
  | int i=>
   show ((decide (0<=i) && decide (i<e)) && decide (l<=i) && qEN e (i+1) r)=false;rcases B6.mp h with rfl | h
   ·rw [show (decide (0<=i) && decide (i<e))=false from hb,E2,E2]
   ·rw [ih h hb,Q1]
  | _=>rfl
def qN3:PyData->Bool | .tuple ds=>decide (ds.length=2) | _=>false
theorem qRN {d:PyData} (h:qN3 d=true):∃ a b,d=.tuple [a,b]:=by
 cases d <;> first | cases h | skip
 rename_i ds
 match ds,of_decide_eq_true (show decide (ds.length=2)=true from h) with
 | [a,b],_=>exact ⟨a,b,rfl⟩
def stdD (k Aa:Int) (d:PyData):Bool:=qE3 k d && decide (((qB9 d).length:Int)<=Aa)
def qKZ (Ae:List (List Int)) (Aa:Int) (ss:List (List Int)):Bool:=ss.all fun s=>(qD5 Ae s Aa).all fun m=>decide (behL s m ∈ ss)
def hasB (want s:List Int):Bool:=decide (∀ x ∈ want,x ∈ s)
def nevD (Ae:List (List Int)) (Aa:Int) (want:List Int):PyData->Bool
 | .list ds=>ds.all (stdD (Ae.length:Int) Aa) && (decide ([] ∈ ds.map qB9) && (qKZ Ae Aa (ds.map qB9) && !((ds.map qB9).any (hasB want))))
 | _=>false
def qM3 (Ae:List (List Int)) (Ad:List Int) (Aa:Int):PyData->Bool
 | .tuple [a,b]=>qE3 (Ae.length:Int) a && (!(qCY (qB9 a) Ad).isEmpty && nevD (qBQ Ae (qB9 a)) Aa (qCY (qB9 a) Ad) b)
 | _=>false
theorem qJE {Ae:List (List Int)} {Ad:List Int} {Aa:Int} {d:PyData} (h:qN3 d=false):qM3 Ae Ad Aa d=false:=by
 cases d <;> first | rfl | skip
 rename_i ds
 match ds,h with
 | [],_=>rfl
 | [_],_=>rfl
 | [_,_],h=>cases h
 | _::_::_::_,_=>rfl
theorem qRU {Ae:List (List Int)} {Aa:Int} {W W':List Int} (h:∀ x,x ∈ W ↔ x ∈ W') (d:PyData):nevD Ae Aa W d=nevD Ae Aa W' d:=by
 have e:hasB W=hasB W':=funext fun s=>decide_eq_decide.mpr ⟨fun k x hx=>k x ((h x).mpr hx),fun k x hx=>k x ((h x).mp hx)⟩;cases d <;> first | rfl | skip
 rename_i ds
 show (_ && (_ && (_ && !(_:List (List Int)).any (hasB W))))=_;rw [e]
 rfl
theorem qHR {H:Hp} {m:Nat} {k Aa:Int}:∀ {xs:List V} {ds:List PyData},xs.length=ds.length->(∀ (i:Nat) (x':V) (d':PyData),xs[i]?=some x'->ds[i]?=some d'->DatN H m x' d')->ds.all (stdD k Aa)=true->∃ rs:List Addr,xs=rs.map V.ref/\StL H rs (ds.map qB9)/\∀ s ∈ ds.map qB9,Rise k s/\(s.length:Int)<=Aa
 | [],[],_,_,_=>⟨[],rfl,.nil,fun _ h=>nomatch h⟩
 | [],_::_,h,_,_=>by cases h
 | _::_,[],h,_,_=>by cases h
 | x::xs,d::ds,hl,el,ha=>by
  rw [i6,O1] at ha;have hd:(qE3 k d && decide (((qB9 d).length:Int)<=Aa))=true:=ha.1;rw [O1,decide_eq_true_eq] at hd;obtain ⟨t,zs,rfl,_,e1,g,R⟩:=qEM (el 0 x d rfl rfl) hd.1;obtain ⟨rs,rfl,T,all⟩:=qHR (xs:=xs) (ds:=ds) (by simpa using hl) (fun i x' d' h1 h2=>el (i+1) x' d' h1 h2) ha.2
  refine ⟨t::rs,rfl,.cons (by rw [e1];exact g) T,fun s hs=>?_⟩
  rw [E5] at hs;rcases B6.mp hs with rfl | hs
  ·exact ⟨by rw [e1];exact R,hd.2⟩
  ·exact all s hs
def qQZ:Sp:=fun vs H Q _=>∃ x n d,vs=[x]/\DatN H n x d/\Q (.bl (qN3 d)) H
def qO3:Sp:=fun vs H Q _=>∃ (a:Addr) (Ae:List (List Int)) (Aa:Int) (x:V) (n:Nat) (d:PyData),vs=[.ref a,.int Aa,x]/\NetAt H a Ae/\Ae.length<=12/\DatN H n x d/\Q (.bl (stdD (Ae.length:Int) Aa d)) H
def qLI:Sp:=fun vs H Q _=>∃ (a l:Addr) (Ae:List (List Int)) (Aa:Int) (rs:List Addr) (ss:List (List Int)),vs=[.ref a,.int Aa,.ref l]/\NetAt H a Ae/\WFn Ae/\Ae.length<=12/\H l=some (.lst (rs.map V.ref))/\StL H rs ss/\ss.length<=5000/\(∀ s ∈ ss,Rise (Ae.length:Int) s)/\∀ H',Same H H'->Q (.bl (qKZ Ae Aa ss)) H'
def qJ4:Sp:=fun vs H Q _=>∃ (a lw:Addr) (Ae:List (List Int)) (Aa:Int) (want:List Int) (x:V) (n:Nat) (d:PyData),vs=[.ref a,.ref lw,.int Aa,x]/\NetAt H a Ae/\WFn Ae/\Ae.length<=12/\H lw=some (.lst (want.map V.int))/\want.length<=1000/\DatN H n x d/\LenN 1 d/\∀ H',Same H H'->Q (.bl (nevD Ae Aa want d)) H'
def qHB:Sp:=fun vs H Q _=>∃ (a t:Addr) (Ae:List (List Int)) (Ad:List Int) (Aa:Int) (x:V) (n:Nat) (d:PyData),vs=[.ref a,.ref t,.int Aa,x]/\NetAt H a Ae/\WFn Ae/\Ae.length<=12/\qIO H t Ae Ad/\DatN H n x d/\LenN 3 d/\∀ H',Same H H'->Q (.bl (qM3 Ae Ad Aa d)) H'
def qO2:Sp:=fun vs H Q _=>∃ (a t d:Addr) (o:Obj) (Ae:List (List Int)) (Aa:Int) (s:List Int) (ks:List (List Int)) (Af:List (List Key × V)),vs=[.ref a,.int Aa,.ref t,.ref d]/\NetAt H a Ae/\WFn Ae/\Ae.length<=12/\H t=some (.tup (s.map V.int))/\Rise (Ae.length:Int) s/\H d=some (.frz o (.dT Af))/\(∀ z:List Int,(valV Af (keyS z)).isSome=true ↔ z ∈ ks)/\∀ H',Same H H'->Q (.bl ((qD5 Ae s Aa).all fun m=>decide (behL s m ∈ ks))) H'
def qQX:Sp:=fun vs H Q _=>∃ x n d e,vs=[x,.int e]/\DatN H n x d/\LenN 1 d/\∀ H',Same H H'->Q (.bl (qE3 e d)) H'
def AnyM (H:Hp) (n W:Nat) (x:V):Prop:=∃ d,DatN H n x d/\Sm W d/\LenN 3 d
section
variable {H H':Hp} {n W:Nat} {x:V}
theorem AnyM.same (h:AnyM H n W x) (s:Same H H'):AnyM H' n W x:=let ⟨d,a,b,c⟩:=h;⟨d,a.same s,b,c⟩
theorem AnyM.up (h:AnyM H n W x):AnyM H (n+1) W x:=let ⟨d,a,b,c⟩:=h;⟨d,a.up,b,c⟩
theorem AnyM.mono {V:Nat} (h:AnyM H n W x) (l:W<=V):AnyM H n V x:=let ⟨d,a,b,c⟩:=h;⟨d,a,b.mono l,c⟩
theorem AnyM.leaf {d:PyData} (h:qIP x d) (s:Sm W d) (nl:∀ b ds,d ≠ seqD b ds):AnyM H n W x:=⟨d,by cases n with | zero=>exact h | succ n=>exact .inl h,s,fun b ds e=>absurd e (nl b ds)⟩
theorem AnyM.non:AnyM H n W .non:=.leaf (.inl ⟨rfl,rfl⟩) ⟨rfl,rfl,rfl,D8 _⟩ fun b ds e=>by cases b <;> cases e
theorem AnyM.bl {b:Bool}:AnyM H n W (.bl b):=.leaf (.inr (.inl ⟨b,rfl,rfl⟩)) ⟨rfl,rfl,rfl,D8 _⟩ fun b ds e=>by cases b <;> cases e
theorem AnyM.int {i:Int} (h : -2000<=i/\i<=2000):AnyM H n 11 (.int i):=.leaf (.inr (.inr (.inl ⟨i,rfl,rfl⟩))) (qYL h) fun b ds e=>by cases b <;> cases e
theorem AnyM.str {y:Str} (h:Sm W (.str y)):AnyM H n W (.str y):=.leaf (.inr (.inr (.inr ⟨_,rfl,rfl⟩))) h fun b ds e=>by cases b <;> cases e
theorem qPD:∀ {xs:List V},(∀ x ∈ xs,AnyM H n W x)->∃ ds:List PyData,xs.length=ds.length/\(∀ (i:Nat) (x':V) (d':PyData),xs[i]?=some x'->ds[i]?=some d'->DatN H n x' d')/\∀ d ∈ ds,Sm W d/\LenN 3 d
 | [],_=>⟨[],rfl,(fun i x' d' e=>by simp at e),fun _ h=>nomatch h⟩
 | x::xs,h=>by
  obtain ⟨d,h1,h2,h3⟩:=h x C9;obtain ⟨ds,l,k1,k2⟩:=qPD fun y hy=>h y (D4 _ hy);refine ⟨d::ds,by rw [D5,l,D5],fun i x' d' e1 e2=>?_,fun e he=>?_⟩
  ·cases i with
   | zero=>cases e1;cases e2;exact h1
   | succ i=>exact k1 i x' d' e1 e2
  ·rcases B6.mp he with z | z
   ·rw [z];exact ⟨h2,h3⟩
   ·exact k2 e z
theorem AnyM.seq {b:Bool} {p:Addr} {xs:List V} {L:Nat} (g:H p=some (seqO b xs)) (l:xs.length<=L) (l2:L<=2000) (h:∀ x ∈ xs,AnyM H n W x):AnyM H (n+1) (L * (W+1)) (.ref p):=by
 obtain ⟨ds,le,k1,k2⟩:=qPD h;refine ⟨seqD b ds,.inr ⟨b,p,xs,ds,rfl,rfl,g,le,k1⟩,Sm.seq (fun d hd=>(k2 d hd).1) (by lia),fun b' ds' e=>?_⟩
 have e2:ds=ds':=by cases b <;> cases b' <;> cases e <;> rfl
 rw [<- e2];exact ⟨by lia,fun d hd=>(k2 d hd).2.down⟩
end
def qVP:Sp:=fun vs H Q _=>∃ (d c:Addr) (t:Int) (ns:List Int) (a tk:Addr) (Ae:List (List Int)) (Ad:List Int) (Aa:Int),vs=[.ref d,.ref a,.ref tk,.int Aa]/\StAt H d c t ns/\t<=TB - 1000/\NetAt H a Ae/\WFn Ae/\1<=Ae.length/\Ae.length<=6/\qIO H tk Ae Ad/\
 ∀ (T tw l:Addr) (ws:List Int) (rs:List Addr) (ss:List (List Int)) (t':Int) (ns':List Int) (H':Hp),StAt H' d c t' ns'->t<=t'->t'<=t+200->Keep d c H H'->H' T=some (.tup [.ref tw,.ref l])->H' tw=some (.tup (ws.map V.int))->H' l=some (.lst (rs.map V.ref))->l ≠ d->l ≠ c->StL H' rs ss->ws.length<=6->(∀ x ∈ ws,0<=x/\x<=6)->ss.length<=70->(∀ s ∈ ss,s.length<=6/\∀ x ∈ s,0<=x/\x<=6)->Q (.ref T) H'
def qO6:Sp:=fun vs H Q _=>∃ (d c:Addr) (t:Int) (ns:List Int) (r:Addr) (s:List Int) (m:Int),vs=[.ref d,.ref r,.int m]/\StAt H d c t ns/\t<=TB - 500/\H r=some (.tup (s.map V.int))/\s.length<=6/\(∀ x ∈ s,0<=x/\x<=6)/\0<=m/\m<=6/\
 ∀ x t' ns' H',StAt H' d c t' ns'->t<=t'->t'<=t+10->Keep d c H H'->AnyM (red d c H') 2 1000 x->Q x H'
def qR1:Sp:=fun vs H Q _=>∃ (d c:Addr) (t:Int) (ns:List Int) (T tw l:Addr) (ws:List Int) (rs:List Addr) (ss:List (List Int)) (m:Int),vs=[.ref d,.ref T,.int m]/\StAt H d c t ns/\t<=TB - 1000/\H T=some (.tup [.ref tw,.ref l])/\H tw=some (.tup (ws.map V.int))/\H l=some (.lst (rs.map V.ref))/\l ≠ d/\l ≠ c/\StL H rs ss/\ws.length<=6/\(∀ x ∈ ws,0<=x/\x<=6)/\ss.length<=70/\(∀ s ∈ ss,s.length<=6/\∀ x ∈ s,0<=x/\x<=6)/\1<=m/\m<=6/\
 ∀ x t' ns' H',StAt H' d c t' ns'->t<=t'->t'<=t+50->Keep d c H H'->AnyM (red d c H') 5 400000 x->Q x H'
section
variable {P:Program} {w:World} {K:PySem.W.Frag} {mg:Str->Option Value} {base:Heap} {f:Addr} {fd:FuncData} {qDL qEB qFI qFH qGR qE9 qEV qEA qGS qID f_played qZS qG8 qNQ qIF qKQ qGT qGP qDK qGQ qEW qIC qGO qD4 qNP qIG qIE qKO qEC qKR qST qKS qKP qEX qNR qE8 qFJ:Addr} {qDE qIX qMC qMB qNM qH0 qKK qIW qNN qQB fd_played qJJ qVA qKM qP2 qNO qNK qIB qNL qKL qQA qNJ qH9 qV9 qQD qQC qSP qIY qSR qXQ qSS qSQ qKN qVB qIV qMD:FuncData}
theorem sc_Lbegin:FnScope ["_law_script","_law_cells"] ["_law_script"] (qAE qHE):=qBP
theorem ok_Lbegin (F:Fun K "_law_begin" "_law_begin" qHE f fd) (qEK:mg "list" = none):FnOk P w K mg base CX0 1 f fd ["_law_script"] (qR2 K):=by
 refine F.okA sc_Lbegin fun cdv A outer s H vs Q E hr h=>?_;obtain ⟨a,ns,rfl,hS,h63,q⟩:=h;have hu:=qIU hr;have hu0:=hr.units0;refine ⟨_,(qA4 (qAJ (i:=1) sc_Lbegin.nd rfl (E8 rfl) (qAD qDF rfl qEK qGV (qA0 (qCR qGG (pv 0) qE5 (qCZ qA8)) qA2))) (qA4 (qBI (qAL (qI3 hu0) (pv 1) (qB4 qA2) (qAQ _)) (qA6 (qAJ (i:=1) sc_Lbegin.nd rfl (E8 rfl) (qB4 (qA0 qA8 qA2)))) qAO) (qA6 (qAI (qRL (qKD qBJ (pv 1) (qKD qBJ qA8 qRD)) rfl rfl (by simp) (by decide)))))),?_⟩
 try dsimp only [Cx.nox,Cx.wish,cxOf]
 refine ⟨_,rfl,_,rfl,a,_,rfl,hS,fun p hp=>?_⟩;rw [qHL];have hl:(cutI ns none (some 63)).length<=63:=J6 (qVF _ _ _) h63;refine ⟨p,_,rfl,.inl (SqL.of qA1),fun c hc=>?_⟩;have s1:Same H (Ag (Ag H p (.lst ((cutI ns none (some 63)).map V.int))) c (.lst ((cutI ns none (some 63)).map V.int))):=(qA3 hp _).trans (qA3 hc _);refine ⟨_,rfl,(by show 0<=sizeLine;decide),fun e he=>?_⟩
 have hce:c ≠ e:=qA7 qA1 he;refine ⟨c,e,_,rfl,rfl,SqL.of (by rw [qAC hce];exact qA1),SqL.of qA1,_,rfl,?_⟩
 have s2:=s1.trans (qA3 he (.lst []));cases hm:cutI ns none (some 63) with
 | nil=>
  rw [hm] at s2 he;refine iteT ?_;refine ⟨(by show 1<=sizeLine;decide),fun c2 hc2=>?_⟩
  have s3:=s2.trans (qA3 hc2 (.lst [.int 7]));intro d hd;refine ⟨_,rfl,?_⟩;have s4:=s3.trans (qA3 hd (.dK []));refine ⟨qA1,[(O2 (D2 "cells"),.ref c2),(O2 (D2 "turn"),.int 0)],rfl,(by show 2<=15;decide),?_⟩
  have ncd:c2 ≠ d:=qA7 qA1 hd;refine q d c2 [7] _ ⟨?_,?_,by decide,by decide,by decide⟩ ?_ ?_ ?_
  ·rw [qA1,qW2]
  ·rw [qAC ncd,qAC ncd];exact qA1
  ·rw [qHQ];exact s3.trans (qA3 hd _)
  ·exact s3.free hd
  ·exact s2.free hc2
 | cons x r=>
  rw [hm] at s2 he hl;refine iteF ?_;intro d hd;refine ⟨_,rfl,?_⟩;refine ⟨qA1,[(O2 (D2 "cells"),.ref c),(O2 (D2 "turn"),.int 0)],rfl,(by show 2<=15;decide),?_⟩
  have gc:(Ag (Ag (Ag H p (.lst ((x::r).map V.int))) c (.lst ((x::r).map V.int))) e (.lst [])) c=some (.lst ((x::r).map V.int)):=by rw [qAC hce];exact qA1
  have ncd:c ≠ d:=qA7 gc hd;refine q d c (x::r) _ ⟨?_,?_,by simp,hl,by decide⟩ ?_ ?_ ?_
  ·rw [qA1,qW2]
  ·rw [qAC ncd,qAC ncd];exact gc
  ·rw [qHQ];exact s2.trans (qA3 hd _)
  ·exact s2.free hd
  ·rw [hm] at hc;exact (qA3 hp _).free hc
theorem sc_Ltake:FnScope ["_law_state","_law_many","_law_turn","_law_place","_law_cell","_law_digit","_law_mixed"] ["_law_state","_law_many"] (qAE qK5):=qBP
theorem ok_Ltake (F:Fun K "_law_take" "_law_take" qK5 f fd) (qAZ:mg "len" = none) (qU0:mg "divmod" = none):FnOk P w K mg base CX0 1 f fd ["_law_state","_law_many"] qFP:=by
 refine F.okA sc_Ltake fun cdv A outer s H vs Q E hr h=>?_;obtain ⟨d,c,t,ns,m,rfl,S,ht,hm1,hm2,q⟩:=h;have hu:=qIU hr;refine ⟨_,(qA4 (qAJ (i:=2) sc_Ltake.nd rfl (E8 rfl) (qAM qD2 (qGL hu (pv 0) qBJ (fun _ _=>rfl)) qA8)) (qA4 (qGK hu (pv 0) qBJ (pv 2) rfl) (qA4 (qAJ (i:=3) sc_Ltake.nd rfl (E8 rfl) (qAM qGZ (pv 2) (qA9 qAA rfl qAZ qAY (qA0 (qGL hu (pv 0) qBJ (fun _ _=>rfl)) qA2)))) (qA4 (qAJ (i:=4) sc_Ltake.nd rfl (E8 rfl) (qBL qC1 (qGL hu (pv 0) qBJ (fun _ _=>rfl)) (pv 3) (fun _ _=>rfl))) (qA4 (qBI (qAL qUO (pv 4) (qAM qZ3 qA8 qA8) (qAQ _)) (qA4 (qLV (qA9 qNW rfl qU0 qTJ (qA0 (pv 4) (qA0 (pv 1) qA2))) (qLX rfl (qB7 (qRI (qGL hu (pv 0) qBJ (fun _ _=>rfl)) (pv 3) qK2) (qB7 (qAW (i:=5) sc_Ltake.nd rfl (E8 rfl)) qE6)))) (qA6 (qAI (pv 5)))) qAO) (qA4 (qAJ (i:=6) sc_Ltake.nd rfl (E8 rfl) (qAM qGZ (qAM qI2 (qAM qD2 (qAM qD2 (qAM qGZ (pv 4) qA8) (qAM qI2 (qAM qI2 (pv 2) (pv 2)) qA8)) qA8) qA8) qA8)) (qA4 (qAJ (i:=6) sc_Ltake.nd rfl (E8 rfl) (qAM qGZ (qAM qI2 (pv 6) (pv 6)) qA8)) (qA6 (qAI (qAM qGZ (qAM qN5 (qAM qGZ (qAM qI2 (qAM qD2 (pv 6) (qAM qI2 (pv 2) qA8)) qA8) qA8) qA8) (pv 1))))))))))),?_⟩
 try dsimp only [Cx.nox,Cx.wish,cxOf]
 have hpos:=S.pos;have hne:=S.ne;have ht':t<=1000000000:=ht;refine ⟨_,rfl,d,_,rfl,qXT S,_,_,rfl,rfl,?_⟩;refine ⟨_,rfl,_,rfl,d,_,rfl,qXS S,?_⟩;have S1:=S.turn (u:=t+1) (by lia)
 have k1:Keep d c H (Ag H d (.dK [(O2 (D2 "cells"),.ref c),(O2 (D2 "turn"),.int (t+1))])):=fun b o e n _=>by rw [qAC n];exact e
 generalize Ag H d (.dK [(O2 (D2 "cells"),.ref c),(O2 (D2 "turn"),.int (t+1))])=H1 at S1 k1;have hlen:(((ns.map V.int).length:Nat):Int)=(ns.length:Int):=by rw [A0]
 refine ⟨_,rfl,_,rfl,d,_,rfl,qKV S1,c,_,rfl,.inl (SqL.of S1.list),_,_,rfl,rfl,(by rw [hlen];lia),?_⟩
 have p0:0<=(t+1) % (((ns.map V.int).length:Nat):Int):=R7 _ (by rw [hlen];lia)
 have p1:(t+1) % (((ns.map V.int).length:Nat):Int)<(ns.length:Int):=by
  have:=P3 (t+1) (b:=(((ns.map V.int).length:Nat):Int)) (by rw [hlen];lia)
  rw [hlen] at this ⊢;exact this
 dsimp only;generalize (t+1) % (((ns.map V.int).length:Nat):Int)=pl at p0 p1;obtain ⟨j,rfl⟩:∃ j:Nat,pl=(j:Int):=⟨pl.toNat,by lia⟩
 have hj:j<ns.length:=by lia
 have hat:atI (ns.map V.int) (j:Int)=some (.int ns[j]):=qTN (by rw [B5,A3 hj];rfl)
 refine ⟨_,rfl,d,_,rfl,qKV S1,_,rfl,c,_,_,_,rfl,rfl,SqL.of S1.list,hat,?_⟩;generalize hx:ns[j]=x at hat ⊢;refine ⟨_,rfl,_,_,rfl,rfl,⟨by decide,by decide,by decide⟩,_,_,rfl,rfl,_,rfl,?_⟩
 refine ite2 (fun _=>?_) (fun _=>?_)
 ·-- a great cell
  refine ⟨_,rfl,_,rfl,x,m,rfl,⟨by lia,by lia⟩,fun p hp=>?_⟩
  have S2:=S1.new hp (.tup [.int (x / m),.int (x % m)]);have npc:p ≠ c:=(qA7 S1.list hp).symm;refine ⟨p,_,rfl,SqT.of qA1,rfl,_,_,rfl,?_⟩;refine ⟨_,rfl,d,_,rfl,qKV S2,_,rfl,c,_,_,j,rfl,rfl,S2.list,qS5 (by rw [A0];exact hj),?_⟩
  refine ⟨_,_,rfl,rfl,?_⟩;refine ⟨_,rfl,?_⟩;have e1:(ns.map V.int).set j (.int (x / m))=(ns.set j (x / m)).map V.int:=by rw [B06]
  rw [e1];refine q (x % m) (ns.set j (x / m)) _ (R7 _ (by lia)) (P3 _ (by lia)) (S2.put (by rw [A29])) ?_
  have k2:=k1.trans (qCS (d:=d) (c:=c) hp (.tup [.int (x / m),.int (x % m)]));exact fun b o e n1 n2=>by rw [qAC n2];exact k2 b o e n1 n2
 ·have b1:0<=x % 2147483629:=R7 _ (by decide)
  have b2:x % 2147483629<2147483629:=P3 _ (by decide)
  refine ⟨_,rfl,_,_,rfl,rfl,(by show (0:Int)<2147483629;decide),_,rfl,_,rfl,_,_,rfl,rfl,.inl ⟨by lia,by lia⟩,_,_,rfl,rfl,.inr ⟨by decide,by decide⟩,_,_,rfl,rfl,_,_,rfl,rfl,_,_,rfl,rfl,.inr ⟨by decide,by decide⟩,_,_,rfl,rfl,(by show (0:Int)<2147483647;decide),?_⟩
  have c1:=R7 ((x % 2147483629+(t+1) * (t+1) * 7919+11) * 48271) (b:=2147483647) (by decide)
  have c2:=P3 ((x % 2147483629+(t+1) * (t+1) * 7919+11) * 48271) (b:=2147483647) (by decide)
  dsimp only;generalize ((x % 2147483629+(t+1) * (t+1) * 7919+11) * 48271) % 2147483647=y at c1 c2;refine ⟨_,rfl,_,rfl,_,_,rfl,rfl,.inl ⟨by lia,by lia⟩,_,_,rfl,rfl,(by show (0:Int)<2147483587;decide),?_⟩
  dsimp only;generalize y * y % 2147483587=z;refine ⟨_,rfl,_,rfl,_,_,rfl,rfl,.inr ⟨by decide,by decide⟩,_,_,rfl,rfl,_,_,rfl,rfl,.inr ⟨by decide,by decide⟩,_,_,rfl,rfl,(by show (0:Int)<2147483629;decide),_,_,rfl,rfl,⟨by decide,by decide⟩,_,rfl,_,_,rfl,rfl,(by lia),?_⟩
  exact q _ ns _ (R7 _ (by lia)) (P3 _ (by lia)) S1 k1
theorem sc_Lsome_needs:FnScope ["_law_state","_law_k","_law_found","_law_turn","_law_far"] ["_law_state","_law_k"] (qAE qCP):=qBP
theorem ok_Lsome_needs (F:Fun K "_law_some_needs" "_law_some_needs" qCP f fd) (qAT:Clb P w K mg base 1 qDL qDE "_law_take" ["_law_state","_law_many"] qFP)
  (qAR:mg "range" = none) (qQQ:mg "min" = none) (qAK:mg "tuple" = none) (qBT:mg "sorted" = none) (qMU:mg "set" = none):FnOk P w K mg base CX0 2 f fd ["_law_state","_law_k"] qMX:=by
 refine F.okA sc_Lsome_needs fun cdv A outer s H vs Q E hr h=>?_;obtain ⟨d,c,t,ns,k,rfl,S,ht,hk0,hk1,q⟩:=h;have ht':t<=1000000000 - 20:=ht;have qOZ:Room 1 _:=hr;refine ⟨_,(qA4 (qAJ (i:=2) sc_Lsome_needs.nd rfl (E8 rfl) (qB4 qA2)) (qA4 (qBY E1 rfl (qB0 rfl qAR (qA0 (qAS qAT hr rfl (qA0 (pv 0) (qA0 qA8 qA2))) qA2)) (qAW (i:=3) sc_Lsome_needs.nd rfl (E8 rfl)) (qA4 (qAJ (i:=4) sc_Lsome_needs.nd rfl (E8 rfl) (qBL qC1 (qB4 (qA0 (qA9 (qIL rfl) rfl qQQ qTH (qA0 (pv 1) (qA0 qA8 qA2))) (qA0 (pv 1) qA2))) (qAM qN5 (qAS qAT hr rfl (qA0 (pv 0) (qA0 qA8 qA2))) qA8) (fun _ _=>rfl))) (qA6 (qBI (qAL qRR (pv 1) qA8 (qAQ _)) (qA6 (qGJ (qPY P4 Q6 Q7 qDW (pv 2) (qA0 (qAM qDS (qAM qDS (pv 1) qA8) (qAS qAT hr rfl (qA0 (pv 0) (qA0 (pv 4) qA2)))) qA2)))) qAO)))) (qA6 (qAI (qAD qAF rfl qAK qAP (qA0 (qA9 (qCE rfl) rfl qBT qD6 (qA0 (qAD (qL2 rfl) rfl qMU qPA (qA0 (pv 2) qA2)) qA2)) qA2)))))),?_⟩
 try dsimp only [Cx.nox,Cx.wish,cxOf]
 refine cut fun N0 hN0=>?_;refine ⟨(by show 0<=sizeLine;decide),fun fo hfo=>?_⟩
 have S1:=S.new hfo (.lst []);have nd:fo ≠ d:=(qA7 S.dict hfo).symm;have nc:fo ≠ c:=(qA7 S.list hfo).symm;refine hN0 _ _ (cut fun N1 hN1=>?_);refine ⟨_,rfl,d,c,t,ns,5,rfl,S1,(by show t<=1000000000;lia),by decide,by decide,fun j ns1 H1 j0 j5 S2 K2=>?_⟩
 refine ⟨j,rfl,by lia,by lia,qDX (lo:=0) (n:=j.toNat) (fun i σ Hc=>∃ (t':Int) (ms fs:List Int) (v1 v2:Option V),σ=[some (.ref d),some (.int k),some (.ref fo),v1,v2]/\StAt Hc d c t' ms/\t<=t'/\t'<=t+1+2 * i/\Keep d c H Hc/\
  Hc fo=some (.lst (fs.map V.int))/\fs.length<=i/\∀ x ∈ fs,0<=x/\x<k)
  ⟨t+1,ns1,[],none,none,rfl,S2,by lia,by lia,(qCS hfo _).trans K2,K2 _ _ qA1 nd nc,A6 _,fun _ z=>nomatch z⟩ ?_ ?_⟩
 ·refine fun i σ Hc hi hI_1=>opq fun G_1 hG_1=>?_;obtain ⟨t',ms,fs,v1,v2,rfl,S3,a1,a2,K3,h3,l3,m3⟩:=hI_1;refine hG_1 ?_;have hi5:(i:Int)<5:=by lia
  -- far
  refine nmD fun D1 d1 dr=>cut fun M0 hM0=>?_;refine ⟨_,rfl,k,4,rfl,_,rfl,(by show 2<=sizeLine;decide),fun p hp=>?_⟩
  have S4:=S3.new hp (.lst [.int (if (4:Int)<k then 4 else k),.int k])
  have npd:p ≠ d:=(qA7 S3.dict hp).symm;have npc:p ≠ c:=(qA7 S3.list hp).symm;refine ⟨_,rfl,d,c,t',ms,4,rfl,S4,(by show t'<=1000000000;lia),by decide,by decide,fun k2 ms2 H2 g0 g4 S5 K5=>?_⟩
  obtain ⟨far,hfar,ef⟩:=qaK (a:=if (4:Int)<k then 4 else k) (b:=k) g0 g4
  have far1:far<=k:=by rcases ef with e | e <;> (subst e;first | lia | (split <;> lia))
  have far2:0<k->1<=far:=fun hk=>by rcases ef with e | e <;> (subst e;first | lia | (split <;> lia))
  refine ⟨_,_,rfl,rfl,⟨by decide,by decide⟩,p,_,_,_,rfl,rfl,SqL.of (K5 _ _ qA1 npd npc),hfar,?_⟩
  have K6:=K3.trans ((qCS (d:=d) (c:=c) hp (.lst [.int (if (4:Int)<k then 4 else k),.int k])).trans K5)
  have h6:H2 fo=some (.lst (fs.map V.int)):=K5 _ _ (by rw [qAC (qA7 h3 hp)];exact h3) nd nc
  refine hM0 _ _ ?_;refine ⟨_,rfl,_,_,rfl,rfl,_,rfl,?_⟩;refine ite2 (fun ck=>?_) (fun ck=>?_)
  ·have hk:0<k:=of_decide_eq_true ck;refine ⟨_,rfl,.inl ⟨rfl,_,SqL.of h6⟩,_,rfl,_,_,rfl,rfl,_,rfl,_,rfl,d,c,t'+1,ms2,far,rfl,S5,(by show t'+1<=1000000000;lia),far2 hk,by lia,fun k3 ms3 H3 c0 c1 S6 K7=>?_⟩
   have h7:=K7 _ _ h6 nd nc;refine ⟨_,_,rfl,rfl,fo,_,_,rfl,rfl,h7,qAH (by rw [A0];lia),?_⟩
   have S8:StAt (Ag H3 fo (.lst (fs.map V.int++[.int (k - 1 - k3)]))) d c (t'+1+1) ms3:=⟨by rw [qAC (J4 nd)];exact S6.dict,by rw [qAC (J4 nc)];exact S6.list,S6.ne,S6.len,S6.pos⟩
   have hH:H fo=none:=hfo;refine d1 _ _ ⟨t'+1+1,ms3,fs++[k - 1 - k3],_,_,rfl,S8,by lia,by lia,fun b o e n1 n2=>?_,?_,?_,fun x hx=>?_⟩
   ·rw [qAC (qA7 e hH)];exact (K6.trans K7) b o e n1 n2
   ·rw [qA1,B0];rfl
   ·rw [A7,B4];lia
   ·rcases B1.mp hx with hx | hx
    ·exact m3 x hx
    ·rw [A8.mp hx];lia
  ·exact d1 _ _ ⟨t'+1,ms2,fs,_,_,rfl,S5,by lia,by lia,K6,h6,by lia,m3⟩
 ·refine fun σ Hc hI_2=>opq fun G_2 hG_2=>?_;obtain ⟨t',ms,fs,v1,v2,rfl,S3,a1,a2,K3,h3,l3,m3⟩:=hI_2;refine hG_2 ?_;refine hN1 _ _ ?_;refine ⟨_,rfl,fo,fs,rfl,SqL.of h3,by lia,fun a ha=>?_⟩
  have sm1:=qA3 ha (SetO w a (dedI fs));refine ⟨a,dedI fs,rfl,.inr (.inr qA1),T9 (qHK fs) (by lia),fun b zs hb hp hs=>?_⟩
  have sm2:=sm1.trans (qA3 hb (.lst (zs.map V.int)));refine ⟨b,_,rfl,.inl ⟨SqL.of qA1,fun r hr'=>?_⟩⟩;have sm3:=sm2.trans (qA3 hr' (.tup (zs.map V.int)));exact q r zs t' ms _ (S3.same sm3) (by lia) (by lia) (K3.trans (.of_same sm3)) qA1 (qKA hp hs m3)
theorem sc_Ltree_net:FnScope ["_law_state","_law_many","_law_open_ones","_law_found","_law_k","_law_so_many"] ["_law_state","_law_many"] (qAE qE1):=qBP
theorem ok_Ltree_net (F:Fun K "_law_tree_net" "_law_tree_net" qE1 f fd) (qAT:Clb P w K mg base 1 qDL qDE "_law_take" ["_law_state","_law_many"] qFP)
  (qAR:mg "range" = none) (qQQ:mg "min" = none) (qAK:mg "tuple" = none) (qAZ:mg "len" = none):FnOk P w K mg base CX0 2 f fd ["_law_state","_law_many"] qVO:=by
 refine F.okA sc_Ltree_net fun cdv A outer s H vs Q E hr h=>?_;obtain ⟨d,c,t,ns,m,rfl,S,ht,hm0,hm1,q⟩:=h;have ht':t<=1000000000 - 1000:=ht;have qOZ:Room 1 _:=hr;refine ⟨_,(qA4 (qAJ (i:=2) sc_Ltree_net.nd rfl (E8 rfl) (qB4 qA2)) (qA4 (qAJ (i:=3) sc_Ltree_net.nd rfl (E8 rfl) (qB4 qA2)) (qA4 (qBY E1 rfl (qB0 rfl qAR (qA0 (qAM qDS (pv 1) qA8) qA2)) (qAW (i:=4) sc_Ltree_net.nd rfl (E8 rfl)) (qA4 (qAJ (i:=5) sc_Ltree_net.nd rfl (E8 rfl) (qA9 (qIL rfl) rfl qQQ qTH (qA0 (qA9 qAA rfl qAZ qAY (qA0 (pv 2) qA2)) (qA0 (qBL qC1 (qB4 (qA0 qA8 (qA0 qA8 (qA0 qA8 (qA0 qA8 (qA0 qA8 (qA0 qA8 qA2))))))) (qAS qAT hr rfl (qA0 (pv 0) (qA0 qA8 qA2))) (fun _ _=>rfl)) qA2)))) (qA4 (qGJ (qPY P4 Q6 Q7 qDW (pv 3) (qA0 (qAD qAF rfl qAK qAP (qA0 (qCR qGG (pv 2) (qCZ (qAM qDS (qA9 qAA rfl qAZ qAY (qA0 (pv 2) qA2)) (pv 5))) qE5) qA2)) qA2))) (qA6 (qAJ (i:=2) sc_Ltree_net.nd rfl (E8 rfl) (qAM qEI (qCR qGG (pv 2) qE5 (qCZ (qAM qDS (qA9 qAA rfl qAZ qAY (qA0 (pv 2) qA2)) (pv 5)))) (qB4 (qA0 (pv 4) qA2)))))))) (qA6 (qAI (qAD qAF rfl qAK qAP (qA0 (qAM qEI (pv 3) (qB4 (qA0 (qAD qAF rfl qAK qAP (qA0 (pv 2) qA2)) qA2))) qA2))))))),?_⟩
 try dsimp only [Cx.nox,Cx.wish,cxOf]
 refine cut fun N0 hN0=>?_;refine ⟨(by show 0<=sizeLine;decide),fun o0 ho0=>?_⟩
 refine hN0 _ _ (cut fun N1 hN1=>?_);have S1:=S.new ho0 (.lst []);refine ⟨(by show 0<=sizeLine;decide),fun fo hfo=>?_⟩
 have S2:=S1.new hfo (.lst []);have nd:fo ≠ d:=(qA7 S1.dict hfo).symm;have nc:fo ≠ c:=(qA7 S1.list hfo).symm;have no0:o0 ≠ fo:=qA7 qA1 hfo;have hF:H fo=none:=(qA3 ho0 _).free hfo;refine hN1 _ _ (cut fun N2 hN2=>?_);refine ⟨_,rfl,_,_,rfl,rfl,m - 1,rfl,by lia,by lia,qDX (lo:=0) (n:=(m - 1).toNat) (fun i σ Hc=>∃ (t':Int) (ms os:List Int) (o:Addr) (rs:List Addr) (Ae:List (List Int)) (v1 v2:Option V),σ=[some (.ref d),some (.int m),some (.ref o),some (.ref fo),v1,v2]/\StAt Hc d c t' ms/\t<=t'/\t'<=t+i/\Keep d c H Hc/\
  Hc o=some (.lst (os.map V.int))/\(o ≠ fo/\o ≠ c)/\Hc fo=some (.lst (rs.map V.ref))/\NetL Hc rs Ae/\Ae.length=i/\WFn Ae/\Rise (i:Int) os)
  ⟨t,ns,[],o0,[],[],none,none,rfl,S2,by lia,by lia,(qCS ho0 _).trans (qCS hfo _),by rw [qAC no0];exact qA1,⟨no0,(qA7 S.list ho0).symm⟩,qA1,.nil,rfl,WFn.nil,Rise.nil⟩ ?_ ?_⟩
 ·refine fun i σ Hc hi hI_3=>opq fun G_3 hG_3=>?_;obtain ⟨t',ms,os,o,rs,Ae,v1,v2,rfl,S3,a1,a2,K3,h3,⟨n3,n3c⟩,f3,N3,l3,w3,r3⟩:=hI_3;refine hG_3 ?_;have hlo:os.length<=i:=r3.len;refine nmD fun D1 d1 dr=>cut fun M0 hM0=>?_;refine ⟨_,rfl,o,_,rfl,.inl (SqL.of h3),(by show 6<=sizeLine;decide),fun p hp=>?_⟩
  have S4:=S3.new hp (.lst [.int 0,.int 0,.int 1,.int 2,.int 2,.int 3]);have npd:p ≠ d:=(qA7 S3.dict hp).symm;have npc:p ≠ c:=(qA7 S3.list hp).symm;refine ⟨_,rfl,d,c,t',ms,6,rfl,S4,(by show t'<=1000000000;lia),by decide,by decide,fun k2 ms2 H2 g0 g6 S5 K5=>?_⟩
  obtain ⟨v,hv,v0,v3⟩:=qaJ g0 g6;refine ⟨p,_,_,_,rfl,rfl,SqL.of (K5 _ _ qA1 npd npc),hv,?_⟩;have sm:Same Hc (Ag Hc p (.lst [.int 0,.int 0,.int 1,.int 2,.int 2,.int 3])):=qA3 hp _;have K6:=(Keep.of_same (d:=d) (c:=c) sm).trans K5;have nod:o ≠ d:=qDV h3 S3.dict (by intro z;cases z)
  have h6:H2 o=some (.lst (os.map V.int)):=K6 _ _ h3 nod n3c;have f6:H2 fo=some (.lst (rs.map V.ref)):=K6 _ _ f3 nd nc;have N6:NetL H2 rs Ae:=N3.keep (fun r zs e=>S3.tup e) K6;refine ⟨_,_,rfl,?_⟩;dsimp only;have so0:0<=(if v<(((os.map V.int).length:Nat):Int) then v else (((os.map V.int).length:Nat):Int)):=by split <;> lia
  have so1:(if v<(((os.map V.int).length:Nat):Int) then v else (((os.map V.int).length:Nat):Int))<=(os.length:Int):=by rw [A0];split <;> lia
  generalize (if v<(((os.map V.int).length:Nat):Int) then v else (((os.map V.int).length:Nat):Int))=so at so0 so1
  obtain ⟨kk,ek⟩:∃ kk:Nat,(os.length:Int) - so=(kk:Int):=⟨((os.length:Int) - so).toNat,by lia⟩
  have ek':(((os.map V.int).length:Nat):Int) - so=(kk:Int):=by rw [A0];exact ek
  have hkk:kk<=os.length:=by lia
  -- found.append(tuple(open_ones[len(open_ones) - so_many:]))
  refine hM0 _ _ (cut fun M1 hM1=>?_);refine ⟨_,rfl,.inl ⟨rfl,_,SqL.of f6⟩,_,rfl,_,rfl,o,_,rfl,.inl (SqL.of h6),_,rfl,_,_,rfl,rfl,_,rfl,o,_,rfl,SqL.of h6,fun p1 hp1=>?_⟩;refine ⟨p1,_,rfl,.inl ⟨SqL.of qA1,fun r hr1=>?_⟩⟩;rw [ek',qHL,qMF _ _ hkk] at hr1 ⊢;have sm1:=(qA3 hp1 (.lst ((os.drop kk).map V.int))).trans (qA3 hr1 (.tup ((os.drop kk).map V.int)));have f7:=sm1 _ _ f6;have h7:=sm1 _ _ h6;have N7:NetL _ (rs++[r]) (Ae++[os.drop kk]):=qCH (N6.same fun r zs e=>sm1 _ _ e) (show (Ag (Ag H2 p1 (.lst ((os.drop kk).map V.int))) r (.tup ((os.drop kk).map V.int))) r=some (.tup ((os.drop kk).map V.int)) from qA1);have S7:=S5.same sm1;have K7:=K6.trans (.of_same sm1);generalize (Ag (Ag H2 p1 (.lst ((os.drop kk).map V.int))) r (.tup ((os.drop kk).map V.int)))=H7 at f7 h7 N7 S7 K7 ⊢;refine ⟨fo,_,_,rfl,rfl,f7,qAH (by rw [A0,NetAt.len N3];lia),?_⟩
  have e8:rs.map V.ref++[V.ref r]=(rs++[r]).map V.ref:=by rw [B0];rfl
  rw [e8];have S8:StAt (Ag H7 fo (.lst ((rs++[r]).map V.ref))) d c (t'+1) ms2:=⟨by rw [qAC (J4 nd)];exact S7.dict,by rw [qAC (J4 nc)];exact S7.list,S7.ne,S7.len,S7.pos⟩
  have h8:(Ag H7 fo (.lst ((rs++[r]).map V.ref))) o=some (.lst (os.map V.int)):=by rw [qAC n3];exact h7
  have N8:NetL (Ag H7 fo (.lst ((rs++[r]).map V.ref))) (rs++[r]) (Ae++[os.drop kk]):=N7.same fun r' zs e=>by rw [qAC (qDV e f7 (by intro z;cases z))];exact e
  have K8:Keep d c H (Ag H7 fo (.lst ((rs++[r]).map V.ref))):=fun b u e n1 n2=>by rw [qAC (qA7 e hF)];exact (K3.trans K7) b u e n1 n2
  have f8:(Ag H7 fo (.lst ((rs++[r]).map V.ref))) fo=some (.lst ((rs++[r]).map V.ref)):=qA1;generalize Ag H7 fo (.lst ((rs++[r]).map V.ref))=H8 at S8 h8 N8 K8 f8 ⊢
  -- open_ones=open_ones[:len(open_ones) - so_many]+[k]
  refine hM1 _ _ ?_;refine ⟨_,rfl,_,rfl,o,_,rfl,.inl (SqL.of h8),_,rfl,_,_,rfl,rfl,_,rfl,o,_,rfl,SqL.of h8,fun p2 hp2=>?_⟩;rw [ek',qHL,qXW];refine ⟨_,rfl,(by show 1<=sizeLine;decide),fun p3 hp3=>?_⟩
  have n23:p2 ≠ p3:=qA7 qA1 hp3;refine ⟨p2,p3,_,_,rfl,rfl,by rw [qAC n23];exact qA1,qA1,T6 (qAH (by rw [A0,B9,B4];lia)),fun p4 hp4=>?_⟩
  have sm2:=((qA3 hp2 (.lst ((os.take kk).map V.int))).trans (qA3 hp3 (.lst [.int (0+(i:Int))]))).trans (qA3 hp4 (.lst ((os.take kk).map V.int++[.int (0+(i:Int))])));have e9:(os.take kk).map V.int++[V.int (0+(i:Int))]=(os.take kk++[(i:Int)]).map V.int:=by rw [B0,B05];rfl
  have nf4:p4 ≠ fo:=(qA7 ((qA3 hp3 _) _ _ ((qA3 hp2 _) _ _ f8)) hp4).symm;have nc4:p4 ≠ c:=(qA7 ((qA3 hp3 _) _ _ ((qA3 hp2 _) _ _ S8.list)) hp4).symm;refine d1 _ _ ⟨t'+1,ms2,os.take kk++[(i:Int)],p4,rs++[r],Ae++[os.drop kk],_,_,rfl,S8.same sm2,by lia,by lia,K8.trans (.of_same sm2),by rw [<- e9];exact qA1,⟨nf4,nc4⟩,sm2 _ _ f8,N8.same fun r' zs e=>sm2 _ _ e,by rw [A7,B4,l3],w3.snoc ?_,?_⟩
  ·rw [l3];exact r3.sub (A00 _ _)
  ·have:=(r3.sub (b0 kk os)).snoc (by lia)
   rw [show ((i+1:Nat):Int)=(i:Int)+1 by lia]
   exact this
 ·refine fun σ Hc hI_4=>opq fun G_4 hG_4=>?_;obtain ⟨t',ms,os,o,rs,Ae,v1,v2,rfl,S3,a1,a2,K3,h3,⟨n3,n3c⟩,f3,N3,l3,w3,r3⟩:=hI_4;refine hG_4 ?_;refine hN2 _ _ ?_;refine ⟨_,rfl,_,rfl,o,_,rfl,.inl ⟨SqL.of h3,fun r hr1=>?_⟩⟩;refine ⟨(by show 1<=sizeLine;decide),fun p hp=>?_⟩
  have sm1:=(qA3 hr1 (.tup (os.map V.int))).trans (qA3 hp (.lst [.ref r]));refine ⟨fo,p,_,_,rfl,rfl,sm1 _ _ f3,qA1,T6 (qAH (by rw [A0,NetAt.len N3,B4];lia)),fun p2 hp2=>?_⟩
  refine ⟨p2,_,rfl,.inl ⟨SqL.of qA1,fun a ha=>?_⟩⟩;have sm2:=(sm1.trans (qA3 hp2 (.lst (rs.map V.ref++[.ref r])))).trans (qA3 ha (.tup (rs.map V.ref++[.ref r])));have gr:=(qA3 ha (.tup (rs.map V.ref++[.ref r]))) _ _ ((qA3 hp2 (.lst (rs.map V.ref++[.ref r]))) _ _ ((qA3 hp (.lst [.ref r])) r _ (qA1 (H:=Hc) (o:=.tup (os.map V.int)))));have e8:rs.map V.ref++[V.ref r]=(rs++[r]).map V.ref:=by rw [B0];rfl
  refine q a (Ae++[os]) t' ms _ (S3.same sm2) (by lia) (by lia) (K3.trans (.of_same sm2)) ⟨rs++[r],by rw [<- e8];exact qA1,qCH (N3.same fun r' zs e=>sm2 _ _ e) gr⟩ (w3.snoc (by rw [l3];exact r3)) ?_
  rw [A7,B4,l3]
  lia
theorem sc_Lnet:FnScope ["_law_state","_law_many","_law_way","_law_wide","_law_some","_law_half"] ["_law_state","_law_many"] (qAE qO9):=qBP
theorem ok_Lnet (F:Fun K "_law_net" "_law_net" qO9 f fd) (qAT:Clb P w K mg base 1 qDL qDE "_law_take" ["_law_state","_law_many"] qFP)
  (qEE:Clb P w K mg base 2 qEB qIX "_law_some_needs" ["_law_state","_law_k"] qMX)
  (qIR:Clb P w K mg base 2 qFI qMC "_law_tree_net" ["_law_state","_law_many"] qVO)
  (qAR:mg "range" = none) (qPH:mg "max" = none) (qL8:mg "int" = none) (qBK:mg "enumerate" = none) (qAK:mg "tuple" = none) (qBT:mg "sorted" = none) (qMU:mg "set" = none):FnOk P w K mg base CX0 3 f fd ["_law_state","_law_many"] qYK:=by
 refine F.okA sc_Lnet fun cdv A outer s H vs Q E hr h=>?_;obtain ⟨d,c,t,ns,m,rfl,S,ht,hm0,hm1,q⟩:=h;have ht':t<=1000000000 - 10000:=ht;have qTV:Room 2 _:=hr;have qW6:Room 2 _:=hr;refine ⟨_,(qA4 (qAJ (i:=2) sc_Lnet.nd rfl (E8 rfl) (qAS qAT hr rfl (qA0 (pv 0) (qA0 qA8 qA2)))) (qA4 (qAJ (i:=3) sc_Lnet.nd rfl (o6 rfl) (qAM qD2 qA8 (qAS qAT hr rfl (qA0 (pv 0) (qA0 qA8 qA2))))) (qA4 (qBI (qAL qG1 (pv 2) qA8 (qAQ _)) (qA6 (qAI (qAD qAF rfl qAK qAP (qA0 (qC6 rfl (lcs (own:=["_law_k"]) (fv:=[3]) (by kernel_rfl)) (qB0 rfl qAR (qA0 (pv 1) qA2)) (fun z1=>qBF 0) (fun z1=>qB2) (fun z1=>(qAD (qFC rfl) rfl qAK qAP (qA0 (qAD qTE rfl qAR qPB (qA0 (qA9 (qIM rfl) rfl qPH qTI (qA0 qA8 (qA0 (qAM qDS (pv 0) (pv 1)) qA2))) (qA0 (pv 0) qA2))) qA2)))) qA2)))) qAO) (qA4 (qBI (qAL qG1 (pv 2) qA8 (qAQ _)) (qA4 (qLU (i:=4) sc_Lnet.nd rfl rfl rfl (lcs (own:=["_law_k"]) (fv:=[3]) (by kernel_rfl)) (qB0 rfl qAR (qA0 (pv 1) qA2)) (fun z2=>qBF 0) (fun z2=>qB2) (fun z2=>(qAM qEI (qAM qOQ (qB4 (qA0 (qAM qDS (pv 0) (pv 1)) qA2)) (qAD qIN rfl qL8 qMK (qA0 (qD0 qUO (pv 0) (pv 1) (qAQ _)) qA2))) (qAM qOQ (qB4 (qA0 (qAM qDS (pv 0) qA8) qA2)) (qAD qIN rfl qL8 qMK (qA0 (qD0 qRR (qAM qGZ (pv 0) (pv 1)) qA8 (qAQ _)) qA2))))) (by kernel_rfl)) (qA6 (qAI (qAD qAF rfl qAK qAP (qA0 (qC6 rfl (lcs (own:=["_law_needs"]) (fv:=[]) (by kernel_rfl)) (qCC (pv 4)) (fun z3=>qBF 0) (fun z3=>qB2) (fun z3=>(qAD (qFL (K:=K) rfl) rfl qAK qAP (qA0 (qA9 (qMI (K:=K) (w:=w) rfl rfl rfl) rfl qBT qD6 (qA0 (qAD (qTD (K:=K) (w:=w) rfl rfl rfl) rfl qMU qPA (qA0 (pv 0) qA2)) qA2)) qA2)))) qA2))))) qAO) (qA4 (qBI (qAL qG1 (pv 2) qA8 (qAQ _)) (qA6 (qAI (qAS qIR hr rfl (qA0 (pv 0) (qA0 (pv 1) qA2))))) qAO) (qA4 (qBI (qAL qG1 (pv 2) qA8 (qAQ _)) (qA4 (qAJ (i:=5) sc_Lnet.nd rfl (o6 rfl) (qAM qN5 (pv 1) qA8)) (qA4 (qLU (i:=4) sc_Lnet.nd rfl rfl rfl (lcs (own:=["_law_k"]) (fv:=[0,5]) (by kernel_rfl)) (qB0 rfl qAR (qA0 (pv 1) qA2)) (fun z4=>qBF 0) (fun z4=>qB2) (fun z4=>(qAS qEE hr rfl (qA0 (pv 1) (qA0 (qHH (qAL qM1 (pv 0) (pv 2) (qAQ _)) (pv 0) (qAM qDS (pv 0) (pv 2))) qA2)))) (by kernel_rfl)) (qA6 (qAI (qAD qAF rfl qAK qAP (qA0 (qC6 rfl (lcs (own:=["_law_k","_law_needs"]) (fv:=[5]) (by kernel_rfl)) (qRH rfl qBK qCM (qA0 (pv 4) qA2)) (fun z5=>qI0 (K:=K) (n:=2) rfl rfl (qB7 (qBF 0) (qB7 (qBF 1) qE6)) rfl rfl) (fun z5=>qB2) (fun z5=>(qHH (qAL qM1 (pv 0) (pv 2) (qAQ _)) (pv 1) (qAD (qFL (K:=K) rfl) rfl qAK qAP (qA0 (qC6 (X:=lcCx _ _ _ _ z5) rfl (lcs (own:=["_law_n"]) (fv:=[2]) (by kernel_rfl)) (qN2 (K:=K) rfl (pv 1)) (fun z6=>qBF 0) (fun z6=>qB2) (fun z6=>(qAM qD2 (pv 0) (pv 1)))) qA2))))) qA2)))))) qAO) (qA6 (qAI (qAD qAF rfl qAK qAP (qA0 (qC6 rfl (lcs (own:=["_law_k"]) (fv:=[0]) (by kernel_rfl)) (qB0 rfl qAR (qA0 (pv 1) qA2)) (fun z7=>qBF 0) (fun z7=>qB2) (fun z7=>(qAS qEE hr rfl (qA0 (pv 1) (qA0 (pv 0) qA2))))) qA2)))))))))),?_⟩
 try dsimp only [Cx.nox,Cx.wish,cxOf]
 refine cut fun N1 hN1=>?_;refine ⟨_,rfl,d,c,t,ns,8,rfl,S,(by show t<=1000000000;lia),by decide,by decide,fun way ns1 H1 w0 w8 S1 K1=>?_⟩
 refine hN1 _ _ (cut fun N2 hN2=>?_);refine ⟨_,rfl,d,c,t+1,ns1,4,rfl,S1,(by show t+1<=1000000000;lia),by decide,by decide,fun wd ns2 H2 wd0 wd4 S2 K2=>⟨_,_,rfl,rfl,?_⟩⟩
 dsimp only;have K12:=K1.trans K2;generalize hwide:(1:Int)+wd=wide;have wi0:1<=wide:=by lia
 have wi4:wide<=4:=by lia
 refine hN2 _ _ (cut fun N3 hN3=>?_);refine ⟨_,rfl,rfl,_,rfl,?_⟩;refine ite2 (fun _=>?_) (fun _=>?_)
 ·refine ⟨_,rfl,m,rfl,by lia,by lia,fun p hp=>?_⟩
  refine qCI (p:=p) (lo:=0) (n:=m.toNat) (fun i σ Hc=>∃ (v:Option V) (rs:List Addr) (Ae:List (List Int)),σ=[v,some (.int wide)]/\Same H2 Hc/\Hc p=some (.lst (rs.map V.ref))/\NetL Hc rs Ae/\Ae.length=i/\WFn Ae) ?_ ?_ ?_
  ·exact ⟨none,[],[],rfl,qA3 hp _,qA1,.nil,rfl,WFn.nil⟩
  ·refine fun i σ Hc hi hI_1=>opq fun G_1 hG_1=>?_;obtain ⟨v,rs,Ae,rfl,sm,hpc,N,hl,wf⟩:=hI_1;refine hG_1 ?_;refine ⟨_,rfl,_,rfl,_,_,rfl,rfl,0,_,rfl,_,rfl,_,_,rfl,fun p1 hp1=>?_⟩;refine ⟨p1,_,_,rfl,qA1,by split <;> lia,by split <;> lia,by lia,by lia,fun r hr1=>?_⟩
   have lo0:0<=(if (0+(i:Int)) - wide > 0 then (0+(i:Int)) - wide else 0):=by split <;> lia
   have hri:=qHV (hi:=0+(i:Int)) lo0;dsimp only;rw [qHU];generalize qB8 (if (0+(i:Int)) - wide > 0 then (0+(i:Int)) - wide else 0) (0+(i:Int))=zs at hri ⊢
   generalize HO.rng (if (0+(i:Int)) - wide > 0 then (0+(i:Int)) - wide else 0) (0+(i:Int))=ho at hp1 hr1 ⊢
   have s1:=(qA3 hp1 ho).trans (qA3 hr1 (.tup (zs.map V.int)));have g1:=s1 _ _ hpc;refine ⟨_,g1,qAH (by rw [A0,NetAt.len N];lia),?_⟩
   rw [qBO];refine ⟨_,rs++[r],Ae++[zs],rfl,qAG (sm.trans s1) hp,qA1,qDC (qCH (N.same fun r' ys e=>s1 _ _ e) qA1) g1,by rw [A7,B4,hl],wf.snoc ?_⟩
   rw [hl];exact hri.mono (by lia)
  ·refine fun σ Hc hI_2=>opq fun G_2 hG_2=>?_;obtain ⟨v,rs,Ae,rfl,sm,hpc,N,hl,wf⟩:=hI_2;refine hG_2 ?_;refine ⟨p,_,rfl,.inl ⟨SqL.of hpc,fun a ha=>?_⟩⟩;have s1:=qA3 ha (.tup (rs.map V.ref));exact q a Ae (t+1+1) ns2 _ (S2.same (sm.trans s1)) (by lia) (by lia) (K12.trans (.of_same (sm.trans s1))) ⟨rs,qA1,N.same fun r ys e=>s1 _ _ e⟩ wf (by rw [hl];lia)
 refine hN3 _ _ (cut fun N4 hN4=>?_);refine ⟨_,rfl,rfl,_,rfl,?_⟩;refine ite2 (fun _=>?_) (fun _=>?_)
 ·refine ⟨_,rfl,m,rfl,by lia,by lia,fun p hp=>?_⟩
  refine qCI (p:=p) (lo:=0) (n:=m.toNat) (fun i σ Hc=>∃ (v:Option V) (rs:List Addr) (ls:List (List Int)),σ=[v,some (.int wide)]/\Same H2 Hc/\Hc p=some (.lst (rs.map V.ref))/\Paired (fun r zs=>r ≠ p/\Hc r=some (.lst (zs.map V.int))) rs ls/\ls.length=i/\
   ∀ (j:Nat) zs,ls[j]?=some zs->zs.length<=2/\∀ x ∈ zs,0<=x/\x<(j:Int)) ?_ ?_ ?_
  ·exact ⟨none,[],[],rfl,qA3 hp _,qA1,.nil,rfl,fun j zs e=>by simp at e⟩
  ·refine fun i σ Hc hi hI_3=>opq fun G_3 hG_3=>?_;obtain ⟨v,rs,ls,rfl,sm,hpc,N,hl,wf⟩:=hI_3;refine hG_3 ?_;refine ⟨_,rfl,_,rfl,_,_,rfl,rfl,(by show 1<=sizeLine;decide),fun a1 ha1=>?_⟩
   refine ⟨_,rfl,_,rfl,_,_,rfl,rfl,.inr ⟨_,rfl,?_⟩⟩;refine ⟨a1,_,_,rfl,rfl,qA1,by split <;> decide,by split <;> decide,?_,fun a2 ha2=>?_⟩
   ·have:∀ b:Bool,[V.int (0+(i:Int) - wide)].length * (if b=true then (1:Int) else 0).toNat<=sizeLine:=by intro b;cases b <;> simp [sizeLine_eq]
    exact this _
   dsimp only;rw [qYV];refine ⟨_,rfl,_,_,rfl,rfl,(by show 1<=sizeLine;decide),fun a3 ha3=>?_⟩
   refine ⟨_,rfl,_,rfl,_,_,rfl,rfl,(by show 0<wide;lia),_,_,rfl,rfl,.inr ⟨_,rfl,?_⟩⟩
   refine ⟨a3,_,_,rfl,rfl,qA1,by split <;> decide,by split <;> decide,?_,fun a4 ha4=>?_⟩
   ·have:∀ b:Bool,[V.int (0+(i:Int) - 1)].length * (if b=true then (1:Int) else 0).toNat<=sizeLine:=by intro b;cases b <;> simp [sizeLine_eq]
    exact this _
   dsimp only;rw [qYV];have b1:∀ x ∈ (if decide (wide<=0+(i:Int))=true then [0+(i:Int) - wide] else []),0<=x/\x<(i:Int):=by
    intro x hx
    split at hx
    ·rename_i hd
     have:=of_decide_eq_true hd;rw [A8.mp hx];lia
    ·cases hx
   have b2:∀ x ∈ (if decide (0<(0+(i:Int)) % wide)=true then [0+(i:Int) - 1] else []),0<=x/\x<(i:Int):=by
    intro x hx
    split at hx
    ·rename_i hd
     have hd':=of_decide_eq_true hd;have:(i:Int) ≠ 0:=by
      intro e;rw [e] at hd';simp at hd'
     rw [A8.mp hx];lia
    ·cases hx
   have c1:(if decide (wide<=0+(i:Int))=true then [0+(i:Int) - wide] else []).length<=1:=by split <;> simp
   have c2:(if decide (0<(0+(i:Int)) % wide)=true then [0+(i:Int) - 1] else []).length<=1:=by split <;> simp
   generalize (if decide (wide<=0+(i:Int))=true then [0+(i:Int) - wide] else [])=z1 at b1 c1 ha3 ha4 ⊢
   generalize (if decide (0<(0+(i:Int)) % wide)=true then [0+(i:Int) - 1] else [])=z2 at b2 c2 ⊢
   have s2:=(qA3 ha3 (.lst [.int (0+(i:Int) - 1)])).trans (qA3 ha4 (.lst (z2.map V.int)));refine ⟨a2,a4,_,_,rfl,rfl,s2 _ _ qA1,qA1,T6 (qAH (by rw [A0,A0];lia)),fun a5 ha5=>?_⟩
   have s1:=(qA3 ha1 (.lst [.int (0+(i:Int) - wide)])).trans (qA3 ha2 (.lst (z1.map V.int)));have s3:=(s1.trans s2).trans (qA3 ha5 (.lst (z1.map V.int++z2.map V.int)));have e5:z1.map V.int++z2.map V.int=(z1++z2).map V.int:=by rw [B0]
   rw [e5] at s3 ⊢;have g1:=s3 _ _ hpc;have n5:a5 ≠ p:=(qA7 ((s1.trans s2) _ _ hpc) ha5).symm;refine ⟨_,g1,qAH (by rw [A0,C6 N];lia),?_⟩
   rw [qBO];refine ⟨_,rs++[a5],ls++[z1++z2],rfl,qAG (sm.trans s3) hp,qA1,Z8 (qJA N fun r zs e=>⟨e.1,by rw [qAC e.1];exact s3 _ _ e.2⟩) ⟨n5,by rw [qAC n5];exact qA1⟩,by rw [A7,B4,hl],fun j zs e=>?_⟩
   rcases qO8 e with e | ⟨rfl,rfl⟩
   ·exact wf j zs e
   ·rw [hl];refine ⟨by rw [A7];lia,fun x hx=>?_⟩
    rcases B1.mp hx with hx | hx
    ·exact b1 x hx
    ·exact b2 x hx
  ·refine fun σ Hc hI_4=>opq fun G_4 hG_4=>?_;obtain ⟨v,rs,ls,rfl,sm,hpc,N,hl,wf⟩:=hI_4;refine hG_4 ?_;refine ⟨_,rfl,p,rfl,⟨_,SqL.of hpc⟩,fun p' hp'=>?_⟩;refine qDJ (p:=p') (a:=p) (xs:=rs.map V.ref) (fun i σ Hd=>∃ (v:Option V) (rs':List Addr) (Ae:List (List Int)),σ=[v]/\Same Hc Hd/\Hd p'=some (.lst (rs'.map V.ref))/\NetL Hd rs' Ae/\Ae.length=i/\WFn Ae) ?_ ?_ ?_ ?_
   ·exact ⟨none,[],[],rfl,qA3 hp' _,qA1,.nil,rfl,WFn.nil⟩
   ·rintro i σ Hd hi ⟨v,rs',Ae,rfl,sm2,_⟩;exact SqL.of (sm2 _ _ hpc)
   ·refine fun i x σ Hd hx hI_6=>opq fun G_6 hG_6=>?_;obtain ⟨v,rs',Ae,rfl,sm2,hpd,N2,hl2,wf2⟩:=hI_6;obtain ⟨r,hr1,rfl⟩:=qES hx;obtain ⟨zs,hz,_,hr2⟩:=qBH N hr1;obtain ⟨l2,m2⟩:=wf i zs hz;refine hG_6 ?_;refine ⟨_,rfl,r,zs,rfl,SqL.of (sm2 _ _ hr2),by lia,fun a ha=>?_⟩
    refine ⟨a,dedI zs,rfl,.inr (.inr qA1),T9 (qHK zs) (by lia),fun b ys hb hpm hs=>?_⟩
    refine ⟨b,_,rfl,.inl ⟨SqL.of qA1,fun r2 hr3=>?_⟩⟩;have s1:=((qA3 ha (SetO w a (dedI zs))).trans (qA3 hb (.lst (ys.map V.int)))).trans (qA3 hr3 (.tup (ys.map V.int)));have g1:=s1 _ _ hpd;have lrs:rs.length=m.toNat:=by rw [C6 N,hl]
    have hi:i<rs.length:=(A5.mp hr1).1;refine ⟨_,g1,qAH (by rw [A0,NetAt.len N2];lia),?_⟩
    rw [qBO];refine ⟨_,rs'++[r2],Ae++[ys],rfl,qAG (sm2.trans s1) hp',qA1,qDC (qCH (N2.same fun r' zs' e=>s1 _ _ e) qA1) g1,by rw [A7,B4,hl2],wf2.snoc ?_⟩
    rw [hl2];exact qKA hpm hs m2
   ·refine fun σ Hd hI_7=>opq fun G_7 hG_7=>?_;obtain ⟨v,rs',Ae,rfl,sm2,hpd,N2,hl2,wf2⟩:=hI_7;refine hG_7 ?_;refine ⟨p',_,rfl,.inl ⟨SqL.of hpd,fun a ha=>?_⟩⟩;have s1:=qA3 ha (.tup (rs'.map V.ref));refine q a Ae (t+1+1) ns2 _ (S2.same ((sm.trans sm2).trans s1)) (by lia) (by lia) (K12.trans (.of_same ((sm.trans sm2).trans s1))) ⟨rs',qA1,N2.same fun r ys e=>s1 _ _ e⟩ wf2 ?_
    rw [hl2,A0,C6 N,hl]
    lia
 refine hN4 _ _ (cut fun N5 hN5=>?_);refine ⟨_,rfl,rfl,_,rfl,?_⟩;refine ite2 (fun _=>?_) (fun _=>?_)
 ·refine ⟨_,rfl,_,rfl,d,c,t+1+1,ns2,m,rfl,S2,?_,hm0,hm1,fun a Ae t' ms H' a1 a2 a3 a4 a5 a6 a7=>?_⟩
  ·show t+1+1<=1000000000 - 1000;lia
  ·exact q a Ae t' ms H' a1 (by lia) (by lia) (K12.trans a4) a5 a6 a7
 refine hN5 _ _ (cut fun N6 hN6=>?_);refine ⟨_,rfl,rfl,_,rfl,?_⟩;refine ite2 (fun _=>?_) (fun _=>?_)
 ·refine ⟨_,rfl,_,_,rfl,rfl,⟨by decide,by decide⟩,?_⟩
  dsimp only;have hf0:0<=m / 2:=by lia
  have hf1:m / 2<=m:=by lia
  generalize m / 2=half at hf0 hf1;refine ⟨_,rfl,m,rfl,by lia,by lia,fun p hp=>?_⟩
  refine qCI (p:=p) (lo:=0) (n:=m.toNat) (fun i σ Hc=>∃ (v:Option V) (t':Int) (ms:List Int) (rs:List Addr) (Ae:List (List Int)),σ=[v,some (.ref d),some (.int half)]/\StAt Hc d c t' ms/\t+2<=t'/\t'<=t+2+9 * i/\Keep d c H2 Hc/\Hc p=some (.lst (rs.map V.ref))/\NetL Hc rs Ae/\Ae.length=i/\
   ∀ (j:Nat) zs,Ae[j]?=some zs->Rise (if (j:Int)<half then (j:Int) else (j:Int) - half) zs) ?_ ?_ ?_
  ·exact ⟨none,t+1+1,ns2,[],[],rfl,S2.new hp _,by lia,by lia,qCS hp _,qA1,.nil,rfl,fun j zs e=>by simp at e⟩
  ·refine fun i σ Hc hi hI_8=>opq fun G_8 hG_8=>?_;obtain ⟨v,t',ms,rs,Ae,rfl,S3,b1,b2,k3,hpc,N,hl,wf⟩:=hI_8;refine hG_8 ?_;have npd:p ≠ d:=(qA7 S2.dict hp).symm;have npc:p ≠ c:=(qA7 S2.list hp).symm;have nx:∀ (kk:Int),kk=(if (i:Int)<half then (i:Int) else (i:Int) - half)->qMX [.ref d,.int kk] Hc (fun y H4=>∃ ys,H4 p=some (.lst ys)/\ys.length<sizeLine/\∃ (v:Option V) (t':Int) (ms:List Int) (rs:List Addr) (Ae:List (List Int)),[some (V.int (0+(i:Int))),some (.ref d),some (.int half)]=[v,some (.ref d),some (.int half)]/\StAt (Ag H4 p (.lst (ys++[y]))) d c t' ms/\t+2<=t'/\t'<=t+2+9 * (i+1:Nat)/\Keep d c H2 (Ag H4 p (.lst (ys++[y])))/\(Ag H4 p (.lst (ys++[y]))) p=some (.lst (rs.map V.ref))/\NetL (Ag H4 p (.lst (ys++[y]))) rs Ae/\Ae.length=i+1/\
     ∀ (j:Nat) zs,Ae[j]?=some zs->Rise (if (j:Int)<half then (j:Int) else (j:Int) - half) zs) E0:=by
    intro kk ek;refine ⟨d,c,t',ms,kk,rfl,S3,(by show t'<=1000000000 - 20;lia),by rw [ek];split <;> lia,by rw [ek];split <;> lia,fun r zs t'' ms2 H3 e1 e2 e3 e4 e5 e6=>?_⟩
    have g1:=e4 _ _ hpc npd npc;refine ⟨_,g1,qAH (by rw [A0,NetAt.len N];lia),?_⟩
    rw [qBO];refine ⟨_,t'',ms2,rs++[r],Ae++[zs],rfl,⟨by rw [qAC (J4 npd)];exact e1.dict,by rw [qAC (J4 npc)];exact e1.list,e1.ne,e1.len,e1.pos⟩,by lia,by lia,qKH (k3.trans e4) hp,qA1,qDC (qCH (N.keep (fun r ys e=>S3.tup e) e4) e5) g1,by rw [A7,B4,hl],fun j ys e=>?_⟩
    rcases qO8 e with e | ⟨rfl,rfl⟩
    ·exact wf j ys e
    ·rw [hl,<- ek];exact e6
   refine ⟨_,rfl,_,rfl,_,rfl,_,_,rfl,rfl,_,rfl,?_⟩;refine ite2 (fun ck=>?_) (fun ck=>?_)
   ·have ck':0+(i:Int)<half:=of_decide_eq_true ck;exact ⟨_,rfl,nx _ (by rw [if_pos (by lia)];lia)⟩
   ·have ck':¬ 0+(i:Int)<half:=of_decide_eq_false (F5.mpr ck);exact ⟨_,rfl,_,rfl,_,_,rfl,rfl,nx _ (by rw [if_neg (by lia)];lia)⟩
  ·refine fun σ Hc hI_9=>opq fun G_9 hG_9=>?_;obtain ⟨v,t',ms,rs,Ae,rfl,S3,b1,b2,k3,hpc,N,hl,wf⟩:=hI_9;refine hG_9 ?_;have lrs:rs.length=m.toNat:=by rw [C6 N,hl]
   refine ⟨_,rfl,p,rfl,⟨_,SqL.of hpc⟩,fun p' hp'=>?_⟩;refine qNF (p:=p') (a:=p) (xs:=rs.map V.ref) (fun i σ Hd=>∃ (v1 v2:Option V) (rs':List Addr) (net':List (List Int)),σ=[v1,v2,some (.int half)]/\Same Hc Hd/\Hd p'=some (.lst (rs'.map V.ref))/\NetL Hd rs' net'/\net'.length=i/\WFn net') ?_ ?_ ?_ ?_
   ·exact ⟨none,none,[],[],rfl,qA3 hp' _,qA1,.nil,rfl,WFn.nil⟩
   ·rintro i σ Hd hi ⟨v1,v2,rs',net',rfl,sm2,_⟩;exact SqL.of (sm2 _ _ hpc)
   ·refine fun i x σ Hd T hx hI_11 hT=>opq fun G_11 hG_11=>?_;obtain ⟨v1,v2,rs',net',rfl,sm2,hpd,N2,hl2,wf2⟩:=hI_11;obtain ⟨r,hr1,rfl⟩:=qES hx;obtain ⟨zs,hz,hr2⟩:=qBH N hr1;refine hG_11 ?_;have hi:i<rs.length:=(A5.mp hr1).1;have rz:=wf i zs hz;have sT:=qA3 hT (.tup [.int (i:Int),.ref r]);have hrT:=sT _ _ (sm2 _ _ hr2);have hpT:=sT _ _ hpd;have NT:=N2.same fun r' zs' e=>sT _ _ e;have smT:=sm2.trans sT;have gT:SqT K (Ag Hd T (.tup [.int (i:Int),.ref r])) T [.int (i:Int),.ref r]:=SqT.of qA1;generalize Ag Hd T (.tup [.int (i:Int),.ref r])=HT' at hrT hpT NT smT gT ⊢;refine ⟨T,_,rfl,gT,rfl,_,_,rfl,_,_,rfl,rfl,?_⟩;refine ⟨_,rfl,_,rfl,_,_,rfl,rfl,_,rfl,?_⟩;refine ite2 (fun ck=>?_) (fun ck=>?_)
    ·have ck':(i:Int)<half:=of_decide_eq_true ck;rw [if_pos ck'] at rz;refine ⟨_,rfl,_,hpT,qAH (by rw [A0,NetAt.len N2];lia),?_⟩
     rw [qBO];refine ⟨_,_,rs'++[r],net'++[zs],rfl,qAG smT hp',qA1,qDC (qCH NT hrT) hpT,by rw [A7,B4,hl2],wf2.snoc ?_⟩
     rw [hl2];exact rz
    ·have ck':¬ (i:Int)<half:=of_decide_eq_false (F5.mpr ck);rw [if_neg ck'] at rz;have lz:zs.length<=i:=by
      have e:((i:Int) - half)=(((i:Int) - half).toNat:Nat):=by lia
      rw [e] at rz;have:=rz.len
      lia
     refine ⟨_,rfl,r,rfl,⟨_,SqT.of hrT⟩,fun p2 hp2=>?_⟩;refine qER (p:=p2) (a:=r) (xs:=zs.map V.int) (fun j σ He=>∃ (v:Option V),σ=[v,some (.int half)]/\Same HT' He/\He p2=some (.lst (((zs.take j).map (·+half)).map V.int))) ?_ ?_ ?_ ?_
     ·exact ⟨none,rfl,qA3 hp2 _,qA1⟩
     ·rintro j σ He hj ⟨v,rfl,sm3,_⟩;exact SqT.of (sm3 _ _ hrT)
     ·refine fun j x σ He hx2 hI_13=>opq fun G_13 hG_13=>?_;obtain ⟨v,rfl,sm3,hp3⟩:=hI_13;obtain ⟨z,hz2,rfl⟩:=qBB hx2;refine hG_13 ?_;refine ⟨_,rfl,_,rfl,_,_,rfl,rfl,_,hp3,qAH (by rw [A0,A0,B9];lia),_,rfl,qAG sm3 hp2,?_⟩
      rw [qA1,C7,hz2,C8,B0,B0]
      rfl
     ·refine fun σ He hI_14=>opq fun G_14 hG_14=>?_;obtain ⟨v,rfl,sm3,hp3⟩:=hI_14;refine hG_14 ?_;rw [A0,D3 (A6 _)] at hp3;refine ⟨p2,_,rfl,.inl ⟨SqL.of hp3,fun r2 hr3=>?_⟩⟩;have s1:=qA3 hr3 (.tup ((zs.map (·+half)).map V.int));have s2:=sm3.trans s1;have g1:=s2 _ _ hpT;refine ⟨_,g1,qAH (by rw [A0,NetAt.len N2];lia),?_⟩
      rw [qBO];refine ⟨_,_,rs'++[r2],net'++[zs.map (·+half)],rfl,qAG (smT.trans s2) hp',qA1,qDC (qCH (NT.same fun r' zs' e=>s2 _ _ e) qA1) g1,by rw [A7,B4,hl2],wf2.snoc ?_⟩
      rw [hl2];have:=rz.shift hf0;rw [show (i:Int) - half+half=(i:Int) by lia] at this
      exact this
   ·refine fun σ Hd hI_15=>opq fun G_15 hG_15=>?_;obtain ⟨v1,v2,rs',net',rfl,sm2,hpd,N2,hl2,wf2⟩:=hI_15;refine hG_15 ?_;refine ⟨p',_,rfl,.inl ⟨SqL.of hpd,fun a ha=>?_⟩⟩;have s1:=qA3 ha (.tup (rs'.map V.ref));refine q a net' t' ms _ (S3.same (sm2.trans s1)) (by lia) (by lia) (K12.trans (k3.trans (.of_same (sm2.trans s1)))) ⟨rs',qA1,N2.same fun r ys e=>s1 _ _ e⟩ wf2 ?_
    rw [hl2,A0,C6 N,hl]
    lia
 refine hN6 _ _ ?_;refine ⟨_,rfl,m,rfl,by lia,by lia,fun p hp=>?_⟩
 refine qCI (p:=p) (lo:=0) (n:=m.toNat) (fun i σ Hc=>∃ (v:Option V) (t':Int) (ms:List Int) (rs:List Addr) (Ae:List (List Int)),σ=[v,some (.ref d)]/\StAt Hc d c t' ms/\t+2<=t'/\t'<=t+2+9 * i/\Keep d c H2 Hc/\Hc p=some (.lst (rs.map V.ref))/\NetL Hc rs Ae/\Ae.length=i/\WFn Ae) ?_ ?_ ?_
 ·exact ⟨none,t+1+1,ns2,[],[],rfl,S2.new hp _,by lia,by lia,qCS hp _,qA1,.nil,rfl,WFn.nil⟩
 ·refine fun i σ Hc hi hI_16=>opq fun G_16 hG_16=>?_;obtain ⟨v,t',ms,rs,Ae,rfl,S3,b1,b2,k3,hpc,N,hl,wf⟩:=hI_16;refine hG_16 ?_;have npd:p ≠ d:=(qA7 S2.dict hp).symm;have npc:p ≠ c:=(qA7 S2.list hp).symm;refine ⟨_,rfl,_,rfl,d,c,t',ms,0+(i:Int),rfl,S3,(by show t'<=1000000000 - 20;lia),by lia,by lia,fun r zs t'' ms2 H3 e1 e2 e3 e4 e5 e6=>?_⟩
  have g1:=e4 _ _ hpc npd npc;refine ⟨_,g1,qAH (by rw [A0,NetAt.len N];lia),?_⟩
  rw [qBO];refine ⟨_,t'',ms2,rs++[r],Ae++[zs],rfl,⟨by rw [qAC (J4 npd)];exact e1.dict,by rw [qAC (J4 npc)];exact e1.list,e1.ne,e1.len,e1.pos⟩,by lia,by lia,qKH (k3.trans e4) hp,qA1,qDC (qCH (N.keep (fun r ys e=>S3.tup e) e4) e5) g1,by rw [A7,B4,hl],wf.snoc ?_⟩
  rw [hl];exact e6.mono (by lia)
 ·refine fun σ Hc hI_17=>opq fun G_17 hG_17=>?_;obtain ⟨v,t',ms,rs,Ae,rfl,S3,b1,b2,k3,hpc,N,hl,wf⟩:=hI_17;refine hG_17 ?_;refine ⟨p,_,rfl,.inl ⟨SqL.of hpc,fun a ha=>?_⟩⟩;have s1:=qA3 ha (.tup (rs.map V.ref));exact q a Ae t' ms _ (S3.same s1) (by lia) (by lia) (K12.trans (k3.trans (.of_same s1))) ⟨rs,qA1,N.same fun r ys e=>s1 _ _ e⟩ wf (by rw [hl];lia)
theorem qUK {k:Int} (h0:0<=k) (h1:k<4):∃ v,atI [V.int 0,V.int 0,V.int 1,V.int 3] k=some (.int v)/\0<=v/\v<=3:=by
 rcases (by lia:k=0\/k=1\/k=2\/k=3) with rfl | rfl | rfl | rfl
 all_goals exact ⟨_,rfl,by decide,by decide⟩
theorem sc_Lasked:FnScope ["_law_state","_law_net_here","_law_found","_law_turn"] ["_law_state","_law_net_here"] (qAE qHF):=qBP
theorem ok_Lasked (F:Fun K "_law_asked" "_law_asked" qHF f fd)
  (qAT:Clb P w K mg base 1 qDL qDE "_law_take" ["_law_state","_law_many"] qFP)
  (qAZ:mg "len" = none) (qQQ:mg "min" = none) (qAR:mg "range" = none) (qMU:mg "set" = none) (qBT:mg "sorted" = none) (qAK:mg "tuple" = none):FnOk P w K mg base CX0 2 f fd ["_law_state","_law_net_here"] qR3:=by
 refine F.okA sc_Lasked fun cdv A outer s H vs Q E hr h=>?_;obtain ⟨d,c,t,ns,a,Ae,rfl,S,ht,hN,wf,n1,n400,q⟩:=h;have ht':t<=1000000000 - 100:=ht;have qOZ:Room 1 _:=hr;refine ⟨_,(qA4 (qAJ (i:=2) sc_Lasked.nd rfl (E8 rfl) (qB4 (qA0 (qAM qDS (qAM qDS (qA9 qAA rfl qAZ qAY (qA0 (pv 1) qA2)) qA8) (qAS qAT hr rfl (qA0 (pv 0) (qA0 (qA9 (qIL rfl) rfl qQQ qTH (qA0 (qA9 qAA rfl qAZ qAY (qA0 (pv 1) qA2)) (qA0 qA8 qA2))) qA2)))) qA2))) (qA4 (qBY E1 rfl (qB0 rfl qAR (qA0 (qBL qC1 (qB4 (qA0 qA8 (qA0 qA8 (qA0 qA8 (qA0 qA8 qA2))))) (qAS qAT hr rfl (qA0 (pv 0) (qA0 qA8 qA2))) (fun _ _=>rfl)) qA2)) (qAW (i:=3) sc_Lasked.nd rfl (E8 rfl)) (qA6 (qGJ (qPY P4 Q6 Q7 qDW (pv 2) (qA0 (qAS qAT hr rfl (qA0 (pv 0) (qA0 (qA9 qAA rfl qAZ qAY (qA0 (pv 1) qA2)) qA2))) qA2))))) (qA6 (qAI (qAD qAF rfl qAK qAP (qA0 (qA9 (qCE rfl) rfl qBT qD6 (qA0 (qAD (qL2 rfl) rfl qMU qPA (qA0 (pv 2) qA2)) qA2)) qA2)))))),?_⟩
 try dsimp only [Cx.nox,Cx.wish,cxOf]
 obtain ⟨rs,hA,NL⟩:=id hN;have lrv:(((rs.map V.ref).length:Nat):Int)=(Ae.length:Int):=by rw [A0,C6 NL]
 refine ⟨_,rfl,a,_,rfl,.inr (SqT.of hA),_,_,rfl,rfl,?_⟩;refine ⟨_,rfl,_,rfl,a,_,rfl,.inr (SqT.of hA),_,_,rfl,?_⟩;refine ⟨d,c,t,ns,_,rfl,S,(by show t<=1000000000;lia),by split <;> lia,by split <;> lia,fun k ns1 H1 k0 k1 S1 K1=>?_⟩
 have kb:0<=(Ae.length:Int) - 1 - k/\(Ae.length:Int) - 1 - k<(Ae.length:Int):=by
  rw [lrv] at k1
  split at k1 <;> lia
 refine ⟨_,_,rfl,rfl,(by show 1<=sizeLine;decide),fun fo hfo=>?_⟩
 dsimp only;rw [lrv];generalize (Ae.length:Int) - 1 - k=x0 at kb;have npd:fo ≠ d:=(qA7 S1.dict hfo).symm;have npc:fo ≠ c:=(qA7 S1.list hfo).symm;have S2:=S1.new hfo (.lst [.int x0]);have k2:=K1.trans (qCS (d:=d) (c:=c) hfo (.lst [.int x0]));have ffo:∀ o,H fo=some o->False:=fun o z=>by
  by_cases e1:fo=d
  ·exact npd e1
  ·by_cases e2:fo=c
   ·exact npc e2
   ·have:=K1 fo o z e1 e2;rw [hfo] at this;cases this
 have gfo:(Ag H1 fo (.lst [.int x0])) fo=some (.lst ([x0].map V.int)):=qA1;generalize Ag H1 fo (.lst [.int x0])=H2 at S2 k2 gfo;refine ⟨(by show 4<=sizeLine;decide),fun p hp=>?_⟩
 have np2d:p ≠ d:=(qA7 S2.dict hp).symm;have np2c:p ≠ c:=(qA7 S2.list hp).symm;have sp:=qA3 hp (.lst [.int 0,.int 0,.int 1,.int 3]);refine ⟨_,rfl,d,c,t+1,ns1,4,rfl,S2.same sp,(by show t+1<=1000000000;lia),by decide,by decide,fun j ns3 H3 j0 j1 S3 K3=>?_⟩
 have gp:=K3 _ _ qA1 np2d np2c;have gfo3:=K3 _ _ (sp _ _ gfo) npd npc;have k3:=(k2.trans (.of_same sp)).trans K3;obtain ⟨m,hm,m0,m3⟩:=qUK j0 j1;refine ⟨p,_,_,_,rfl,rfl,SqL.of gp,hm,m,rfl,by lia,by lia,qDX (lo:=0) (n:=m.toNat) (fun i σ Hc=>∃ (t':Int) (ms fs:List Int) (v3:Option V),σ=[some (.ref d),some (.ref a),some (.ref fo),v3]/\StAt Hc d c t' ms/\t+2<=t'/\t'<=t+2+i/\Keep d c H Hc/\Hc fo=some (.lst (fs.map V.int))/\fs.length=i+1/\∀ x ∈ fs,0<=x/\x<(Ae.length:Int))
  ⟨t+1+1,ns3,[x0],none,rfl,S3,by lia,by lia,k3,gfo3,rfl,fun x hx=>by rw [A8.mp hx];exact kb⟩ ?_ ?_⟩
 ·refine fun i σ Hc hi hI_1=>opq fun G_1 hG_1=>?_;obtain ⟨t',ms,fs,v3,rfl,S4,b1,b2,k4,gf,lf,fb⟩:=hI_1;refine hG_1 ?_;have hN4:=hN.keep S k4;obtain ⟨rs,hA,NL⟩:=id hN4;have lrv:(((rs.map V.ref).length:Nat):Int)=(Ae.length:Int):=by rw [A0,C6 NL]
  refine ⟨_,rfl,.inl ⟨rfl,_,SqL.of gf⟩,_,rfl,_,rfl,a,_,rfl,.inr (SqT.of hA),d,c,t',ms,_,rfl,S4,(by show t'<=1000000000;lia),by rw [lrv];lia,by rw [lrv];lia,fun x ms5 H5 x0 x1 S5 K5=>?_⟩
  rw [lrv] at x1;have gf5:=K5 _ _ gf npd npc;refine ⟨fo,_,_,rfl,rfl,gf5,qAH (by rw [A0];lia),?_⟩
  refine ⟨t'+1,ms5,fs++[x],_,rfl,⟨by rw [qAC (J4 npd)];exact S5.dict,by rw [qAC (J4 npc)];exact S5.list,S5.ne,S5.len,S5.pos⟩,by lia,by lia,fun b u e n1 n2=>?_,by rw [qA1,B0];rfl,by rw [A7,B4,lf],fun y hy=>?_⟩
  ·by_cases e3:b=fo
   ·subst e3;exact (ffo _ e).elim
   ·rw [qAC e3];exact (k4.trans K5) b u e n1 n2
  ·rcases B1.mp hy with hy | hy
   ·exact fb y hy
   ·rw [A8.mp hy];exact ⟨x0,x1⟩
 ·refine fun σ Hc hI_2=>opq fun G_2 hG_2=>?_;obtain ⟨t',ms,fs,v3,rfl,S4,b1,b2,k4,gf,lf,fb⟩:=hI_2;refine hG_2 ?_;refine ⟨_,rfl,fo,fs,rfl,SqL.of gf,by lia,fun e he=>?_⟩
  have ld:=qHK fs;refine ⟨e,dedI fs,rfl,.inr (.inr qA1),by lia,fun b ys hb hpm hs=>?_⟩
  refine ⟨b,_,rfl,.inl ⟨SqL.of qA1,fun r hr3=>?_⟩⟩;have s1:=((qA3 he (SetO w e (dedI fs))).trans (qA3 hb (.lst (ys.map V.int)))).trans (qA3 hr3 (.tup (ys.map V.int)));have ne:fs ≠ []:=fun z=>by rw [z] at lf;simp at lf
  obtain ⟨y,hy⟩:=List.exists_mem_of_ne_nil fs ne;refine q r ys t' ms _ (S4.same s1) (by lia) (by lia) (k4.trans (.of_same s1)) qA1 (qKA hpm hs fb) (j7 (hpm.mem_iff.mpr (mem_dedI.mpr hy)))
theorem qLQ:FnScope ["thing"] ["thing"] (qAE qE0):=qBP
theorem ok_is_number (F:Fun K "is_number" "is_number" qE0 f fd) (qAN:mg "isinstance" = none) (qL8:mg "int" = none) (qJ0:mg "bool" = none):FnOk P w K mg base CX0 1 f fd ["thing"] qVQ:=by
 refine F.okA qLQ fun cdv A outer s H vs Q E hr h=>?_;obtain ⟨x,n,d,rfl,D,q⟩:=h;refine ⟨_,(qA6 (qAI (qLZ (qA9 qB6 rfl qAN qAU (qA0 (pv 0) (qA0 (qD1 (v:=.ty "int") rfl qL8 qMK rfl) qA2))) (qLY (qW0 (qA9 qB6 rfl qAN qAU (qA0 (pv 0) (qA0 (qD1 (v:=.ty "bool") rfl qJ0 qNX rfl) qA2)))))))),?_⟩
 try dsimp only [Cx.nox,Cx.wish,cxOf]
 obtain ⟨t,ty,k1,k2,k3⟩:=qJ1 (K:=K) D;refine ⟨_,rfl,x,"int",t,_,rfl,ty,k1,_,rfl,?_⟩;have e:numB d=((numB d || qL4 d) && !qL4 d):=by cases d <;> rfl
 cases c:(numB d || qL4 d) with
 | false=>
  rw [if_neg C1];rw [c,E2] at e;rw [e] at q;exact q
 | true=>
  rw [if_pos rfl];rw [c,J5] at e;rw [e] at q;exact ⟨_,rfl,x,"bool",t,_,rfl,ty,k2,_,rfl,q⟩
theorem qMZ:FnScope ["thing","end"] ["thing","end"] (qAE qF4):=qBP
theorem ok_is_below (F:Fun K "is_below" "is_below" qF4 f fd) (qIQ:Clb P w K mg base 1 qFH qMB "is_number" ["thing"] qVQ):FnOk P w K mg base CX0 2 f fd ["thing","end"] qO7:=by
 refine F.okA qMZ fun cdv A outer s H vs Q E hr h=>?_;obtain ⟨x,n,d,e,rfl,D,q⟩:=h;refine ⟨_,(qA6 (qAI (qLZ (qAS qIQ hr rfl (qA0 (pv 0) qA2)) (qLY (qUN qX8 qM1 qA8 (pv 0) (pv 1)))))),?_⟩
 try dsimp only [Cx.nox,Cx.wish,cxOf]
 refine ⟨_,rfl,x,n,d,rfl,D,_,rfl,?_⟩;cases c:numB d with
 | false=>
  rw [if_neg C1];have e1:qGB e d=false:=by cases d <;> first | rfl | cases c
  rw [e1] at q;exact q
 | true=>
  rw [if_pos rfl];obtain ⟨i,rfl,rfl⟩:=qKW D c;refine ⟨_,rfl,_,_,rfl,rfl,?_⟩;refine ⟨_,rfl,?_⟩;have q:Q (.bl (decide (0<=i) && decide (i<e))) H:=q;cases c1:decide ((0:Int)<=i) with
  | false=>
   rw [c1,E2] at q;exact iteF q
  | true=>
   rw [c1,J5] at q;exact iteT ⟨_,rfl,_,_,rfl,rfl,q⟩
theorem sc_is_rising:FnScope ["thing","end","least","number"] ["thing","end"] (qAE qDZ):=qBP
theorem ok_is_rising (F:Fun K "is_rising" "is_rising" qDZ f fd) (qJR:Clb P w K mg base 2 qGR qNM "is_below" ["thing","end"] qO7) (qAN:mg "isinstance" = none) (qAK:mg "tuple" = none):FnOk P w K mg base CX0 3 f fd ["thing","end"] qHS:=by
 refine F.okA sc_is_rising fun cdv A outer s H vs Q E hr h=>?_;obtain ⟨x,n,d,e,rfl,D,q⟩:=h;refine ⟨_,(qA4 (qBI (qCA (qBX (qA9 qB6 rfl qAN qAU (qA0 (pv 0) (qA0 (qD1 (v:=.ty "tuple") rfl qAK qAP rfl) qA2))))) (qA6 (qAI qC9)) qAO) (qA4 (qAJ (i:=2) sc_is_rising.nd rfl (E8 rfl) qA8) (qA4 (qBY E1 rfl (qDQ (pv 0)) (qAW (i:=3) sc_is_rising.nd rfl (E8 rfl)) (qA4 (qBI (PW.pt (qGI (qCA (qBX (qAS qJR hr rfl (qA0 (pv 3) (qA0 (pv 1) qA2))))) (qF8 (qAL qM1 (pv 3) (pv 2) (qAQ _))))) (qA6 (qAI qC9)) qAO) (qA6 (qAJ (i:=2) sc_is_rising.nd rfl (E8 rfl) (qAM qD2 (pv 3) qA8))))) (qA6 (qAI qC9))))),?_⟩
 try dsimp only [Cx.nox,Cx.wish,cxOf]
 obtain ⟨t,ty,k1,k2,k3⟩:=qJ1 (K:=K) D;refine cut fun N0 hN0=>?_;refine ⟨_,rfl,x,"tuple",t,_,rfl,ty,k3,_,rfl,?_⟩;cases c:tupB d with
 | false=>
  refine iteT ?_;have e1:qE3 e d=false:=by cases d <;> first | rfl | cases c
  rw [e1] at q;exact q
 | true=>
  refine iteF ?_;obtain ⟨m,a,xs,ds,rfl,rfl,rfl,ga,lx,el⟩:=qGU D c;refine hN0 _ _ (cut fun N1 hN1=>?_);refine hN1 _ _ (cut fun N2 hN2=>?_);refine ⟨_,rfl,a,rfl,⟨_,SqT.of ga⟩,qIA (a:=a) (xs:=xs) (fun i σ Hc=>∃ (l:Int) (v3:Option V),Hc=H/\σ=[some (.ref a),some (.int e),some (.int l),v3]/\qEN e 0 ds=qEN e l (ds.drop i)) ⟨0,none,rfl,rfl,rfl⟩ (fun i σ Hc _ ⟨_,_,eh,_⟩=>by rw [eh];exact SqT.of ga) ?_ ?_⟩
  ·refine fun i x σ Hc hx hI_1=>opq fun G_1 hG_1=>?_;obtain ⟨l,v3,rfl,rfl,inv⟩:=hI_1;refine hG_1 ?_;have hi:=(A5.mp hx).1;have hd:i<ds.length:=by lia
   have ed:=A3 hd;have Di:=el i x _ hx ed;have er:ds.drop i=ds[i]::ds.drop (i+1):=c9 hd;generalize ds[i]=d' at ed Di er;refine cut fun M0 hM0=>?_;refine ⟨_,rfl,_,rfl,x,m,d',e,rfl,Di,_,rfl,?_⟩;cases cb:qGB e d' with
   | false=>
    refine iteT ?_;have e1:qE3 e (.tuple ds)=false:=by
     show qEN e 0 ds=false;rw [inv,er];cases d' with
     | int j=>
      have cb:(decide (0<=j) && decide (j<e))=false:=cb;rw [qEN,cb,E2,E2]
     | _=>rfl
    rw [e1] at q;exact q
   | true=>
    have num:numB d'=true:=by cases d' <;> first | rfl | cases cb
    obtain ⟨j,rfl,rfl⟩:=qKW Di num;have cb:(decide (0<=j) && decide (j<e))=true:=cb;refine ⟨_,rfl,_,rfl,_,_,rfl,rfl,_,rfl,?_⟩;by_cases cl:j<l
    ·rw [decide_eq_true cl];refine iteT ?_;have e1:qE3 e (.tuple ds)=false:=by
      show qEN e 0 ds=false;rw [inv,er,qEN,cb,decide_eq_false (by lia)]
      rfl
     rw [e1] at q;exact q
    ·rw [decide_eq_false cl];refine iteF ?_;refine hM0 _ _ ?_;refine ⟨_,rfl,_,_,rfl,rfl,j+1,_,rfl,rfl,?_⟩;rw [inv,er,qEN,cb,decide_eq_true (by lia)]
     rfl
  ·refine fun σ Hc hI_2=>opq fun G_2 hG_2=>?_;obtain ⟨l,v3,rfl,rfl,inv⟩:=hI_2;refine hG_2 ?_;refine hN2 _ _ ?_;have e1:qE3 e (.tuple ds)=true:=by
    show qEN e 0 ds=true;rw [inv,lx,List.drop_length]
    rfl
   rw [e1] at q;exact q
theorem qK3:FnScope ["needs","numbers"] ["needs","numbers"] (qAE qD9):=qBP
theorem ok_renumbered (F:Fun K "renumbered" "renumbered" qD9 f fd) (qAK:mg "tuple" = none):FnOk P w K mg base CX0 1 f fd ["needs","numbers"] qYJ:=by
 refine F.okA qK3 fun cdv A outer s H vs Q E hr h=>?_;obtain ⟨r,d,zs,Af,num,rfl,hR,l1000,hd,hv,q⟩:=h;have hu:=qIU hr;refine ⟨_,(qA6 (qAI (qAD qAF rfl qAK qAP (qA0 (qC6 rfl (lcs (own:=["need"]) (fv:=[1]) (by kernel_rfl)) (qDQ (pv 0)) (fun z1=>qBF 0) (fun z1=>(qCB (qF9 (qRM hu (pv 0) (pv 1))))) (fun z1=>(qGL hu (pv 1) (pv 0) (fun _ _=>rfl)))) qA2)))),?_⟩
 try dsimp only [Cx.nox,Cx.wish,cxOf]
 refine ⟨_,rfl,r,rfl,⟨_,SqT.of hR⟩,fun p hp=>?_⟩;refine qER (p:=p) (a:=r) (xs:=zs.map V.int) (fun i σ Hc=>∃ (v0:Option V),σ=[v0,some (.ref d)]/\Same H Hc/\Hc p=some (.lst (((zs.take i).filterMap num).map V.int))) ?_ ?_ ?_ ?_
 ·exact ⟨none,rfl,qA3 hp _,qA1⟩
 ·rintro i σ Hc hi ⟨v0,rfl,sm,_⟩;exact SqT.of (sm _ _ hR)
 ·refine fun i x σ Hc hx hI_2=>opq fun G_2 hG_2=>?_;obtain ⟨v0,rfl,sm,hpc⟩:=hI_2;obtain ⟨y,ey,rfl⟩:=qBB hx;refine hG_2 ?_;have lt:=(A5.mp ey).1;have hg:=DGet.k (k:=F9 y) (sm _ _ hd);have lk:((zs.take i).filterMap num).length<=i:=J6 (X2 _ _) (by rw [B9];lia)
  refine ⟨_,rfl,_,rfl,d,_,rfl,hg,_,rfl,?_⟩;rw [C7,ey,C8,m8,R5,List.filterMap_nil];rw [hv] at hg ⊢;cases e:num y with
  | none=>
   rw [e] at hg;refine ⟨_,rfl,sm,?_⟩;simpa using hpc
  | some n=>
   rw [e] at hg;refine ⟨_,rfl,_,rfl,d,_,rfl,hg,_,hpc,qAH (by rw [A0];lia),_,rfl,qAG sm hp,?_⟩
   rw [qA1,B0]
   rfl
 ·refine fun σ Hc hI_3=>opq fun G_3 hG_3=>?_;obtain ⟨v0,rfl,sm,hpc⟩:=hI_3;refine hG_3 ?_;rw [A0,qBG rfl] at hpc;refine ⟨p,_,rfl,.inl ⟨SqL.of hpc,fun r' hr'=>?_⟩⟩;exact q r' _ (sm.trans (qA3 hr' _)) qA1
theorem sc_part_net:FnScope ["net","works","numbers","number","work"] ["net","works"] (qAE qF1):=qBP
theorem ok_part_net (F:Fun K "part_net" "part_net" qF1 f fd) (qH1:Clb P w K mg base 1 qEV qKK "renumbered" ["needs","numbers"] qYJ)
  (qBK:mg "enumerate" = none) (qAK:mg "tuple" = none):FnOk P w K mg base CX0 2 f fd ["net","works"] qQY:=by
 refine F.okA sc_part_net fun cdv A outer s H vs Q E hr h=>?_;obtain ⟨a,t,Ae,ws,rfl,hN,wf,n1000,hT,rw',q⟩:=h;have hu:=qIU hr;have qV0:Room 1 _:=hr;have lw:=rw'.len;refine ⟨_,(qA4 (qAJ (i:=2) sc_part_net.nd rfl (o6 rfl) qOK) (qA4 (qBY E1 rfl (qOH rfl qBK qCM (qA0 (pv 1) qA2)) (qLX rfl (qB7 (qAW (i:=3) sc_part_net.nd rfl (E8 rfl)) (qB7 (qAW (i:=4) sc_part_net.nd rfl (E8 rfl)) qE6))) (qA6 (qGK hu (pv 2) (pv 4) (pv 3) rfl))) (qA6 (qAI (qAD qAF rfl qAK qAP (qA0 (qC6 rfl (lcs (own:=["work"]) (fv:=[0,2]) (by kernel_rfl)) (qDQ (pv 1)) (fun z2=>qBF 0) (fun z2=>qB2) (fun z2=>(qAS qH1 hr rfl (qA0 (qBL (qKI (K:=K) rfl) (pv 1) (pv 0) (fun _ _=>rfl)) (qA0 (pv 2) qA2))))) qA2)))))),?_⟩
 try dsimp only [Cx.nox,Cx.wish,cxOf]
 obtain ⟨rs,hA,NL⟩:=id hN;refine fun dn hdn=>?_;have sn:=qA3 hdn (.dK []);refine ⟨_,rfl,t,rfl,⟨_,.inl (Rd.same hT sn)⟩,qSN (a:=t) (xs:=ws.map V.int) (fun i σ Hf=>∃ (Af:List (Key × V)) (v3 v4:Option V),σ=[some (.ref a),some (.ref t),some (.ref dn),v3,v4]/\Same H Hf/\Hf dn=some (.dK Af)/\Af.length<=i/\∀ x,valV Af (F9 x)=(qC4 (ws.take i) x).map V.int)
  ⟨[],none,none,rfl,sn,qA1,A6 _,fun x=>by simp [qC4,valV]⟩ (fun i σ Hf _ ⟨_,_,_,_,sm,_⟩=>.inl (Rd.same hT sm)) ?_ ?_⟩
 ·refine fun i x σ Hf T hx hI_4 hT2=>opq fun G_4 hG_4=>?_;obtain ⟨Af,v3,v4,rfl,sm,hd,lk,hv⟩:=hI_4;obtain ⟨y,ey,rfl⟩:=qBB hx;refine hG_4 ?_;have lt:=(A5.mp ey).1;have sT:=qA3 hT2 (.tup [.int (i:Int),.int y]);refine ⟨T,_,rfl,SqT.of qA1,rfl,_,_,rfl,_,_,rfl,rfl,?_⟩;refine ⟨_,rfl,_,rfl,_,rfl,dn,_,rfl,DPut.k (k:=F9 y) (sT _ _ hd) (qBM (by lia)),?_⟩
  refine ⟨_,_,_,rfl,qAG (sm.trans sT) hdn,qA1,J6 (qC0 _ _ _) (by lia),fun x=>?_⟩
  rw [qFM,qJ8 rw'.nodup ey x];by_cases e:x=y
  ·rw [e,if_pos rfl,if_pos rfl]
   rfl
  ·rw [if_neg e,if_neg fun z=>e (q9 z)];exact hv x
 refine fun σ Hf hI_5=>opq fun G_5 hG_5=>?_;obtain ⟨Af,v3,v4,rfl,sm,hd,lk,hv⟩:=hI_5;refine hG_5 ?_;rw [A0,qBG rfl] at hv;refine ⟨_,rfl,t,rfl,⟨_,.inl (Rd.same hT sm)⟩,fun p hp=>?_⟩;refine qER (p:=p) (a:=t) (xs:=ws.map V.int) (fun i σ Hc=>∃ (v0:Option V) (ss:List Addr),σ=[v0,some (.ref a),some (.ref dn)]/\Same Hf Hc/\Hc p=some (.lst (ss.map V.ref))/\NetL Hc ss ((qBQ Ae ws).take i)) ?_ ?_ ?_ ?_
 ·exact ⟨none,[],rfl,qA3 hp _,qA1,by rw [List.take_zero];exact .nil⟩
 ·refine fun i σ Hc hi hI_6=>opq fun G_6 hG_6=>?_;obtain ⟨v0,ss,rfl,sm2,_⟩:=hI_6;refine hG_6 ?_;exact .inl (Rd.same (Rd.same hT sm) sm2)
 ·refine fun i x σ Hc hx hI_7=>opq fun G_7 hG_7=>?_;obtain ⟨v0,ss,rfl,sm2,hpc,N2⟩:=hI_7;obtain ⟨y,ey,rfl⟩:=qBB hx;refine hG_7 ?_;have lt:=(A5.mp ey).1;have yb:=rw'.in_ y (C3 ey);have s3:=sm.trans sm2;have hy:y.toNat<Ae.length:=by lia
  obtain ⟨r,h3,h4⟩:=NL.get (A3 hy);have lz:=(wf y.toNat _ (A3 hy)).len;refine ⟨_,rfl,_,rfl,a,_,_,_,rfl,rfl,SqT.of (s3 _ _ hA),qDD yb.1 (by rw [B5,h3];rfl),_,rfl,r,dn,_,Af,qC4 ws,rfl,s3 _ _ h4,by lia,sm2 _ _ hd,hv,fun r' H' sm4 hr'=>?_⟩
  have g1:=sm4 _ _ hpc;have lss:ss.length=((qBQ Ae ws).take i).length:=C6 N2;refine ⟨_,g1,qAH (by rw [A0,lss,B9,qC7];lia),?_⟩
  rw [qBO];refine ⟨_,ss++[r'],rfl,qAG (sm2.trans sm4) hp,qA1,?_⟩;rw [C7,qM0 ey,A3 hy];exact qDC (qCH (N2.same fun r' ys e=>sm4 _ _ e) hr') g1
 ·refine fun σ Hc hI_8=>opq fun G_8 hG_8=>?_;obtain ⟨v0,ss,rfl,sm2,hpc,N2⟩:=hI_8;refine hG_8 ?_;rw [A0,qBG (qC7 Ae ws)] at N2;refine ⟨p,_,rfl,.inl ⟨SqL.of hpc,fun b hb=>?_⟩⟩;have s1:=qA3 hb (.tup (ss.map V.ref));exact q b _ ((sm.trans sm2).trans s1) ⟨ss,qA1,N2.same fun r ys e=>s1 _ _ e⟩
theorem sc_fault_of_do:FnScope ["net","rooms","stand","work","there","result","need"] ["net","rooms","stand","work"] (qAE qCO):=qBP
theorem ok_fault_of_do (F:Fun K "fault_of_do" "fault_of_do" qCO f fd) (qAZ:mg "len" = none):FnOk P w K mg base CX0 1 f fd ["net","rooms","stand","work"] qLH:=by
 refine F.okA sc_fault_of_do fun cdv A outer s H vs Q E hr h=>?_;obtain ⟨a,so,Ae,st,ns,Aa,wk,rfl,hN,hst,lst,wk0,hns,q⟩:=h;have hu:=qIU hr;refine ⟨_,(qA4 (qAJ (i:=4) sc_fault_of_do.nd rfl (E8 rfl) qOK) (qA4 (qBY E1 rfl (qDQ (pv 2)) (qAW (i:=5) sc_fault_of_do.nd rfl (E8 rfl)) (qA6 (qGK hu (pv 4) (pv 5) qC9 rfl))) (qA4 (qBI (qF9 (qRM hu (pv 3) (pv 4))) (qA6 (qAI qBJ)) qAO) (qA4 (qBY E1 rfl (qDQ (qBL qC8 (pv 0) (pv 3) (fun _ _=>rfl))) (qAW (i:=6) sc_fault_of_do.nd rfl (E8 rfl)) (qA6 (qBI (qF9 (qEP hu (pv 6) (pv 4))) (qA6 (qAI qBJ)) qAO))) (qA4 (qBI (qAL qUO (qA9 qAA rfl qAZ qAY (qA0 (pv 2) qA2)) (pv 1) (qAQ _)) (qA6 (qAI qBJ)) qAO) (qA6 (qAI qFY))))))),?_⟩
 try dsimp only [Cx.nox,Cx.wish,cxOf]
 refine fun p hp=>?_;have s0:=qA3 hp (.dK []);refine ⟨_,rfl,so,rfl,⟨_,SqT.of (s0 _ _ hst)⟩,qIA (a:=so) (xs:=st.map V.int) (fun i σ Hc=>∃ (Af:List (Key × V)) (v:Option V),σ=[some (.ref a),some (.int Aa),some (.ref so),some (.int wk),some (.ref p),v,none]/\Same H Hc/\Hc p=some (.dK Af)/\Af.length<=i/\∀ x:Int,(valV Af (F9 x)).isSome=true ↔ x ∈ st.take i)
  ⟨[],none,rfl,s0,qA1,A6 _,fun x=>by simp [valV]⟩ (fun i σ Hc _ hP=>by obtain ⟨_,_,_,sm,_⟩:=hP;exact SqT.of (sm _ _ hst)) ?_ ?_⟩
 ·refine fun i x σ Hc hx hI_1=>opq fun G_1 hG_1=>?_;obtain ⟨Af,v,rfl,sm,hd,lk,mk⟩:=hI_1;refine hG_1 ?_;rw [B5] at hx;cases ez:st[i]? with
  | none=>rw [ez] at hx;cases hx
  | some z=>
   rw [ez] at hx;cases hx;have hil:i<st.length:=(A5.mp ez).1;refine ⟨_,rfl,_,rfl,p,_,rfl,DPut.k (k:=F9 z) hd (qAH (by lia)),?_⟩
   refine ⟨putK Af (F9 z) (.bl true),_,rfl,fun b o e=>?_,qA1,J6 (qC0 _ _ _) (by lia),fun y=>?_⟩
   ·rw [qAC (qA7 e hp)];exact sm b o e
   ·rw [qFM,C7,ez,C8,B1,A8];by_cases hyz:y=z
    ·subst hyz;simp
    ·have:¬ (F9 y:Key)=F9 z:=fun q=>hyz (q9 q);rw [if_neg this,mk y];simp [hyz]
 ·refine fun σ Hc hI_2=>opq fun G_2 hG_2=>?_;obtain ⟨Af,v,rfl,sm,hd,lk,mk⟩:=hI_2;refine hG_2 ?_;rw [A0,D3 (A6 _)] at mk;obtain ⟨rs,r,h1,l1,h2,h3⟩:=hN.get hns;refine ⟨_,rfl,_,rfl,p,_,rfl,DGet.k (k:=F9 wk) hd,_,rfl,?_⟩;refine ite2 (fun ck=>?_) (fun ck=>?_)
  ·have hw:=(mk wk).mp ck;have e:qD8 ns st Aa wk=.str "there":=by unfold qD8;rw [if_pos hw]
   have:=q Hc sm;rw [e] at this;exact this
  ·have hw:¬ wk ∈ st:=fun z=>ck ((mk wk).mpr z);refine ⟨_,rfl,_,rfl,a,_,_,_,rfl,rfl,SqT.of (sm _ _ h1),qDD wk0 h2,r,rfl,⟨_,SqT.of (sm _ _ h3)⟩,qIA (a:=r) (xs:=ns.map V.int) (fun i σ Hd=>∃ (v6:Option V),σ=[some (.ref a),some (.int Aa),some (.ref so),some (.int wk),some (.ref p),v,v6]/\Hd=Hc/\∀ x ∈ ns.take i,x ∈ st)
    ⟨none,rfl,rfl,fun x hx=>by simp at hx⟩ (fun i σ Hd _ ⟨_,_,e,_⟩=>by rw [e];exact SqT.of (sm _ _ h3)) ?_ ?_⟩
   ·refine fun i x σ Hd hx hI_3=>opq fun G_3 hG_3=>?_;obtain ⟨v6,rfl,rfl,mm⟩:=hI_3;obtain ⟨z,ez,rfl⟩:=qBB hx;refine hG_3 ?_;refine ⟨_,rfl,_,rfl,p,_,rfl,DGet.k (k:=F9 z) hd,_,rfl,?_⟩;refine ite2 (fun cz=>?_) (fun cz=>?_)
    ·have hz:¬ z ∈ st:=fun zz=>by rw [(mk z).mpr zz] at cz;cases cz
     have e:qD8 ns st Aa wk=.str "needs":=by
      unfold qD8;rw [if_neg hw,if_neg fun all=>hz (all z (C3 ez))]
     have:=q Hd sm;rw [e] at this;exact this
    ·have hz:z ∈ st:=by
      apply (mk z).mp;cases hv:(valV Af (F9 z:Key)).isSome with
      | true=>rfl
      | false=>rw [hv] at cz;exact absurd rfl cz
     refine ⟨_,rfl,rfl,fun y hy=>?_⟩;rw [C7,ez,C8,B1,A8] at hy;rcases hy with hy | rfl
     ·exact mm y hy
     ·exact hz
   ·refine fun σ Hd hI_4=>opq fun G_4 hG_4=>?_;obtain ⟨v6,rfl,rfl,mm⟩:=hI_4;refine hG_4 ?_;rw [A0,D3 (A6 _)] at mm;refine ⟨_,rfl,so,_,rfl,.inr (SqT.of (sm _ _ hst)),_,rfl,_,_,rfl,rfl,_,rfl,?_⟩;have q':=q Hd sm;have e0:qD8 ns st Aa wk=if Aa<=(st.length:Int) then .str "full" else .non:=by
     unfold qD8;rw [if_neg hw,if_pos mm]
    rw [e0] at q';refine ite2 (fun cf=>?_) (fun cf=>?_)
    ·have cf':Aa<=(((st.map V.int).length:Nat):Int):=of_decide_eq_true cf;rw [A0] at cf';rw [if_pos cf'] at q';exact q'
    ·have cf':¬ Aa<=(((st.map V.int).length:Nat):Int):=of_decide_eq_false (F5.mpr cf);rw [A0] at cf';rw [if_neg cf'] at q';exact q'
theorem qN0:FnScope ["net","rooms","stand","move"] ["net","rooms","stand","move"] (qAE qF5):=qBP
theorem ok_fault_of (F:Fun K "fault_of" "fault_of" qF5 f fd) (qGC:Clb P w K mg base 1 qEA qIW "fault_of_do" ["net","rooms","stand","work"] qLH) :
  FnOk P w K mg base CX0 2 f fd ["net","rooms","stand","move"] qK0:=by
 refine F.okA qN0 fun cdv A outer s H vs Q E hr h=>?_;obtain ⟨a,so,mv,Ae,st,ns,Aa,wk,Ac,rfl,hN,hst,lst,hmv,hword,wk0,hns,lns,q⟩:=h;have qTU:Room 1 _:=hr;refine ⟨_,(qA4 (qBI (qAL qG1 (qBL qC8 (pv 3) qA8 (fun _ _=>rfl)) qBJ (qAQ _)) (qA6 (qAI (qAS qGC hr rfl (qA0 (pv 0) (qA0 (pv 1) (qA0 (pv 2) (qA0 (qBL qC8 (pv 3) qA8 (fun _ _=>rfl)) qA2))))))) qAO) (qA4 (qBI (qAL qDT (qBL qC8 (pv 3) qA8 (fun _ _=>rfl)) (pv 2) (by with_unfolding_all rfl)) (qA6 (qAI qFY)) qAO) (qA6 (qAI qBJ)))),?_⟩
 try dsimp only [Cx.nox,Cx.wish,cxOf]
 refine ⟨_,rfl,mv,_,_,_,rfl,rfl,SqT.of hmv,rfl,rfl,_,rfl,?_⟩;refine ite2 (fun ck=>?_) (fun ck=>?_)
 ·have hd:Ac = "do":=V.str.inj (of_decide_eq_true ck)
  refine ⟨_,rfl,_,rfl,_,rfl,_,rfl,mv,_,_,_,rfl,rfl,SqT.of hmv,rfl,a,so,Ae,st,ns,Aa,wk,rfl,hN,hst,lst,wk0,hns,fun H' sm=>?_⟩;have q':=q H' sm;unfold qD7 at q';rw [if_pos hd] at q';exact q'
 ·have hd:¬ Ac = "do":=fun e=>(of_decide_eq_false (F5.mpr ck)) (congrArg V.str e)
  have q':=q H (Same.refl H);unfold qD7 qDN at q';rw [if_neg hd] at q';refine ⟨_,rfl,mv,_,_,_,rfl,rfl,SqT.of hmv,rfl,_,rfl,so,_,rfl,.inr (SqT.of hst),rfl,qBR st,_,rfl,?_⟩;rw [qD3];refine ite2 (fun cw=>?_) (fun cw=>?_)
  ·rw [if_pos (of_decide_eq_true cw)] at q';exact q'
  ·rw [if_neg (of_decide_eq_false (F5.mpr cw))] at q';exact q'
theorem qPQ:FnScope ["_law_stand","_law_move"] ["_law_stand","_law_move"] (qAE qFV):=qBP
theorem ok_Lbehind (F:Fun K "_law_behind" "_law_behind" qFV f fd) (qBT:mg "sorted" = none) (qAK:mg "tuple" = none):FnOk P w K mg base CX0 1 f fd ["_law_stand","_law_move"] qFQ:=by
 refine F.okA qPQ fun cdv A outer s H vs Q E hr h=>?_;obtain ⟨so,mv,st,Ac,wk,rfl,hst,lst,hmv,hword,q⟩:=h;refine ⟨_,(qA4 (qBI (qAL qG1 (qBL qC8 (pv 1) qA8 (fun _ _=>rfl)) qBJ (qAQ _)) (qA6 (qAI (qAD qAF rfl qAK qAP (qA0 (qA9 (qCE rfl) rfl qBT qD6 (qA0 (qAM qN6 (pv 0) (qAV (qA0 (qBL qC8 (pv 1) qA8 (fun _ _=>rfl)) qA2))) qA2)) qA2)))) qAO) (qA6 (qAI (qAD qAF rfl qAK qAP (qA0 (qC6 rfl (lcs (own:=["_law_work"]) (fv:=[1]) (by kernel_rfl)) (qDQ (pv 0)) (fun z1=>qBF 0) (fun z1=>(qCB (qAL qRQ (pv 0) (qBL (qKI (K:=K) rfl) (pv 1) qA8 (fun _ _=>rfl)) (qAQ _)))) (fun z1=>(pv 0))) qA2))))),?_⟩
 try dsimp only [Cx.nox,Cx.wish,cxOf]
 refine ⟨_,rfl,mv,_,_,_,rfl,rfl,SqT.of hmv,rfl,rfl,_,rfl,?_⟩;refine ite2 (fun ck=>?_) (fun ck=>?_)
 ·have hd:Ac = "do":=V.str.inj (of_decide_eq_true ck)
  refine ⟨_,rfl,_,rfl,mv,_,_,_,rfl,rfl,SqT.of hmv,rfl,(by show 1<=sizeLine;decide),fun T hT=>?_⟩
  have sT:=qA3 hT (.tup [.int wk]);have fin:∀ (p:Addr) (H1:Hp),Same H H1->H1 p=some (.tup ((st++[wk]).map V.int))->∀ (b:Addr) (zs:List Int),H1 b=none->zs.Perm (st++[wk])->zs.Pairwise (·<=·)->∀ r,(Ag H1 b (.lst (zs.map V.int))) r=none->Q (.ref r) (Ag (Ag H1 b (.lst (zs.map V.int))) r (.tup (zs.map V.int))):=by
   intro p H1 s1 hp b zs hb hpm hs r hr;refine q r zs _ (s1.trans ((qA3 hb _).trans (qA3 hr _))) qA1 ⟨fun _=>⟨hpm,hs⟩,fun z=>?_⟩;rw [hd] at z;exact absurd z.symm qBE
  refine ⟨so,T,st.map V.int,[.int wk],rfl,rfl,SqT.of (sT _ _ hst),SqT.of qA1,by simp,T6 (qBM (by rw [A0,B4];lia)),fun z=>?_,fun z p hp=>?_⟩
  ·have e:st=[]:=A67.mp z;have g:(Ag H T (.tup [.int wk])) T=some (.tup ((st++[wk]).map V.int)):=by rw [qA1,e];rfl
   exact ⟨T,st++[wk],rfl,.inr (.inl (SqT.of g)),(by rw [A7,B4];lia),fun b zs hb hpm hs=>⟨b,_,rfl,.inl ⟨SqL.of qA1,fun r hr=>fin T _ sT g b zs hb hpm hs r hr⟩⟩⟩
  ·have g:(Ag (Ag H T (.tup [.int wk])) p (.tup (st.map V.int++[.int wk]))) p=some (.tup ((st++[wk]).map V.int)):=by rw [qA1,B0];rfl
   exact ⟨p,st++[wk],rfl,.inr (.inl (SqT.of g)),(by rw [A7,B4];lia),fun b zs hb hpm hs=>⟨b,_,rfl,.inl ⟨SqL.of qA1,fun r hr=>fin p _ (sT.trans (qA3 hp _)) g b zs hb hpm hs r hr⟩⟩⟩
 ·have hd:Ac = "clear":=hword.resolve_left fun e=>(of_decide_eq_false (F5.mpr ck)) (congrArg V.str e);refine ⟨_,rfl,so,rfl,⟨_,SqT.of hst⟩,fun p hp=>?_⟩;refine qER (p:=p) (a:=so) (xs:=st.map V.int) (fun i σ Hc=>∃ (v:Option V),σ=[v,some (.ref mv)]/\Same H Hc/\Hc p=some (.lst (((st.take i).filter fun x=>decide (x ≠ wk)).map V.int))) ?_ ?_ ?_ ?_
  ·exact ⟨none,rfl,qA3 hp _,qA1⟩
  ·rintro i σ Hc hi ⟨v,rfl,sm,_⟩;exact SqT.of (sm _ _ hst)
  ·refine fun i x σ Hc hx hI_2=>opq fun G_2 hG_2=>?_;obtain ⟨v,rfl,sm,hpc⟩:=hI_2;obtain ⟨y,ey,rfl⟩:=qBB hx;refine hG_2 ?_;have hi:=(A5.mp ey).1;have lk:=qBS (p:=fun x=>decide (x ≠ wk)) (l:=st) (i:=i);refine ⟨_,rfl,_,rfl,mv,_,_,_,rfl,rfl,SqT.of (sm _ _ hmv),rfl,rfl,_,rfl,?_⟩;rw [qCD ey];by_cases e:y=wk
   ·rw [decide_eq_true (show V.int y=V.int wk by rw [e]),decide_eq_false (show ¬ y ≠ wk from fun z=>z e)]
    refine ⟨_,rfl,sm,?_⟩;simpa using hpc
   ·rw [decide_eq_false (show ¬ V.int y=V.int wk from fun z=>e (V.int.inj z)),decide_eq_true (show y ≠ wk from e)];refine ⟨_,rfl,_,hpc,qAH (by rw [A0];lia),_,rfl,qAG sm hp,?_⟩
    rw [qA1,if_pos rfl,B0]
    rfl
  ·refine fun σ Hc hI_3=>opq fun G_3 hG_3=>?_;obtain ⟨v,rfl,sm,hpc⟩:=hI_3;refine hG_3 ?_;rw [A0,qBG rfl] at hpc;refine ⟨p,_,rfl,.inl ⟨SqL.of hpc,fun r hr=>?_⟩⟩;refine q r _ _ (sm.trans (qA3 hr _)) qA1 ⟨fun z=>?_,fun _=>rfl⟩;rw [hd] at z;exact absurd z qBE
theorem qHT:FnScope ["stand","move"] ["stand","move"] (qAE qCG):=qBP
theorem ok_stand_behind (F:Fun K "stand_behind" "stand_behind" qCG f fd) (qBT:mg "sorted" = none) (qAK:mg "tuple" = none):FnOk P w K mg base CX0 1 f fd ["stand","move"] qFQ:=by
 refine F.okA qHT fun cdv A outer s H vs Q E hr h=>?_;obtain ⟨so,mv,st,Ac,wk,rfl,hst,lst,hmv,hword,q⟩:=h;refine ⟨_,(qA4 (qBI (qAL qG1 (qBL qC8 (pv 1) qA8 (fun _ _=>rfl)) qBJ (qAQ _)) (qA6 (qAI (qAD qAF rfl qAK qAP (qA0 (qA9 (qCE rfl) rfl qBT qD6 (qA0 (qAM qN6 (pv 0) (qAV (qA0 (qBL qC8 (pv 1) qA8 (fun _ _=>rfl)) qA2))) qA2)) qA2)))) qAO) (qA6 (qAI (qAD qAF rfl qAK qAP (qA0 (qC6 rfl (lcs (own:=["result"]) (fv:=[1]) (by kernel_rfl)) (qDQ (pv 0)) (fun z2=>qBF 0) (fun z2=>(qCB (qAL qRQ (pv 0) (qBL (qKI (K:=K) rfl) (pv 1) qA8 (fun _ _=>rfl)) (qAQ _)))) (fun z2=>(pv 0))) qA2))))),?_⟩
 try dsimp only [Cx.nox,Cx.wish,cxOf]
 refine ⟨_,rfl,mv,_,_,_,rfl,rfl,SqT.of hmv,rfl,rfl,_,rfl,?_⟩;refine ite2 (fun ck=>?_) (fun ck=>?_)
 ·have hd:Ac = "do":=V.str.inj (of_decide_eq_true ck)
  refine ⟨_,rfl,_,rfl,mv,_,_,_,rfl,rfl,SqT.of hmv,rfl,(by show 1<=sizeLine;decide),fun T hT=>?_⟩
  have sT:=qA3 hT (.tup [.int wk]);have fin:∀ (p:Addr) (H1:Hp),Same H H1->H1 p=some (.tup ((st++[wk]).map V.int))->∀ (b:Addr) (zs:List Int),H1 b=none->zs.Perm (st++[wk])->zs.Pairwise (·<=·)->∀ r,(Ag H1 b (.lst (zs.map V.int))) r=none->Q (.ref r) (Ag (Ag H1 b (.lst (zs.map V.int))) r (.tup (zs.map V.int))):=by
   intro p H1 s1 hp b zs hb hpm hs r hr;refine q r zs _ (s1.trans ((qA3 hb _).trans (qA3 hr _))) qA1 ⟨fun _=>⟨hpm,hs⟩,fun z=>?_⟩;rw [hd] at z;exact absurd z.symm qBE
  refine ⟨so,T,st.map V.int,[.int wk],rfl,rfl,SqT.of (sT _ _ hst),SqT.of qA1,by simp,T6 (qBM (by rw [A0,B4];lia)),fun z=>?_,fun z p hp=>?_⟩
  ·have e:st=[]:=A67.mp z;have g:(Ag H T (.tup [.int wk])) T=some (.tup ((st++[wk]).map V.int)):=by rw [qA1,e];rfl
   exact ⟨T,st++[wk],rfl,.inr (.inl (SqT.of g)),(by rw [A7,B4];lia),fun b zs hb hpm hs=>⟨b,_,rfl,.inl ⟨SqL.of qA1,fun r hr=>fin T _ sT g b zs hb hpm hs r hr⟩⟩⟩
  ·have g:(Ag (Ag H T (.tup [.int wk])) p (.tup (st.map V.int++[.int wk]))) p=some (.tup ((st++[wk]).map V.int)):=by rw [qA1,B0];rfl
   exact ⟨p,st++[wk],rfl,.inr (.inl (SqT.of g)),(by rw [A7,B4];lia),fun b zs hb hpm hs=>⟨b,_,rfl,.inl ⟨SqL.of qA1,fun r hr=>fin p _ (sT.trans (qA3 hp _)) g b zs hb hpm hs r hr⟩⟩⟩
 ·have hd:Ac = "clear":=hword.resolve_left fun e=>(of_decide_eq_false (F5.mpr ck)) (congrArg V.str e);refine ⟨_,rfl,so,rfl,⟨_,SqT.of hst⟩,fun p hp=>?_⟩;refine qER (p:=p) (a:=so) (xs:=st.map V.int) (fun i σ Hc=>∃ (v:Option V),σ=[v,some (.ref mv)]/\Same H Hc/\Hc p=some (.lst (((st.take i).filter fun x=>decide (x ≠ wk)).map V.int))) ?_ ?_ ?_ ?_
  ·exact ⟨none,rfl,qA3 hp _,qA1⟩
  ·rintro i σ Hc hi ⟨v,rfl,sm,_⟩;exact SqT.of (sm _ _ hst)
  ·refine fun i x σ Hc hx hI_5=>opq fun G_5 hG_5=>?_;obtain ⟨v,rfl,sm,hpc⟩:=hI_5;obtain ⟨y,ey,rfl⟩:=qBB hx;refine hG_5 ?_;have hi:=(A5.mp ey).1;have lk:=qBS (p:=fun x=>decide (x ≠ wk)) (l:=st) (i:=i);refine ⟨_,rfl,_,rfl,mv,_,_,_,rfl,rfl,SqT.of (sm _ _ hmv),rfl,rfl,_,rfl,?_⟩;rw [qCD ey];by_cases e:y=wk
   ·rw [decide_eq_true (show V.int y=V.int wk by rw [e]),decide_eq_false (show ¬ y ≠ wk from fun z=>z e)]
    refine ⟨_,rfl,sm,?_⟩;simpa using hpc
   ·rw [decide_eq_false (show ¬ V.int y=V.int wk from fun z=>e (V.int.inj z)),decide_eq_true (show y ≠ wk from e)];refine ⟨_,rfl,_,hpc,qAH (by rw [A0];lia),_,rfl,qAG sm hp,?_⟩
    rw [qA1,if_pos rfl,B0]
    rfl
  ·refine fun σ Hc hI_6=>opq fun G_6 hG_6=>?_;obtain ⟨v,rfl,sm,hpc⟩:=hI_6;refine hG_6 ?_;rw [A0,qBG rfl] at hpc;refine ⟨p,_,rfl,.inl ⟨SqL.of hpc,fun r hr=>?_⟩⟩;refine q r _ _ (sm.trans (qA3 hr _)) qA1 ⟨fun z=>?_,fun _=>rfl⟩;rw [hd] at z;exact absurd z qBE
theorem sc_moves_of:FnScope ["net","rooms","stand","dos","clears"] ["net","rooms","stand"] (qAE qF2):=qBP
theorem ok_moves_of (F:Fun K "moves_of" "moves_of" qF2 f fd) (qJS:Clb P w K mg base 2 qGS qNN "fault_of" ["net","rooms","stand","move"] qK0)
  (qAR:mg "range" = none) (qAZ:mg "len" = none):FnOk P w K mg base CX0 3 f fd ["net","rooms","stand"] qLG:=by
 refine F.okA sc_moves_of fun cdv A outer s H vs Q E hr h=>?_;obtain ⟨a,so,Ae,st,Aa,rfl,hN,wf,n1000,hst,lst,q⟩:=h;have qXN:Room 2 _:=hr;refine ⟨_,(qA4 (qLU (i:=3) sc_moves_of.nd rfl rfl rfl (lcs (own:=["work"]) (fv:=[]) (by kernel_rfl)) (qB0 rfl qAR (qA0 (qA9 qAA rfl qAZ qAY (qA0 (pv 0) qA2)) qA2)) (fun z1=>qBF 0) (fun z1=>qB2) (fun z1=>(qAV (qA0 qBJ (qA0 (pv 0) qA2)))) (by kernel_rfl)) (qA4 (qLU (i:=4) sc_moves_of.nd rfl rfl rfl (lcs (own:=["work"]) (fv:=[]) (by kernel_rfl)) (qB0 rfl qAR (qA0 (qA9 qAA rfl qAZ qAY (qA0 (pv 0) qA2)) qA2)) (fun z2=>qBF 0) (fun z2=>qB2) (fun z2=>(qAV (qA0 qBJ (qA0 (pv 0) qA2)))) (by kernel_rfl)) (qA6 (qAI (qC6 rfl (lcs (own:=["move"]) (fv:=[0,1,2]) (by kernel_rfl)) (qCC (qAM qEI (pv 3) (pv 4))) (fun z3=>qBF 0) (fun z3=>(qCB (qF9 (qW1 (qAS qJS hr rfl (qA0 (pv 1) (qA0 (pv 2) (qA0 (pv 3) (qA0 (pv 0) qA2))))))))) (fun z3=>(pv 0))))))),?_⟩
 try dsimp only [Cx.nox,Cx.wish,cxOf]
 obtain ⟨rs,hA,NL⟩:=id hN;have lrv:(((rs.map V.ref).length:Nat):Int)=(Ae.length:Int):=by rw [A0,C6 NL]
 refine ⟨_,rfl,a,_,rfl,.inr (SqT.of hA),_,rfl,by rw [lrv];lia,by rw [lrv];lia,fun p hp=>?_⟩
 refine qCI (p:=p) (lo:=0) (n:=((((rs.map V.ref).length:Nat):Int)).toNat) (fun i σ Hc=>∃ (v:Option V) (rd:List Addr),σ=[v]/\Same H Hc/\Hc p=some (.lst (rd.map V.ref))/\MovL Hc rd (qH8 "do" i)) ?_ ?_ ?_
 ·exact ⟨none,[],rfl,qA3 hp _,qA1,.nil⟩
 ·refine fun i σ Hc hi hI_1=>opq fun G_1 hG_1=>?_;obtain ⟨v,rd,rfl,sm,hpc,ML⟩:=hI_1;refine hG_1 ?_;rw [lrv] at hi;refine ⟨_,rfl,(by show 2<=sizeLine;decide),fun mv hmv=>?_⟩
  have s1:=qA3 hmv (.tup [.str "do",.int (0+(i:Int))])
  have ll:=C6 ML;rw [qEQ] at ll;refine ⟨_,s1 _ _ hpc,qAH (by rw [A0];lia),_,rd++[mv],rfl,qAG (sm.trans s1) hp,?_,?_⟩
  ·rw [qA1,qBO]
  ·rw [qJF];exact ((ML.same s1).snoc qA1).put (s1 _ _ hpc)
 ·refine fun σ Hc hI_2=>opq fun G_2 hG_2=>?_;obtain ⟨v,rd,rfl,sm,hpc,ML⟩:=hI_2;refine hG_2 ?_;rw [show ((((rs.map V.ref).length:Nat):Int)).toNat=Ae.length by rw [lrv];lia] at ML
  refine ⟨_,rfl,a,_,rfl,.inr (SqT.of (sm _ _ hA)),_,rfl,by rw [lrv];lia,by rw [lrv];lia,fun p2 hp2=>?_⟩
  refine qCI (p:=p2) (lo:=0) (n:=((((rs.map V.ref).length:Nat):Int)).toNat) (fun i σ Hd=>∃ (v:Option V) (re:List Addr),σ=[v]/\Same Hc Hd/\Hd p2=some (.lst (re.map V.ref))/\MovL Hd re (qH8 "clear" i)) ?_ ?_ ?_
  ·exact ⟨none,[],rfl,qA3 hp2 _,qA1,.nil⟩
  ·refine fun i σ Hd hi hI_3=>opq fun G_3 hG_3=>?_;obtain ⟨v,re,rfl,sm2,hpd,ME⟩:=hI_3;refine hG_3 ?_;rw [lrv] at hi;refine ⟨_,rfl,(by show 2<=sizeLine;decide),fun mv hmv=>?_⟩
   have s1:=qA3 hmv (.tup [.str "clear",.int (0+(i:Int))]);have ll:=C6 ME;rw [qEQ] at ll;refine ⟨_,s1 _ _ hpd,qAH (by rw [A0];lia),_,re++[mv],rfl,qAG (sm2.trans s1) hp2,?_,?_⟩
   ·rw [qA1,qBO]
   ·rw [qJF];exact ((ME.same s1).snoc qA1).put (s1 _ _ hpd)
  ·refine fun σ Hd hI_4=>opq fun G_4 hG_4=>?_;obtain ⟨v,re,rfl,sm2,hpd,ME⟩:=hI_4;refine hG_4 ?_;rw [show ((((rs.map V.ref).length:Nat):Int)).toNat=Ae.length by rw [lrv];lia] at ME
   have l1:=C6 ML;have l2:=C6 ME;rw [qEQ] at l1 l2;refine ⟨_,rfl,_,rfl,p,p2,_,_,rfl,rfl,sm2 _ _ hpc,hpd,?_,fun l hl=>?_⟩
   ·rw [A0,A0,sizeLine_eq];lia
   have sl:=qA3 hl (.lst (rd.map V.ref++re.map V.ref));have MA:MovL (Ag Hd l (.lst (rd.map V.ref++re.map V.ref))) (rd++re) (qIZ Ae.length):=((ML.same sm2).app ME).same sl;have gl:(Ag Hd l (.lst (rd.map V.ref++re.map V.ref))) l=some (.lst ((rd++re).map V.ref)):=by rw [qA1,B0]
   have smA:=(sm.trans sm2).trans sl;generalize Ag Hd l (.lst (rd.map V.ref++re.map V.ref))=He at MA gl smA ⊢;have lE:(rd++re).length=Ae.length+Ae.length:=by rw [A7,l1,l2]
   refine ⟨l,rfl,⟨_,SqL.of gl⟩,fun p3 hp3=>?_⟩;refine qDJ (p:=p3) (a:=l) (xs:=(rd++re).map V.ref) (fun i σ Hf=>∃ (v:Option V) (rk:List Addr),σ=[v,some (.ref a),some (.int Aa),some (.ref so)]/\Same He Hf/\Hf p3=some (.lst (rk.map V.ref))/\MovL Hf rk (((qIZ Ae.length).take i).filter fun m=>decide (wd Ae st Aa m=.non))) ?_ ?_ ?_ ?_
   ·exact ⟨none,[],rfl,qA3 hp3 _,qA1,.nil⟩
   ·rintro i σ Hf hi ⟨v,rk,rfl,sm3,_⟩;exact SqL.of (sm3 _ _ gl)
   ·refine fun i x σ Hf hx hI_6=>opq fun G_6 hG_6=>?_;obtain ⟨v,rk,rfl,sm3,hpf,MK⟩:=hI_6;obtain ⟨mv,hmv,rfl⟩:=qES hx;refine hG_6 ?_;have hi:i<Ae.length+Ae.length:=by rw [<- lE];exact (A5.mp hmv).1
    obtain ⟨m,hm,em⟩:=qBH MA hmv;obtain ⟨hw,m0,m1⟩:=qP4 (C3 hm);have hi':m.2.toNat<Ae.length:=by lia
    have hns:=A3 hi';have rz:=wf _ _ hns;have lk:=C6 MK;have lk2:=a8 (fun m=>decide (wd Ae st Aa m=.non)) ((qIZ Ae.length).take i);rw [B9,qME] at lk2;have wde:wd Ae st Aa m=qD7 Ae[m.2.toNat] st Aa m.1 m.2:=by unfold wd;rw [hns];rfl
    refine ⟨_,rfl,_,rfl,_,rfl,_,rfl,a,so,mv,Ae,st,Ae[m.2.toNat],Aa,m.2,m.1,rfl,hN.same (smA.trans sm3),(smA.trans sm3) _ _ hst,lst,sm3 _ _ em,hw,m0,hns,?_,fun Hg sm4=>⟨_,rfl,?_⟩⟩
    ·have:=rz.len;lia
    rw [<- wde,qCD hm];by_cases hd:wd Ae st Aa m=.non
    ·rw [hd];refine ⟨_,rfl,_,sm4 _ _ hpf,(by rw [A0,sizeLine_eq];lia),_,rk++[mv],rfl,qAG (sm3.trans sm4) hp3,?_,?_⟩
     ·rw [qA1,qBO]
     ·exact ((MK.same sm4).snoc (sm4 _ _ (sm3 _ _ em))).put (sm4 _ _ hpf)
    ·rw [decide_eq_false hd];refine ⟨_,rk,rfl,sm3.trans sm4,sm4 _ _ hpf,?_⟩;simpa using MK.same sm4
   ·refine fun σ Hf hI_7=>opq fun G_7 hG_7=>?_;obtain ⟨v,rk,rfl,sm3,hpf,MK⟩:=hI_7;refine hG_7 ?_;rw [D3 (by rw [A0,lE,qME];exact A6 _)] at MK
    exact q p3 rk Hf (smA.trans sm3) (smA.free hp3) hpf MK
theorem qPP:FnScope ["results","works"] ["results","works"] (qAE qFS):=qBP
theorem ok_has_all (F:Fun K "has_all" "has_all" qFS f fd) (qJV:mg "all" = none):FnOk P w K mg base CX0 1 f fd ["results","works"] qVR:=by
 refine F.okA qPP fun cdv A outer s H vs Q E hr h=>?_;obtain ⟨b,a,t,st,Ad,rfl,hst,hT,l1,q⟩:=h;refine ⟨_,(qA6 (qAI (qA9 (qGA rfl) rfl qJV qML (qA0 (qC6 rfl (lcs (own:=["work"]) (fv:=[0]) (by kernel_rfl)) (qVZ (pv 1)) (fun z1=>qBF 0) (fun z1=>qB2) (fun z1=>(qD0 (qJB (K:=K) rfl) (pv 0) (pv 1) (by with_unfolding_all rfl)))) qA2)))),?_⟩
 try dsimp only [Cx.nox,Cx.wish,cxOf]
 refine ⟨_,rfl,b,t,rfl,⟨_,sqo hT⟩,fun p hp=>?_⟩;refine qW3 (b:=b) (p:=p) (a:=t) (xs:=Ad.map V.int) (fun i σ Hc=>∃ (v:Option V),σ=[v,some (.ref a)]/\Same H Hc/\Hc p=some (.lst (((Ad.take i).map fun x=>decide (x ∈ st)).map V.bl))) ?_ ?_ ?_ ?_
 ·exact ⟨none,rfl,qA3 hp _,qA1⟩
 ·refine fun i σ Hc hi hI_1=>opq fun G_1 hG_1=>?_;obtain ⟨v,rfl,sm,_⟩:=hI_1;refine hG_1 ?_;exact sqo (hT.same sm)
 ·refine fun i x σ Hc hx hI_2=>opq fun G_2 hG_2=>?_;obtain ⟨v,rfl,sm,hpc⟩:=hI_2;obtain ⟨z,ez,rfl⟩:=qBB hx;refine hG_2 ?_;have hi:=(A5.mp ez).1;refine ⟨_,rfl,_,rfl,a,_,rfl,.inr (SqT.of (sm _ _ hst)),rfl,qBR st,_,hpc,qAH (by rw [A0,A0,B9];lia),_,rfl,qAG sm hp,?_⟩
  rw [qA1];refine congrArg (fun l=>some (HO.lst l)) ?_;rw [C7,ez,C8,B0,B0];show _++[V.bl (inV (.int z) (st.map V.int))]=_;rw [qD3]
  rfl
 ·refine fun σ Hc hI_3=>opq fun G_3 hG_3=>?_;obtain ⟨v,rfl,sm,hpc⟩:=hI_3;refine hG_3 ?_;rw [A0,D3 (A6 _)] at hpc;refine ⟨p,_,rfl,SqL.of hpc,?_⟩;have e:((Ad.map fun x=>decide (x ∈ st)).all id)=decide (∀ x ∈ Ad,x ∈ st):=by
   rw [O7,decide_eq_true_eq];exact all_in
  rw [e];exact q Hc sm
structure Fnd2 (Ae:List (List Int)) (Ad ks:List Int) (j:Int):Prop where
 in_:∀ x ∈ ks,(0<=x/\x<(Ae.length:Int))/\Nd Ae Ad x
 ask:∀ x ∈ Ad,j<=x->x ∈ ks
 clo:∀ (w:Nat) zs,j<=(w:Int)->(w:Int) ∈ ks->Ae[w]?=some zs->∀ y ∈ zs,y ∈ ks
theorem repF:∀ n:Nat,(E4 n [V.bl false]).flatten=(E4 n false).map V.bl
 | 0=>rfl
 | n+1=>by rw [P7,P7,b5,repF n];rfl
structure Bls (n:Nat) (ks:List Int) (bs:List Bool):Prop where
 len:bs.length=n
 at_:∀ x:Nat,x<n->bs[x]?=some (decide ((x:Int) ∈ ks))
theorem Bls.set {n:Nat} {ks:List Int} {bs:List Bool} (h:Bls n ks bs) {x:Int} (h0:0<=x) (h1:x<n):Bls n (addI ks x) (bs.set x.toNat true):=by
 refine ⟨by rw [A29];exact h.len,fun y hy=>?_⟩
 by_cases e:(y:Int)=x
 ·have e2:x.toNat=y:=by lia
  rw [e2,j3 (by rw [h.len];exact hy),decide_eq_true (mem_addI.mpr (.inr e))]
 ·rw [o5 (by lia),h.at_ y hy]
  congr 1;exact decide_eq_decide.mpr ⟨fun z=>mem_addI.mpr (.inl z),fun z=>(mem_addI.mp z).resolve_right e⟩
theorem qW7 {bs:List Bool} {i:Nat} {b:Bool} (h:bs[i]?=some b):(bs.map V.bl)[i]?=some (.bl b):=by rw [B5,h];rfl
theorem sc_Lneeded:FnScope ["_law_net_here","_law_asked_here","_law_found","_law_work","_law_need"] ["_law_net_here","_law_asked_here"] (qAE qFU):=qBP
theorem ok_Lneeded (F:Fun K "_law_needed" "_law_needed" qFU f fd) (qAZ:mg "len" = none) (qAR:mg "range" = none):FnOk P w K mg base CX0 1 f fd ["_law_net_here","_law_asked_here"] qJZ:=by
 refine F.okA sc_Lneeded fun cdv A outer s H vs Q E hr h=>?_;obtain ⟨a,t,Ae,Ad,rfl,hN,wf,n1000,⟨hT,rA⟩,q⟩:=h;refine ⟨_,(qA4 (qAJ (i:=2) sc_Lneeded.nd rfl (o6 rfl) (qAM qOQ (qB4 (qA0 qC9 qA2)) (qA9 qAA rfl qAZ qAY (qA0 (pv 0) qA2)))) (qA4 (qBY E1 rfl (qX5 rfl qAR (qA0 (qAM qDS (qA9 qAA rfl qAZ qAY (qA0 (pv 0) qA2)) qA8) (qA0 (qKE qFO qA8) (qA0 (qKE qFO qA8) qA2)))) (qAW (i:=3) sc_Lneeded.nd rfl (E8 rfl)) (qA4 (qX3 (qBI (qAL qDT (pv 3) (pv 1) (by with_unfolding_all rfl)) (qA6 (qLV qC9 (qRI (pv 2) (pv 3) qK2))) qAO)) (qA6 (qBI (qBX (qBL qC1 (pv 2) (pv 3) (fun _ _=>rfl))) (qA6 (qBY E1 rfl (qDQ (qBL qC8 (pv 0) (pv 3) (fun _ _=>rfl))) (qAW (i:=4) sc_Lneeded.nd rfl (E8 rfl)) (qA6 (qLV qC9 (qRI (pv 2) (pv 4) qK2))))) qAO)))) (qA6 (qAI (qC6 rfl (lcs (own:=["_law_work"]) (fv:=[2]) (by kernel_rfl)) (qB0 rfl qAR (qA0 (qA9 qAA rfl qAZ qAY (qA0 (pv 0) qA2)) qA2)) (fun z1=>qBF 0) (fun z1=>(qCB (qBX (qBL (qOW (K:=K) rfl) (pv 1) (pv 0) (fun _ _=>rfl))))) (fun z1=>(pv 0))))))),?_⟩
 try dsimp only [Cx.nox,Cx.wish,cxOf]
 obtain ⟨rs,hA,NL⟩:=id hN;have lrv:(((rs.map V.ref).length:Nat):Int)=(Ae.length:Int):=by rw [A0,C6 NL]
 refine ⟨(by show 1<=sizeLine;decide),fun p0 hp0=>?_⟩
 have s0:=qA3 hp0 (.lst [.bl false]);refine ⟨_,rfl,a,_,rfl,.inr (SqT.of (s0 _ _ hA)),p0,_,_,rfl,rfl,qA1,by rw [lrv];lia,by rw [lrv];lia,?_,fun fo hfo=>?_⟩
 ·rw [lrv,sizeLine_eq];simp;lia
 have ffo:H fo=none:=s0.free hfo;have s1:=s0.trans (qA3 hfo (.lst (E4 ((((rs.map V.ref).length:Nat):Int)).toNat [V.bl false]).flatten));have gfo:(Ag (Ag H p0 (.lst [.bl false])) fo (.lst (E4 ((((rs.map V.ref).length:Nat):Int)).toNat [V.bl false]).flatten)) fo=some (.lst ((E4 Ae.length false).map V.bl)):=by
  rw [qA1,repF,lrv,F0]
 generalize Ag (Ag H p0 (.lst [.bl false])) fo (.lst (E4 ((((rs.map V.ref).length:Nat):Int)).toNat [V.bl false]).flatten)=H1 at s1 gfo;refine ⟨_,rfl,a,_,rfl,.inr (SqT.of (s1 _ _ hA)),_,_,rfl,rfl,_,rfl,_,rfl,_,_,rfl,⟨by rw [lrv];lia,by rw [lrv];lia,by decide,by decide⟩,qV8 (lo:=(((rs.map V.ref).length:Nat):Int) - 1) (n:=((((rs.map V.ref).length:Nat):Int) - 1 - -1).toNat) (fun i σ Hc=>∃ (bs:List Bool) (ks:List Int) (v3 v4:Option V),σ=[some (.ref a),some (.ref t),some (.ref fo),v3,v4]/\Same H Hc/\Hc fo=some (.lst (bs.map V.bl))/\Bls Ae.length ks bs/\Fnd2 Ae Ad ks ((Ae.length:Int) - i))
  ⟨_,[],none,none,rfl,s1,gfo,⟨by simp,fun x hx=>by simp [hx]⟩,⟨fun x hx=>(nomatch hx),fun x hx hl=>?_,fun w zs h1 h2=>(nomatch h2)⟩⟩ ?_ ?_⟩
 ·have:=(rA.in_ x hx).2
  lia
 ·refine fun i σ Hc hi hI_1=>opq fun G_1 hG_1=>?_;obtain ⟨bs,ks,v3,v4,rfl,sm,hf,B,fn⟩:=hI_1;refine hG_1 ?_;rw [lrv] at hi ⊢;obtain ⟨w0,ew⟩:∃ w0:Nat,(Ae.length:Int) - 1 - i=(w0:Int):=⟨Ae.length - 1 - i,by lia⟩
  have hw:w0<Ae.length:=by lia
  rw [ew];obtain ⟨r,h3,h4⟩:=NL.get (A3 hw);have hz:=A3 hw;have rz:=wf w0 _ hz;generalize Ae[w0]=zs at h4 hz rz;have ix:∀ {bs:List Bool} {ks:List Int} {x:Int},Bls Ae.length ks bs->0<=x->x<(Ae.length:Int)->ixN (bs.map V.bl).length x=some x.toNat:=fun {bs ks x} B h0 h1=>by
   have:=qS5 (xs:=bs.map V.bl) (j:=x.toNat) (by rw [A0,B.len];lia)
   rw [show ((x.toNat:Nat):Int)=x by lia] at this
   exact this
  -- Ad
  refine ⟨fun σ Hc=>∃ (bs:List Bool) (ks:List Int),σ=[some (.ref a),some (.ref t),some (.ref fo),some (.int (w0:Int)),v4]/\Same H Hc/\Hc fo=some (.lst (bs.map V.bl))/\Bls Ae.length ks bs/\(∀ x ∈ ks,(0<=x/\x<(Ae.length:Int))/\Nd Ae Ad x)/\(∀ x ∈ Ad,(w0:Int)<=x->x ∈ ks)/\(∀ (w:Nat) zs,(w0:Int)+1<=(w:Int)->(w:Int) ∈ ks->Ae[w]?=some zs->∀ y ∈ zs,y ∈ ks),?_,?_⟩
  ·refine ⟨_,rfl,_,rfl,t,_,rfl,.inr (SqT.of (sm _ _ hT)),rfl,qBR Ad,_,rfl,?_⟩;rw [qD3];by_cases c:(w0:Int) ∈ Ad
   ·rw [decide_eq_true c];refine ⟨_,rfl,_,rfl,fo,_,_,w0,rfl,rfl,hf,?_,?_⟩
    ·have:=ix B (x:=(w0:Int)) (by lia) (by lia)
     rw [F0] at this;exact this
    ·have st:=B.set (x:=(w0:Int)) (by lia) (by lia)
     rw [F0] at st;refine ⟨_,addI ks (w0:Int),rfl,qAG sm ffo,by rw [qA1,B06],st,fun x hx=>?_,fun x hx hl=>?_,fun w1 ys h1 h2 h9 y hy=>?_⟩
     ·rcases mem_addI.mp hx with hx | hx
      ·exact fn.in_ x hx
      ·rw [hx];exact ⟨⟨by lia,by lia⟩,.ask c⟩
     ·by_cases e:x=(w0:Int)
      ·exact mem_addI.mpr (.inr e)
      ·exact mem_addI.mpr (.inl (fn.ask x hx (by lia)))
     ·rcases mem_addI.mp h2 with h2 | h2
      ·exact mem_addI.mpr (.inl (fn.clo w1 ys (by lia) h2 h9 y hy))
      ·lia
   ·rw [decide_eq_false c];refine ⟨bs,ks,rfl,sm,hf,B,fn.in_,fun x hx hl=>?_,fun w1 ys h1 h2 h9=>fn.clo w1 ys (by lia) h2 h9⟩
    by_cases e:x=(w0:Int)
    ·rw [e] at hx;exact absurd hx c
    ·exact fn.ask x hx (by lia)
  refine fun σ Hc hI_2=>opq fun G_2 hG_2=>?_;obtain ⟨bs,ks,rfl,sm,hf,B,f1,f2,f3⟩:=hI_2;refine hG_2 ?_;refine ⟨_,rfl,_,rfl,fo,_,_,_,rfl,rfl,SqL.of hf,qDD (by lia) (by rw [F0];exact qW7 (B.at_ w0 hw)),_,rfl,?_⟩
  by_cases c:(w0:Int) ∈ ks
  ·rw [decide_eq_true c];refine ⟨_,rfl,_,rfl,a,_,_,_,rfl,rfl,SqT.of (sm _ _ hA),qDD (by lia) (by rw [F0,B5,h3];rfl),r,rfl,⟨_,SqT.of (sm _ _ h4)⟩,qIA (a:=r) (xs:=zs.map V.int) (fun k σ Hd=>∃ (bs:List Bool) (ks:List Int) (v4:Option V),σ=[some (.ref a),some (.ref t),some (.ref fo),some (.int (w0:Int)),v4]/\Same H Hd/\Hd fo=some (.lst (bs.map V.bl))/\Bls Ae.length ks bs/\(∀ x ∈ ks,(0<=x/\x<(Ae.length:Int))/\Nd Ae Ad x)/\(∀ x ∈ Ad,(w0:Int)<=x->x ∈ ks)/\(∀ (w:Nat) zs,(w0:Int)+1<=(w:Int)->(w:Int) ∈ ks->Ae[w]?=some zs->∀ y ∈ zs,y ∈ ks)/\(w0:Int) ∈ ks/\∀ y ∈ zs.take k,y ∈ ks)
    ⟨bs,ks,v4,rfl,sm,hf,B,f1,f2,f3,c,fun y hy=>by simp at hy⟩ (fun k σ Hd _ hP=>by obtain ⟨_,_,_,_,sd,_⟩:=hP;exact SqT.of (sd _ _ h4)) ?_ ?_⟩
   ·refine fun k x σ Hd hx hI_3=>opq fun G_3 hG_3=>?_;obtain ⟨bs,ks,v4,rfl,sd,hfd,B,f1,f2,f3,c,ty⟩:=hI_3;obtain ⟨y,ey,rfl⟩:=qBB hx;refine hG_3 ?_;have my:=C3 ey;have yb:=rz.in_ y my;refine ⟨_,rfl,_,rfl,fo,_,_,y.toNat,rfl,rfl,hfd,ix B yb.1 (by lia),?_⟩
    refine ⟨_,addI ks y,_,rfl,qAG sd ffo,by rw [qA1,B06],B.set yb.1 (by lia),fun x hx=>?_,fun x hx hl=>mem_addI.mpr (.inl (f2 x hx hl)),fun w1 ys h1 h2 h9 z hz'=>?_,mem_addI.mpr (.inl c),fun z hz'=>?_⟩
    ·rcases mem_addI.mp hx with hx | hx
     ·exact f1 x hx
     ·rw [hx];exact ⟨⟨yb.1,by lia⟩,.need (f1 _ c).2 (by rw [F0];exact hz) my⟩
    ·rcases mem_addI.mp h2 with h2 | h2
     ·exact mem_addI.mpr (.inl (f3 w1 ys h1 h2 h9 z hz'))
     ·lia
    ·rw [C7,ey,C8,B1,A8] at hz';rcases hz' with hz' | hz'
     ·exact mem_addI.mpr (.inl (ty z hz'))
     ·exact mem_addI.mpr (.inr hz')
   ·refine fun σ Hd hI_4=>opq fun G_4 hG_4=>?_;obtain ⟨bs,ks,v4,rfl,sd,hfd,B,f1,f2,f3,c,ty⟩:=hI_4;refine hG_4 ?_;rw [A0,qBG rfl] at ty;refine ⟨bs,ks,_,_,rfl,sd,hfd,B,f1,fun x hx hl=>f2 x hx (by lia),fun w1 ys h1 h2 h9=>?_⟩
    by_cases e:w1=w0
    ·subst e;rw [hz] at h9;cases h9;exact ty
    ·exact f3 w1 ys (by lia) h2 h9
  ·rw [decide_eq_false c];refine ⟨bs,ks,_,_,rfl,sm,hf,B,f1,fun x hx hl=>f2 x hx (by lia),fun w1 ys h1 h2 h9=>?_⟩
   by_cases e:w1=w0
   ·subst e;exact absurd h2 c
   ·exact f3 w1 ys (by lia) h2 h9
 ·refine fun σ Hc hI_5=>opq fun G_5 hG_5=>?_;obtain ⟨bs,ks,v3,v4,rfl,sm,hf,B,fn⟩:=hI_5;refine hG_5 ?_;rw [lrv,show ((Ae.length:Int) - (((Ae.length:Int) - 1 - -1).toNat:Nat))=0 by lia] at fn
  have all:=Fnd.all wf (⟨fn.in_,fun x hx=>fn.ask x hx (rA.in_ x hx).1,fn.clo⟩:Fnd Ae Ad ks 0);have lrn:((((rs.map V.ref).length:Nat):Int)).toNat=Ae.length:=by rw [lrv];lia
  refine ⟨_,rfl,a,_,rfl,.inr (SqT.of (sm _ _ hA)),_,rfl,by rw [lrv];lia,by rw [lrv];lia,fun p hp=>?_⟩
  refine qCI (p:=p) (lo:=0) (n:=((((rs.map V.ref).length:Nat):Int)).toNat) (fun i σ Hd=>∃ (v:Option V),σ=[v,some (.ref fo)]/\Same Hc Hd/\Hd p=some (.lst ((((qB8 0 Ae.length).take i).filter fun x=>decide (x ∈ ks)).map V.int))) ?_ ?_ ?_
  ·exact ⟨none,rfl,qA3 hp _,qA1⟩
  ·refine fun i σ Hd hi hI_6=>opq fun G_6 hG_6=>?_;obtain ⟨v,rfl,sd,hpd⟩:=hI_6;refine hG_6 ?_;rw [lrn] at hi;have lk:=qBS (p:=fun x=>decide (x ∈ ks)) (l:=qB8 0 Ae.length) (i:=i);refine ⟨_,rfl,_,rfl,fo,_,_,_,rfl,rfl,SqL.of (sd _ _ hf),qDD (by lia) (by rw [show (0+(i:Int)).toNat=i by lia];exact qW7 (B.at_ i hi)),_,rfl,?_⟩
   rw [qCD (qFE (by lia)),B05]
   by_cases c:(i:Int) ∈ ks
   ·rw [decide_eq_true c];refine ⟨_,rfl,_,hpd,qAH (by rw [A0];lia),_,rfl,qAG sd hp,?_⟩
    rw [qA1,if_pos rfl,B0]
    rfl
   ·rw [decide_eq_false c];refine ⟨_,rfl,sd,?_⟩;simpa using hpd
  ·refine fun σ Hd hI_7=>opq fun G_7 hG_7=>?_;obtain ⟨v,rfl,sd,hpd⟩:=hI_7;refine hG_7 ?_;rw [qBG (by rw [qDP,lrn];lia)] at hpd
   refine q p _ Hd (sm.trans sd) (sm.free hp) hpd ⟨⟨(qFX _ _).filter _,fun x hx=>mem_rangeI.mp (K9.mp hx).1⟩,fun x=>?_⟩;rw [K9,mem_rangeI,decide_eq_true_eq,<- all x];exact ⟨fun z=>z.2,fun z=>⟨(fn.in_ x z).1,z⟩⟩
theorem qU8:FnScope ["_law_net_here","_law_rooms","_law_stand","_law_move"] ["_law_net_here","_law_rooms","_law_stand","_law_move"] (qAE qK4):=qBP
theorem ok_Lword (F:Fun K "_law_word" "_law_word" qK4 f fd) (qAZ:mg "len" = none) (qJV:mg "all" = none):FnOk P w K mg base CX0 1 f fd ["_law_net_here","_law_rooms","_law_stand","_law_move"] qK0:=by
 refine F.okA qU8 fun cdv A outer s H vs Q E hr h=>?_;obtain ⟨a,so,mv,Ae,st,ns,Aa,wk,Ac,rfl,hN,hst,lst,hmv,hword,wk0,hns,lns,q⟩:=h;refine ⟨_,(qA4 (qBI (qAL qG1 (qBL qC8 (pv 3) qA8 (fun _ _=>rfl)) qBJ (qAQ _)) (qA6 (qAI (qHH (qAL qDT (qBL qC8 (pv 3) qA8 (fun _ _=>rfl)) (pv 2) (by with_unfolding_all rfl)) qFY qBJ))) qAO) (qA4 (qBI (qAL qDT (qBL qC8 (pv 3) qA8 (fun _ _=>rfl)) (pv 2) (by with_unfolding_all rfl)) (qA6 (qAI qBJ)) qAO) (qA4 (qBI (qCA (qBX (qA9 (qGA rfl) rfl qJV qML (qA0 (qC6 rfl (lcs (own:=["_law_need"]) (fv:=[2]) (by kernel_rfl)) (qDQ (qBL qC8 (pv 0) (qBL qC8 (pv 3) qA8 (fun _ _=>rfl)) (fun _ _=>rfl))) (fun z1=>qBF 0) (fun z1=>qB2) (fun z1=>(qD0 (qJB (K:=K) rfl) (pv 0) (pv 1) (by with_unfolding_all rfl)))) qA2)))) (qA6 (qAI qBJ)) qAO) (qA6 (qAI (qHH (qAL qUO (qA9 qAA rfl qAZ qAY (qA0 (pv 2) qA2)) (pv 1) (qAQ _)) qBJ qFY)))))),?_⟩
 try dsimp only [Cx.nox,Cx.wish,cxOf]
 refine ⟨_,rfl,mv,_,_,_,rfl,rfl,SqT.of hmv,rfl,rfl,_,rfl,?_⟩;refine ite2 (fun ck=>?_) (fun ck=>?_)
 ·have hd:Ac = "clear":=V.str.inj (of_decide_eq_true ck);have q':=q H (Same.refl H);unfold qD7 qDN at q';rw [if_neg (by rw [hd];exact qBE)] at q'
  refine ⟨_,rfl,mv,_,_,_,rfl,rfl,SqT.of hmv,rfl,_,rfl,so,_,rfl,.inr (SqT.of hst),rfl,qBR st,_,rfl,?_⟩;rw [qD3];refine ite2 (fun cw=>?_) (fun cw=>?_)
  ·rw [if_pos (of_decide_eq_true cw)] at q';exact q'
  ·rw [if_neg (of_decide_eq_false (F5.mpr cw))] at q';exact q'
 ·have hd:Ac = "do":=hword.resolve_right fun e=>(of_decide_eq_false (F5.mpr ck)) (congrArg V.str e)
  have q1:∀ H',Same H H'->Q (qD8 ns st Aa wk) H':=fun H' sm=>by
   have q':=q H' sm;unfold qD7 at q';rw [if_pos hd] at q';exact q'
  refine ⟨_,rfl,mv,_,_,_,rfl,rfl,SqT.of hmv,rfl,_,rfl,so,_,rfl,.inr (SqT.of hst),rfl,qBR st,_,rfl,?_⟩;rw [qD3];refine ite2 (fun cw=>?_) (fun cw=>?_)
  ·have q':=q1 H (Same.refl H);unfold qD8 at q';rw [if_pos (of_decide_eq_true cw)] at q';exact q'
  ·have hw:¬ wk ∈ st:=of_decide_eq_false (F5.mpr cw);obtain ⟨rs,r,h1,l1,h2,h3⟩:=hN.get hns;refine ⟨_,rfl,_,rfl,mv,_,_,_,rfl,rfl,SqT.of hmv,rfl,a,_,_,_,rfl,rfl,SqT.of h1,qDD wk0 h2,r,rfl,⟨_,SqT.of h3⟩,fun p hp=>?_⟩;refine qER (p:=p) (a:=r) (xs:=ns.map V.int) (fun i σ Hc=>∃ (v:Option V),σ=[v,some (.ref so)]/\Same H Hc/\Hc p=some (.lst (((ns.take i).map fun x=>decide (x ∈ st)).map V.bl))) ?_ ?_ ?_ ?_
   ·exact ⟨none,rfl,qA3 hp _,qA1⟩
   ·rintro i σ Hc hi ⟨v,rfl,sm,_⟩;exact SqT.of (sm _ _ h3)
   ·refine fun i x σ Hc hx hI_2=>opq fun G_2 hG_2=>?_;obtain ⟨v,rfl,sm,hpc⟩:=hI_2;obtain ⟨z,ez,rfl⟩:=qBB hx;refine hG_2 ?_;have hi:i<ns.length:=(A5.mp ez).1;refine ⟨_,rfl,_,rfl,so,_,rfl,.inr (SqT.of (sm _ _ hst)),rfl,qBR st,_,hpc,qAH (by rw [A0,A0,B9];lia),_,rfl,qAG sm hp,?_⟩
    rw [qA1];refine congrArg (fun l=>some (HO.lst l)) ?_;rw [<- qJX ez];show _++[V.bl (inV (.int z) (st.map V.int))]=_;rw [qD3]
   ·refine fun σ Hc hI_3=>opq fun G_3 hG_3=>?_;obtain ⟨v,rfl,sm,hpc⟩:=hI_3;refine hG_3 ?_;rw [A0,D3 (A6 _)] at hpc;refine ⟨p,_,rfl,SqL.of hpc,_,rfl,?_⟩;have q':=q1 Hc sm;unfold qD8 at q';rw [if_neg hw] at q';cases hall:(ns.map fun x=>decide (x ∈ st)).all id with
    | false=>
     have na:¬ ∀ x ∈ ns,x ∈ st:=fun z=>by rw [all_in.mpr z] at hall;cases hall
     rw [if_neg na] at q';exact q'
    | true=>
     rw [if_pos (all_in.mp hall)] at q';refine ⟨_,rfl,so,_,rfl,.inr (SqT.of (sm _ _ hst)),_,rfl,_,_,rfl,rfl,_,rfl,?_⟩;refine ite2 (fun cf=>?_) (fun cf=>?_)
     ·have cf':Aa<=(((st.map V.int).length:Nat):Int):=of_decide_eq_true cf;rw [A0] at cf';rw [if_pos cf'] at q';exact q'
     ·have cf':¬ Aa<=(((st.map V.int).length:Nat):Int):=of_decide_eq_false (F5.mpr cf);rw [A0] at cf';rw [if_neg cf'] at q';exact q'
theorem qX4 {j:Int} (h0:0<=j) (h1:j<=1000):CPow 1 j:=⟨h0,by lia,by decide⟩
theorem qR5 {n:Nat} (h:n<=12):2 ^ n<=4096:=by
 have:=W5 (show 0<2 by decide) h
 simpa using this
theorem sc_Lcome:FnScope ["_law_net_here","_law_rooms","_law_needs","_law_found","_law_layer","_law_many","_law_cleared","_law_at","_law_work","_law_less","_law_bits_here","_law_more"] ["_law_net_here","_law_rooms"] (qAE qK7):=qBP
theorem ok_Lcome (F:Fun K "_law_come" "_law_come" qK7 f fd) (qTZ:mg "sum" = none) (qEK:mg "list" = none) (qAZ:mg "len" = none) (qAR:mg "range" = none):FnOk P w K mg base CX0 1 f fd ["_law_net_here","_law_rooms"] qR0:=by
 refine F.okA sc_Lcome fun cdv A outer s H vs Q E hr h=>?_;obtain ⟨a,Ae,Aa,rfl,hN,wf,n12,q⟩:=h;have hu:=qIU hr;have hu0:=hr.units0;refine ⟨_,(qA4 (qLU (i:=2) sc_Lcome.nd rfl rfl rfl (lcs (own:=["_law_one"]) (fv:=[]) (by kernel_rfl)) (qDQ (pv 0)) (fun z1=>qBF 0) (fun z1=>qB2) (fun z1=>(qA9 (qTC (K:=K) rfl rfl) rfl qTZ qTG (qA0 (qC6 (X:=lcCx _ _ _ _ z1) rfl (lcs (own:=["_law_need"]) (fv:=[]) (by kernel_rfl)) (qN2 (K:=K) rfl (pv 0)) (fun z2=>qBF 0) (fun z2=>qB2) (fun z2=>(qAM qOP qA8 (pv 0)))) qA2))) (by kernel_rfl)) (qA4 (qAJ (i:=3) sc_Lcome.nd rfl (E8 rfl) (qRL (qKD qA8 qA8 qRD) rfl rfl (by simp) (by decide))) (qA4 (qAJ (i:=4) sc_Lcome.nd rfl (E8 rfl) (qB4 (qA0 qA8 qA2))) (qA4 (qAJ (i:=5) sc_Lcome.nd rfl (E8 rfl) qA8) (qA4 (qKC E1 (qAL (qRP hu0) (pv 4) (qB4 qA2) (qAQ _)) (qA4 (qAJ (i:=6) sc_Lcome.nd rfl (E8 rfl) (qAD qDF rfl qEK qGV (qA0 (pv 4) qA2))) (qA4 (qAJ (i:=7) sc_Lcome.nd rfl (E8 rfl) qA8) (qA4 (qKC E1 (qAL qM1 (pv 7) (qA9 qAA rfl qAZ qAY (qA0 (pv 6) qA2)) (qAQ _)) (qA4 (qBY E1 rfl (qB0 rfl qAR (qA0 (qA9 qAA rfl qAZ qAY (qA0 (pv 0) qA2)) qA2)) (qAW (i:=8) sc_Lcome.nd rfl (E8 rfl)) (qA4 (qAJ (i:=9) sc_Lcome.nd rfl (E8 rfl) (qAM qDS (qBL qC1 (pv 6) (pv 7) (fun _ _=>rfl)) (qAM qI2 (qAM qOP qA8 (pv 8)) (qAM qM2 (qAM qRO (qBL qC1 (pv 6) (pv 7) (fun _ _=>rfl)) (pv 8)) qA8)))) (qA6 (qBI (qF9 (qEP hu (pv 9) (pv 3))) (qA4 (qGK hu (pv 3) (pv 9) (pv 5) rfl) (qA6 (qGJ (qPY P4 Q6 Q7 qDW (pv 6) (qA0 (pv 9) qA2))))) qAO)))) (qA6 (qAJ (i:=7) sc_Lcome.nd rfl (E8 rfl) (qAM qD2 (pv 7) qA8))))) (qA4 (qAJ (i:=5) sc_Lcome.nd rfl (E8 rfl) (qAM qD2 (pv 5) qA8)) (qA4 (qAJ (i:=4) sc_Lcome.nd rfl (E8 rfl) (qB4 qA2)) (qA6 (qBY E1 rfl (qCC (pv 6)) (qAW (i:=10) sc_Lcome.nd rfl (o6 rfl)) (qA6 (qBI (qAL qM1 (qA9 (qL0 rfl) rfl qTZ qTG (qA0 (qC6 rfl (lcs (own:=["_law_work"]) (fv:=[10]) (by kernel_rfl)) (qB0 rfl qAR (qA0 (qA9 qAA rfl qAZ qAY (qA0 (pv 0) qA2)) qA2)) (fun z3=>qBF 0) (fun z3=>qB2) (fun z3=>(qAM qM2 (qAM qRO (pv 1) (pv 0)) qA8))) qA2)) (pv 1) (qAQ _)) (qA6 (qBY E1 rfl (qB0 rfl qAR (qA0 (qA9 qAA rfl qAZ qAY (qA0 (pv 0) qA2)) qA2)) (qAW (i:=8) sc_Lcome.nd rfl (E8 rfl)) (qA4 (qAJ (i:=11) sc_Lcome.nd rfl (E8 rfl) (qAM qaP (pv 10) (qAM qOP qA8 (pv 8)))) (qA6 (qBI (PW.pt (qVV (qAL qG1 (qAM qM2 (pv 10) (qBL qC1 (pv 2) (pv 8) (fun _ _=>rfl))) (qBL qC1 (pv 2) (pv 8) (fun _ _=>rfl)) (qAQ _)) (qRB (qF9 (qEP hu (pv 11) (pv 3)))))) (qA4 (qGK hu (pv 3) (pv 11) (pv 5) rfl) (qA6 (qGJ (qPY P4 Q6 Q7 qDW (pv 4) (qA0 (pv 11) qA2))))) qAO))))) qAO)))))))))) (qA6 (qAI (qZ1 (pv 3))))))))),?_⟩
 try dsimp only [Cx.nox,Cx.wish,cxOf]
 obtain ⟨rs,hA,NL⟩:=id hN;have l2:=qR5 n12;have lrs:rs.length=Ae.length:=C6 NL;have lrv:(((rs.map V.ref).length:Nat):Int)=(Ae.length:Int):=by rw [A0,lrs]
 have lrn:((((rs.map V.ref).length:Nat):Int)).toNat=Ae.length:=by rw [lrv];lia
 refine cut fun N1 hN1=>?_;refine ⟨_,rfl,a,rfl,⟨_,SqT.of hA⟩,fun p hp=>?_⟩;refine qER (p:=p) (a:=a) (xs:=rs.map V.ref) (fun j σ Hd=>∃ (v:Option V),σ=[v]/\Same H Hd/\Hd p=some (.lst ((natI ((Ae.take j).map mskN)).map V.int))) ?_ ?_ ?_ ?_
 ·exact ⟨none,rfl,qA3 hp _,qA1⟩
 ·rintro j σ Hd hj ⟨v,rfl,sm,_⟩;exact SqT.of (sm _ _ hA)
 ·refine fun j x σ Hd hx hI_2=>opq fun G_2 hG_2=>?_;obtain ⟨v,rfl,sm,hpd⟩:=hI_2;obtain ⟨r,er,rfl⟩:=qES hx;refine hG_2 ?_;have hj:j<Ae.length:=by have:=(A5.mp er).1;lia
  have hz:=A3 hj;obtain ⟨r',h3,h4⟩:=NL.get hz;rw [er] at h3;cases h3;have rz:=wf j _ hz;generalize Ae[j]=zs at h4 hz rz;have lz:=rz.len;refine ⟨_,rfl,r,rfl,⟨_,SqT.of (sm _ _ h4)⟩,fun p2 hp2=>?_⟩;refine qER (p:=p2) (a:=r) (xs:=zs.map V.int) (fun i σ He=>∃ (v:Option V),σ=[v]/\Same Hd He/\He p2=some (.lst (((zs.take i).map fun z=>(1:Int) * 2 ^ z.toNat).map V.int))) ?_ ?_ ?_ ?_
  ·exact ⟨none,rfl,qA3 hp2 _,qA1⟩
  ·rintro i σ He hi ⟨v,rfl,se,_⟩;exact SqT.of (se _ _ (sm _ _ h4))
  ·refine fun i x σ He hx hI_4=>opq fun G_4 hG_4=>?_;obtain ⟨v,rfl,se,hpe⟩:=hI_4;obtain ⟨z,ez,rfl⟩:=qBB hx;refine hG_4 ?_;have hi:=(A5.mp ez).1;have zb:=rz.in_ z (C3 ez);refine ⟨_,rfl,_,_,rfl,rfl,qX4 zb.1 (by lia),_,hpe,qAH (by rw [A0,A0,B9];lia),_,rfl,qAG se hp2,?_⟩
   rw [qA1,C7,ez,C8,B0,B0]
   rfl
  ·refine fun σ He hI_5=>opq fun G_5 hG_5=>?_;obtain ⟨v,rfl,se,hpe⟩:=hI_5;refine hG_5 ?_;rw [A0,qBG rfl] at hpe;refine ⟨p2,_,rfl,SqL.of hpe,_,se _ _ hpd,qAH (by rw [A0,qG2,A0,B9];lia),_,rfl,qAG (sm.trans se) hp,?_⟩
   rw [qA1,C7,hz,C8,B0,x5,qI5,B0,qN9]
   rfl
 refine fun σ Hd hI_6=>opq fun G_6 hG_6=>?_;obtain ⟨v,rfl,sm0,gp⟩:=hI_6;refine hG_6 ?_;rw [A0,lrs,qBG rfl] at gp;have fp:H p=none:=hp;clear hp v;refine hN1 _ _ (cut fun N2 hN2=>?_);intro d hd;refine ⟨qA1,[(F9 0,.int 0)],rfl,(by show 1<=15;decide),?_⟩
 rw [qHQ];have fdn:H d=none:=sm0.free hd;have sd:=qA3 hd (.dK (qFA [] [((F9 0:Key),V.int 0)]));have gd:(Ag Hd d (.dK (qFA [] [((F9 0:Key),V.int 0)]))) d=some (.dK (kvN [0] fun _=>0)):=qA1;have npd:p ≠ d:=qA7 gp hd;have gp1:=sd _ _ gp;have sm1:=sm0.trans sd;generalize Ag Hd d (.dK (qFA [] [((F9 0:Key),V.int 0)]))=H1 at sd gd gp1 sm1 ⊢;refine hN2 _ _ (cut fun N3 hN3=>?_);refine ⟨(by show 1<=sizeLine;decide),fun l0 hl0=>?_⟩
 have sl:=qA3 hl0 (.lst [.int 0]);have gl0:(Ag H1 l0 (.lst [.int 0])) l0=some (.lst ((natI [0]).map V.int)):=qA1;have gd1:=sl _ _ gd;have gp2:=sl _ _ gp1;have sm2:=sm1.trans sl;generalize Ag H1 l0 (.lst [.int 0])=H2 at sl gl0 gd1 gp2 sm2 ⊢;refine hN3 _ _ (cut fun N4 hN4=>?_);refine hN4 _ _ (cut fun N5 hN5=>?_);clear hN1 hN2 hN3 hN4 gd gp gp1 sd sl sm0 sm1 hl0 hd;refine ⟨fun m σ Hc=>∃ (ks ly:List Nat) (f:Nat->Nat) (many:Nat) (ll:Addr) (v6 v7 v8 v9 v10 v11:Option V),σ=[some (.ref a),some (.int Aa),some (.ref p),some (.ref d),some (.ref ll),some (.int (many:Int)),v6,v7,v8,v9,v10,v11]/\m=2 ^ Ae.length+1 - many/\Same H Hc/\Hc p=some (.lst ((natI (Ae.map mskN)).map V.int))/\Hc d=some (.dK (kvN ks f))/\Hc ll=some (.lst ((natI ly).map V.int))/\A1 Ae Aa many ks f ly 0 0/\(ly ≠ []->many<ks.length),
  ⟨_,[0],[0],fun _=>0,0,l0,none,none,none,none,none,none,rfl,rfl,sm2,gp2,gd1,gl0,A1.start,fun _=>by decide⟩,?_⟩
 refine fun m σ Hc hI_7=>opq fun G_7 hG_7=>?_;obtain ⟨ks,ly,f,many,ll,v6,v7,v8,v9,v10,v11,rfl,rfl,sm,gp,gd,gl,I1,lm⟩:=hI_7;refine hG_7 ?_;refine ⟨_,rfl,(by show 0<=sizeLine;decide),fun e he=>?_⟩
 have se:=qA3 he (.lst []);refine ⟨ll,e,_,rfl,rfl,SqL.of (se _ _ gl),SqL.of qA1,_,rfl,?_⟩;have gp1:=se _ _ gp;have gd1:=se _ _ gd;have gl1:=se _ _ gl;have sm1:=sm.trans se;generalize Ag Hc e (.lst [])=H3 at gp1 gd1 gl1 sm1 ⊢;clear se he gp gd gl sm;refine ite2 (fun cn=>?_) (fun cn=>?_)
 ·have lne:ly ≠ []:=fun z=>by rw [z] at cn;cases cn
  have lk:=lm lne;have kl:=I1.fd.len;refine qZ6 fun W0 hW0=>?_;refine cut fun M1 hM1=>?_;refine ⟨_,rfl,ll,_,rfl,.inl (SqL.of gl1),fun c hc=>?_⟩;have fc:H c=none:=sm1.free hc;have sc:=qA3 hc (.lst ((natI ly).map V.int));have npc:p ≠ c:=qA7 gp1 hc;have ndc:d ≠ c:=qA7 gd1 hc;have gc:(Ag H3 c (.lst ((natI ly).map V.int))) c=some (.lst ((natI ly).map V.int)):=qA1;have gp2:=sc _ _ gp1;have gd2:=sc _ _ gd1;have sm2:=sm1.trans sc;generalize Ag H3 c (.lst ((natI ly).map V.int))=H4 at gc gp2 gd2 sm2 ⊢;clear sc hc gp1 gd1 gl1 sm1;refine hM1 _ _ (cut fun M2 hM2=>?_);refine hM2 _ _ (cut fun M3 hM3=>?_);clear hM1 hM2;refine ⟨fun m σ Hc=>∃ (ks cl:List Nat) (f:Nat->Nat) (at_:Nat) (v8 v9:Option V),σ=[some (.ref a),some (.int Aa),some (.ref p),some (.ref d),some (.ref ll),some (.int (many:Int)),some (.ref c),some (.int (at_:Int)),v8,v9,v10,v11]/\m=2 ^ Ae.length - at_/\Same H Hc/\Hc p=some (.lst ((natI (Ae.map mskN)).map V.int))/\Hc d=some (.dK (kvN ks f))/\Hc c=some (.lst ((natI cl).map V.int))/\A1 Ae Aa many ks f cl at_ 0/\many<ks.length,
   ⟨_,ks,ly,f,0,v8,v9,rfl,rfl,sm2,gp2,gd2,gc,I1,lk⟩,?_⟩
  clear gp2 gd2 gc sm2 I1 lk kl lm;refine fun m σ Hc hI_8=>opq fun G_8 hG_8=>?_;obtain ⟨ks,cl,f,at_,v8,v9,rfl,rfl,sm,gp,gd,gc,I1,lk⟩:=hI_8;refine hG_8 ?_;have lcl:=I1.len;have kl:=I1.fd.len;refine ⟨_,rfl,_,rfl,c,_,rfl,.inl (SqL.of gc),_,_,rfl,rfl,_,rfl,?_⟩;have ecl:(((((natI cl).map V.int).length:Nat):Int))=(cl.length:Int):=by rw [A0,qG2]
  dsimp only;rw [ecl];refine ite2 (fun ca=>?_) (fun ca=>?_)
  ·have ca':(at_:Int)<(cl.length:Int):=of_decide_eq_true ca;refine qZ6 fun W1 hW1=>?_;refine cut fun L1 hL1=>?_;refine ⟨_,rfl,a,_,rfl,.inr (SqT.of (sm _ _ hA)),_,rfl,by rw [lrv];lia,by rw [lrv];lia,qJH (lo:=0) (n:=((((rs.map V.ref).length:Nat):Int)).toNat) (fun k σ Hc=>∃ (ks cl:List Nat) (f:Nat->Nat) (v8 v9:Option V),σ=[some (.ref a),some (.int Aa),some (.ref p),some (.ref d),some (.ref ll),some (.int (many:Int)),some (.ref c),some (.int (at_:Int)),v8,v9,v10,v11]/\Same H Hc/\Hc p=some (.lst ((natI (Ae.map mskN)).map V.int))/\Hc d=some (.dK (kvN ks f))/\Hc c=some (.lst ((natI cl).map V.int))/\A1 Ae Aa many ks f cl at_ k/\many<ks.length/\at_<cl.length)
    ⟨ks,cl,f,v8,v9,rfl,sm,gp,gd,gc,I1,lk,by lia⟩ ?_ ?_⟩
   ·clear sm gp gd gc I1 lk lcl kl ca ca' ecl;refine fun k σ Hc hk hI_9 Na hNa=>opq fun G_9 hG_9=>?_;obtain ⟨ks,cl,f,v8,v9,rfl,sm,gp,gd,gc,I1,lk,la⟩:=hI_9;refine hG_9 ?_;rw [lrn] at hk;have lcl:=I1.len;have kl:=I1.fd.len;have ec:cl[at_]?=some cl[at_]:=A3 la;generalize cl[at_]=x at ec;have ga:atI ((natI cl).map V.int) (at_:Int)=some (.int (x:Int)):=qDD (by lia) (by rw [F0,B5,qOS ec];rfl)
    have e0:(0+(k:Int)).toNat=k:=by lia
    refine cut fun L2 hL2=>?_;refine ⟨_,rfl,_,rfl,c,_,_,_,rfl,rfl,SqL.of gc,ga,_,rfl,_,_,rfl,rfl,qX4 (by lia) (by lia),_,rfl,_,rfl,c,_,_,_,rfl,rfl,SqL.of gc,ga,_,rfl,_,_,rfl,rfl,(by show (0:Int)<=0+(k:Int);lia),_,_,rfl,rfl,_,_,rfl,rfl,?_,_,_,rfl,rfl,?_⟩
    ·rw [e0,qNY];refine .inr ⟨by lia,?_⟩
     have:=X1 (x / 2 ^ k) (show 0<2 by decide)
     lia
    dsimp only;rw [e0,qXZ];refine hL2 _ _ ?_;refine ⟨_,rfl,_,rfl,d,_,rfl,DGet.k (k:=F9 ((clrb x k:Nat):Int)) gd,_,rfl,?_⟩;rw [qNH];by_cases ck:clrb x k ∈ ks
    ·rw [if_pos ck];exact hNa _ _ ⟨ks,cl,f,_,_,rfl,sm,gp,gd,gc,I1.hit ec ck,lk,la⟩
    ·rw [if_neg ck];refine iteT (cut fun L3 hL3=>?_);refine ⟨_,rfl,_,rfl,_,rfl,d,_,rfl,DPut.k (k:=F9 ((clrb x k:Nat):Int)) gd (qBM (by rw [qKG];lia)),?_⟩
     rw [qS2 ck];refine hL3 _ _ ?_;have gc1:(Ag Hc d (.dK (kvN (ks++[clrb x k]) (fset f (clrb x k) many)))) c=some (.lst ((natI cl).map V.int)):=by rw [qAC ndc.symm];exact gc
     refine ⟨_,rfl,.inl ⟨rfl,_,SqL.of gc1⟩,_,rfl,c,_,_,rfl,rfl,gc1,qBM (by rw [A0,qG2];lia),?_⟩
     refine hNa _ _ ⟨ks++[clrb x k],cl++[clrb x k],fset f (clrb x k) many,_,_,rfl,qAG (qAG sm fdn) fc,by rw [qAC npc,qAC npd];exact gp,by rw [qAC ndc,qA1],?_,I1.add ec hk ck,by rw [A7];lia,by rw [A7];lia⟩
     rw [qA1,qI5,B0]
     rfl
   ·refine fun σ Hc hI_10=>opq fun G_10 hG_10=>?_;obtain ⟨ks,cl,f,v8,v9,rfl,sm,gp,gd,gc,I1,lk,la⟩:=hI_10;refine hG_10 ?_;rw [lrn] at I1;have lcl:=I1.len;refine hL1 _ _ ?_;refine ⟨_,rfl,_,_,rfl,rfl,?_⟩;exact hW1 _ _ ⟨2 ^ Ae.length - (at_+1),by lia,ks,cl,f,at_+1,_,_,rfl,rfl,sm,gp,gd,gc,I1.next,lk⟩
  ·have ca':¬ (at_:Int)<(cl.length:Int):=of_decide_eq_false (F5.mpr ca);refine hM3 _ _ (cut fun M4 hM4=>?_);refine ⟨_,rfl,_,_,rfl,rfl,?_⟩;refine hM4 _ _ (cut fun M5 hM5=>?_);refine ⟨(by show 0<=sizeLine;decide),fun lz hlz=>?_⟩
   have flz:H lz=none:=sm.free hlz;have sz:=qA3 hlz (.lst []);have npz:p ≠ lz:=qA7 gp hlz;have ndz:d ≠ lz:=qA7 gd hlz;have ncz:c ≠ lz:=qA7 gc hlz;have gz:(Ag Hc lz (.lst [])) lz=some (.lst ((natI []).map V.int)):=qA1;have gp1:=sz _ _ gp;have gd1:=sz _ _ gd;have gc1:=sz _ _ gc;have sm1:=sm.trans sz;generalize Ag Hc lz (.lst [])=H5 at gz gp1 gd1 gc1 sm1 ⊢;clear sz hlz gp gd gc sm;refine hM5 _ _ ?_;have J0:=I1.two (by lia)
   refine ⟨_,rfl,c,rfl,⟨_,SqL.of gc1⟩,qSM (a:=c) (xs:=(natI cl).map V.int) (fun i σ Hc=>∃ (ks ly:List Nat) (f:Nat->Nat) (v8 v10 v11:Option V),σ=[some (.ref a),some (.int Aa),some (.ref p),some (.ref d),some (.ref lz),some (.int ((many+1:Nat):Int)),some (.ref c),some (.int (at_:Int)),v8,v9,v10,v11]/\Same H Hc/\Hc p=some (.lst ((natI (Ae.map mskN)).map V.int))/\Hc d=some (.dK (kvN ks f))/\Hc lz=some (.lst ((natI ly).map V.int))/\Hc c=some (.lst ((natI cl).map V.int))/\A2 Ae Aa many ks f cl ly i 0/\many+1+ly.length<=ks.length)
    ⟨ks,[],f,v8,v10,v11,rfl,sm1,gp1,gd1,gz,gc1,J0,by simp;lia⟩ (fun i σ Hc _ hP=>by obtain ⟨_,_,_,_,_,_,_,_,_,_,_,g,_⟩:=hP;exact SqL.of g) ?_ ?_⟩
   ·clear gp1 gd1 gc1 gz sm1 J0 I1 lk kl;refine fun i x0 σ Hc hx hI_11 Nb hNb=>opq fun G_11 hG_11=>?_;obtain ⟨ks,ly,f,v8,v10,v11,rfl,sm,gp,gd,gz,gc,J,lk⟩:=hI_11;obtain ⟨z,ez,rfl⟩:=qBB hx;obtain ⟨x,ec,rfl⟩:=qXC ez;refine hG_11 ?_;refine ⟨_,rfl,a,_,rfl,.inr (SqT.of (sm _ _ hA)),_,rfl,by rw [lrv];lia,by rw [lrv];lia,fun p2 hp2=>?_⟩
    refine qCI (p:=p2) (lo:=0) (n:=((((rs.map V.ref).length:Nat):Int)).toNat) (fun k σ Hd=>∃ (v:Option V),σ=[v,some (.int (x:Int))]/\Same Hc Hd/\Hd p2=some (.lst ((((E6 k).map fun k=>((x / 2 ^ k % 2:Nat):Int))).map V.int))) ?_ ?_ ?_
    ·exact ⟨none,rfl,qA3 hp2 _,qA1⟩
    ·refine fun k σ Hd hk hI_12=>opq fun G_12 hG_12=>?_;obtain ⟨v,rfl,sd,hpd⟩:=hI_12;refine hG_12 ?_;rw [lrn] at hk;have e0:(0+(k:Int)).toNat=k:=by lia
     refine ⟨_,rfl,_,rfl,_,_,rfl,rfl,(by show (0:Int)<=0+(k:Int);lia),_,_,rfl,rfl,_,hpd,qAH (by rw [A0,A0,A09];lia),_,rfl,qAG sd hp2,?_⟩
     dsimp only;rw [qA1,e0,qNY,A43,B0,B0]
     rfl
    ·refine fun σ Hd hI_13=>opq fun G_13 hG_13=>?_;obtain ⟨v,rfl,sd,hpd⟩:=hI_13;refine hG_13 ?_;rw [lrn] at hpd;refine ⟨p2,_,rfl,SqL.of hpd,_,rfl,_,_,rfl,rfl,_,rfl,?_⟩;dsimp only;rw [qP8];have gp1:=sd _ _ gp;have gd1:=sd _ _ gd;have gz1:=sd _ _ gz;have gc1:=sd _ _ gc;have sm1:=sm.trans sd;clear gp gd gz gc sm hpd sd hp2;refine ite2 (fun cr=>?_) (fun cr=>?_)
     ·have cr':(cntN Ae.length x:Int)<Aa:=of_decide_eq_true cr;refine ⟨_,rfl,a,_,rfl,.inr (SqT.of (sm1 _ _ hA)),_,rfl,by rw [lrv];lia,by rw [lrv];lia,qJH (lo:=0) (n:=((((rs.map V.ref).length:Nat):Int)).toNat) (fun k σ Hc=>∃ (ks ly:List Nat) (f:Nat->Nat) (v8 v11:Option V),σ=[some (.ref a),some (.int Aa),some (.ref p),some (.ref d),some (.ref lz),some (.int ((many+1:Nat):Int)),some (.ref c),some (.int (at_:Int)),v8,v9,some (.int (x:Int)),v11]/\Same H Hc/\Hc p=some (.lst ((natI (Ae.map mskN)).map V.int))/\Hc d=some (.dK (kvN ks f))/\Hc lz=some (.lst ((natI ly).map V.int))/\Hc c=some (.lst ((natI cl).map V.int))/\A2 Ae Aa many ks f cl ly i k/\many+1+ly.length<=ks.length)
       ⟨ks,ly,f,v8,v11,rfl,sm1,gp1,gd1,gz1,gc1,J,lk⟩ ?_ ?_⟩
      ·clear gp1 gd1 gz1 gc1 sm1 J lk;refine fun k σ Hc hk hI_14 Nc hNc=>opq fun G_14 hG_14=>?_;obtain ⟨ks,ly,f,v8,v11,rfl,sm,gp,gd,gz,gc,J,lk⟩:=hI_14;refine hG_14 ?_;rw [lrn] at hk;have kl:=J.fd.len;have e0:(0+(k:Int)).toNat=k:=by lia
       have hzn:=A3 hk;have gm:atI ((natI (Ae.map mskN)).map V.int) (0+(k:Int))=some (.int ((nxt Ae k:Nat):Int)):=qDD (by lia) (by
        rw [e0,B5,qOS (b:=nxt Ae k) (by rw [B5,hzn];unfold nxt;rw [hzn];rfl)]
        rfl)
       refine cut fun L1 hL1=>?_;refine ⟨_,rfl,_,rfl,_,_,rfl,rfl,qX4 (by lia) (by lia),_,_,rfl,rfl,?_⟩
       dsimp only;rw [e0,qN1,qTM];refine hL1 _ _ ?_;refine ⟨_,rfl,_,rfl,_,rfl,p,_,_,_,rfl,rfl,SqL.of gp,gm,_,_,rfl,rfl,_,rfl,_,rfl,p,_,_,_,rfl,rfl,SqL.of gp,gm,rfl,_,rfl,?_⟩;dsimp only;have dec:decide (V.int (R0 (x:Int) ((nxt Ae k:Nat):Int))=V.int ((nxt Ae k:Nat):Int))=decide (x &&& nxt Ae k=nxt Ae k):=decide_eq_decide.mpr ⟨fun z=>by have:=V.int.inj z;rw [qDY] at this;lia,fun z=>by rw [qDY,z]⟩
       rw [dec];by_cases cm:x &&& nxt Ae k=nxt Ae k
       ·rw [decide_eq_true cm];have cn:can Ae Aa x k:=⟨cr',hk,cm⟩;refine ⟨_,rfl,_,rfl,d,_,rfl,DGet.k (k:=F9 ((x ||| 2 ^ k:Nat):Int)) gd,_,rfl,?_⟩;rw [qNH];by_cases ck:x ||| 2 ^ k ∈ ks
        ·rw [if_pos ck];exact hNc _ _ ⟨ks,ly,f,_,_,rfl,sm,gp,gd,gz,gc,J.hit ec fun _=>ck,lk⟩
        ·rw [if_neg ck];refine iteT (cut fun L3 hL3=>?_);refine ⟨_,rfl,_,rfl,_,rfl,d,_,rfl,DPut.k (k:=F9 ((x ||| 2 ^ k:Nat):Int)) gd (qBM (by rw [qKG];lia)),?_⟩
         rw [qS2 ck];refine hL3 _ _ ?_;have gz1:(Ag Hc d (.dK (kvN (ks++[x ||| 2 ^ k]) (fset f (x ||| 2 ^ k) (many+1))))) lz=some (.lst ((natI ly).map V.int)):=by rw [qAC ndz.symm];exact gz
         refine ⟨_,rfl,.inl ⟨rfl,_,SqL.of gz1⟩,_,rfl,lz,_,_,rfl,rfl,gz1,qBM (by rw [A0,qG2];lia),?_⟩
         refine hNc _ _ ⟨ks++[x ||| 2 ^ k],ly++[x ||| 2 ^ k],fset f (x ||| 2 ^ k) (many+1),_,_,rfl,qAG (qAG sm fdn) flz,by rw [qAC npz,qAC npd];exact gp,by rw [qAC ndz,qA1],?_,by rw [qAC ncz,qAC ndc.symm];exact gc,J.add ec cn ck,by rw [A7,A7,B4];lia⟩
         rw [qA1,qI5,B0]
         rfl
       ·rw [decide_eq_false cm];exact hNc _ _ ⟨ks,ly,f,_,_,rfl,sm,gp,gd,gz,gc,J.hit ec fun c=>absurd c.2.2 cm,lk⟩
      ·refine fun σ Hc hI_15=>opq fun G_15 hG_15=>?_;obtain ⟨ks,ly,f,v8,v11,rfl,sm,gp,gd,gz,gc,J,lk⟩:=hI_15;refine hG_15 ?_;rw [lrn] at J;exact hNb _ _ ⟨ks,ly,f,_,_,_,rfl,sm,gp,gd,gz,gc,J.next,lk⟩
     ·have cr':¬ (cntN Ae.length x:Int)<Aa:=of_decide_eq_false (F5.mpr cr);exact hNb _ _ ⟨ks,ly,f,_,_,_,rfl,sm1,gp1,gd1,gz1,gc1,J.skip ec cr',lk⟩
   ·refine fun σ Hc hI_16=>opq fun G_16 hG_16=>?_;obtain ⟨ks,ly,f,v8,v10,v11,rfl,sm,gp,gd,gz,gc,J,lk⟩:=hI_16;refine hG_16 ?_;have kl:=J.fd.len;rw [A0,qG2] at J;refine hW0 _ _ ⟨2 ^ Ae.length+1 - (many+1),by lia,ks,ly,f,many+1,lz,_,_,_,_,_,_,rfl,rfl,sm,gp,gd,gz,J.one (A6 _),fun hne=>?_⟩
    have:=List.length_pos_iff.mpr hne
    lia
 ·have le:ly=[]:=by
   cases ly with
   | nil=>rfl
   | cons x xs=>exact absurd rfl cn
  subst le;refine hN5 _ _ ?_;refine ⟨_,rfl,d,_,rfl,gd1,fun o=>?_⟩;exact q d o ks f _ (qAG sm1 fdn) fdn qA1 I1.come
noncomputable def prs (ws:List Int) (i:Nat):List (Int × V):=(E6 i).map fun (j:Nat)=>((ws[j]?).getD 0,V.int (j:Int))
theorem qOF {ws:List Int} {i:Nat} {y:Int} (h:ws[i]?=some y):prs ws (i+1)=prs ws i++[(y,V.int (i:Int))]:=by
 unfold prs;rw [A43,B0,x5,h]
 rfl
theorem qRC {ws:List Int} (nd:ws.Nodup) (x:Int):∀ i,i<=ws.length->valV (qCK [] (prs ws i)) (F9 x)=(qC4 (ws.take i) x).map V.int
 | 0,_=>by simp [prs,qCK,valV,qC4]
 | i+1,h=>by
  have e:=A3 (show i<ws.length by lia)
  generalize ws[i]=y at e;rw [qOF e,qJ8 nd e x];unfold qCK;rw [A01];show valV (putK (qCK [] (prs ws i)) (F9 y) (V.int (i:Int))) (F9 x)=_;rw [qFM,qRC nd x i (by lia)]
  by_cases c:x=y
  ·rw [c,if_pos rfl,if_pos rfl];rfl
  ·rw [if_neg fun z=>c (q9 z),if_neg c]
theorem qXP {zs:List Int} {g:Int->Option Int} {j:Nat} {z:Int} (h:zs[j]?=some z):(zs.take (j+1)).filterMap g=(zs.take j).filterMap g++(g z).toList:=by
 rw [C7,h,C8,m8];cases e:g z <;> simp [e]
theorem sc_Lpart:FnScope ["_law_net_here","_law_works","_law_number"] ["_law_net_here","_law_works"] (qAE qK6):=qBP
theorem ok_Lpart (F:Fun K "_law_part" "_law_part" qK6 f fd) (qQR:mg "dict" = none) (qBK:mg "enumerate" = none) (qAK:mg "tuple" = none):FnOk P w K mg base CX0 1 f fd ["_law_net_here","_law_works"] qJY:=by
 refine F.okA sc_Lpart fun cdv A outer s H vs Q E hr h=>?_;obtain ⟨o,a,l,Ae,ws,rfl,hN,wf,n60,hL,rW,q⟩:=h;have hu:=qIU hr;refine ⟨_,(qA4 (qAJ (i:=2) sc_Lpart.nd rfl (o6 rfl) (qAD (qQL rfl) rfl qQR qTK (qA0 (qC6 rfl (lcs (own:=["_law_place","_law_work"]) (fv:=[]) (by kernel_rfl)) (qUL rfl qBK qCM (qA0 (pv 1) qA2)) (fun z1=>qI0 (K:=K) (n:=2) rfl rfl (qB7 (qBF 0) (qB7 (qBF 1) qE6)) rfl rfl) (fun z1=>qB2) (fun z1=>(qAV (qA0 (pv 1) (qA0 (pv 0) qA2))))) qA2))) (qA6 (qAI (qAD qAF rfl qAK qAP (qA0 (qC6 rfl (lcs (own:=["_law_work"]) (fv:=[0,2]) (by kernel_rfl)) (qVZ (pv 1)) (fun z2=>qBF 0) (fun z2=>qB2) (fun z2=>(qAD (qFL (K:=K) rfl) rfl qAK qAP (qA0 (qC6 (X:=lcCx _ _ _ _ z2) rfl (lcs (own:=["_law_need"]) (fv:=[2]) (by kernel_rfl)) (qN2 (K:=K) rfl (qBL (qKI (K:=K) rfl) (pv 1) (pv 0) (fun _ _=>rfl))) (fun z3=>qBF 0) (fun z3=>(qCB (qF9 (qRM hu (pv 0) (pv 1))))) (fun z3=>(qGL hu (pv 1) (pv 0) (fun _ _=>rfl)))) qA2)))) qA2))))),?_⟩
 try dsimp only [Cx.nox,Cx.wish,cxOf]
 obtain ⟨rs,hA,NL⟩:=id hN;have lw:=rW.len;refine cut fun N1 hN1=>?_;refine ⟨_,rfl,o,l,rfl,⟨_,sqo hL⟩,fun p hp=>?_⟩;refine qUU (b:=o) (p:=p) (a:=l) (xs:=ws.map V.int) (fun i σ Hc=>∃ (v0 v1:Option V) (qs:List Addr),σ=[v0,v1]/\Same H Hc/\Hc p=some (.lst (qs.map V.ref))/\Paired (fun r (z:Int × V)=>Hc r=some (.tup [.int z.1,z.2])) qs (prs ws i)) ?_ ?_ ?_ ?_
 ·exact ⟨none,none,[],rfl,qA3 hp _,qA1,.nil⟩
 ·refine fun i σ Hc hi hI_1=>opq fun G_1 hG_1=>?_;obtain ⟨v0,v1,qs,rfl,sm,_⟩:=hI_1;refine hG_1 ?_;exact sqo (hL.same sm)
 ·refine fun i x σ Hc T hx hI_2 hT=>opq fun G_2 hG_2=>?_;obtain ⟨v0,v1,qs,rfl,sm,hpc,PQ⟩:=hI_2;obtain ⟨y,ey,rfl⟩:=qBB hx;refine hG_2 ?_;have hi:=(A5.mp ey).1;have lQ:qs.length=i:=by have:=C6 PQ;rw [this];simp [prs]
  have sT:=qA3 hT (.tup [.int (i:Int),.int y]);refine ⟨T,_,rfl,SqT.of qA1,rfl,_,_,rfl,_,_,rfl,rfl,?_⟩;refine ⟨_,rfl,_,rfl,(by show 2<=sizeLine;decide),fun r hr1=>?_⟩
  have s2:=sT.trans (qA3 hr1 (.tup [.int y,.int (i:Int)]));have g2:=s2 _ _ hpc;refine ⟨_,g2,qAH (by rw [A0];lia),?_⟩
  rw [qBO];refine ⟨_,_,qs++[r],rfl,qAG (sm.trans s2) hp,qA1,?_⟩;rw [qOF ey];refine Z8 (qJA PQ fun r' z' e=>?_) ?_
  ·have e2:=s2 _ _ e;rw [qAC (qDV e2 g2 (fun z=>nomatch z))];exact e2
  ·rw [qAC (qA7 (sT _ _ hpc) hr1).symm];exact qA1
 refine fun σ Hc hI_3=>opq fun G_3 hG_3=>?_;obtain ⟨v0,v1,qs,rfl,sm,hpc,PQ⟩:=hI_3;refine hG_3 ?_;rw [A0] at PQ;have pp:∀ {qs:List Addr} {zs:List (Int × V)},Paired (fun r (z:Int × V)=>Hc r=some (.tup [.int z.1,z.2])) qs zs->qOM Hc K qs zs:=by
  intro qs zs h
  induction h with
  | nil=>exact .nil
  | cons h t ih=>exact .cons (SqT.of h) ih
 refine ⟨p,qs,prs ws ws.length,rfl,SqL.of hpc,pp PQ,fun d hd=>?_⟩;have sd:=sm.trans (qA3 hd (.dK (qCK [] (prs ws ws.length))));have gd:(Ag Hc d (.dK (qCK [] (prs ws ws.length)))) d=some (.dK (qCK [] (prs ws ws.length))):=qA1;have vd:∀ x,valV (qCK [] (prs ws ws.length)) (F9 x)=(qC4 ws x).map V.int:=fun x=>by rw [qRC rW.nodup x _ (A6 _),qBG rfl]
 generalize Ag Hc d (.dK (qCK [] (prs ws ws.length)))=H1 at sd gd ⊢;generalize qCK [] (prs ws ws.length)=Af at gd vd;refine hN1 _ _ ?_;refine ⟨_,rfl,o,l,rfl,⟨_,sqo (hL.same sd)⟩,fun p1 hp1=>?_⟩;refine qW3 (b:=o) (p:=p1) (a:=l) (xs:=ws.map V.int) (fun i σ Hc=>∃ (v0:Option V) (qs:List Addr),σ=[v0,some (.ref a),some (.ref d)]/\Same H1 Hc/\Hc p1=some (.lst (qs.map V.ref))/\NetL Hc qs ((ws.take i).map fun w=>((Ae[w.toNat]?).getD []).filterMap (qC4 ws))) ?_ ?_ ?_ ?_
 ·exact ⟨none,[],rfl,qA3 hp1 _,qA1,.nil⟩
 ·refine fun i σ Hc hi hI_4=>opq fun G_4 hG_4=>?_;obtain ⟨v0,qs,rfl,sm,_⟩:=hI_4;refine hG_4 ?_;exact sqo ((hL.same sd).same sm)
 ·refine fun i x σ Hc hx hI_5=>opq fun G_5 hG_5=>?_;obtain ⟨v0,qs,rfl,sm,hpc,NQ⟩:=hI_5;obtain ⟨y,ey,rfl⟩:=qBB hx;refine hG_5 ?_;have hi:=(A5.mp ey).1;have lQ:qs.length<=i:=by have:=C6 NQ;rw [this,A0,B9];lia
  have yb:=rW.in_ y (C3 ey);have hy:y.toNat<Ae.length:=by lia
  have hz:=A3 hy;obtain ⟨r,h3,h4⟩:=NL.get hz;have rz:=wf y.toNat _ hz;generalize Ae[y.toNat]=zs at h4 hz rz;have lz:=rz.len;have hA1:=sm _ _ (sd _ _ hA);have h41:=sm _ _ (sd _ _ h4);refine ⟨_,rfl,_,rfl,a,_,_,_,rfl,rfl,SqT.of hA1,qDD yb.1 (by rw [B5,h3];rfl),r,rfl,⟨_,SqT.of h41⟩,fun p2 hp2=>?_⟩
  refine qER (p:=p2) (a:=r) (xs:=zs.map V.int) (fun j σ Hd=>∃ (v:Option V),σ=[v,some (.ref d)]/\Same Hc Hd/\Hd p2=some (.lst (((zs.take j).filterMap (qC4 ws)).map V.int))) ?_ ?_ ?_ ?_
  ·exact ⟨none,rfl,qA3 hp2 _,qA1⟩
  ·rintro j σ Hd hj ⟨v,rfl,se,_⟩;exact SqT.of (se _ _ h41)
  ·refine fun j x σ Hd hx hI_7=>opq fun G_7 hG_7=>?_;obtain ⟨v,rfl,se,hpe⟩:=hI_7;obtain ⟨z,ez,rfl⟩:=qBB hx;refine hG_7 ?_;have hj:=(A5.mp ez).1;have gdd:=se _ _ (sm _ _ gd);have lf:((zs.take j).filterMap (qC4 ws)).length<=j:=J6 (X2 _ _) (by rw [B9];lia)
   refine ⟨_,rfl,_,rfl,d,_,rfl,DGet.k (k:=F9 z) gdd,_,rfl,?_⟩;rw [vd z,qXP ez];cases e:qC4 ws z with
   | none=>
    refine ⟨_,rfl,se,?_⟩;simpa using hpe
   | some v=>
    have hg:=DGet.k (k:=F9 z) gdd;rw [vd z,e] at hg;refine ⟨_,rfl,_,rfl,d,_,rfl,hg,_,hpe,qAH (by rw [A0];lia),_,rfl,qAG se hp2,?_⟩
    rw [qA1,B0]
    rfl
  ·refine fun σ Hd hI_8=>opq fun G_8 hG_8=>?_;obtain ⟨v,rfl,se,hpe⟩:=hI_8;refine hG_8 ?_;rw [A0,qBG rfl] at hpe;refine ⟨p2,_,rfl,.inl ⟨SqL.of hpe,fun tq htq=>?_⟩⟩;have sq:=se.trans (qA3 htq (.tup ((zs.filterMap (qC4 ws)).map V.int)));have g1:=sq _ _ hpc;refine ⟨_,g1,qAH (by rw [A0];lia),?_⟩
   rw [qBO];refine ⟨_,qs++[tq],rfl,qAG (sm.trans sq) hp1,qA1,?_⟩;have e7:((ws.take (i+1)).map fun w=>((Ae[w.toNat]?).getD []).filterMap (qC4 ws))=((ws.take i).map fun w=>((Ae[w.toNat]?).getD []).filterMap (qC4 ws))++[zs.filterMap (qC4 ws)]:=by
    rw [C7,ey,C8,B0,x5,hz,Y6]
   rw [e7];exact qDC (qCH (NQ.same fun r' ys e=>sq _ _ e) qA1) g1
 ·refine fun σ Hc hI_9=>opq fun G_9 hG_9=>?_;obtain ⟨v0,qs,rfl,sm,hpc,NQ⟩:=hI_9;refine hG_9 ?_;rw [A0,qBG rfl] at NQ;refine ⟨p1,_,rfl,.inl ⟨SqL.of hpc,fun b hb=>?_⟩⟩;have sb:=qA3 hb (.tup (qs.map V.ref));exact q b _ (sd.trans (sm.trans sb)) ⟨qs,qA1,NQ.same fun r ys e=>sb _ _ e⟩
theorem qU9:FnScope ["_law_works"] ["_law_works"] (qAE qK8):=qBP
theorem ok_Lbits (F:Fun K "_law_bits" "_law_bits" qK8 f fd) (qTZ:mg "sum" = none):FnOk P w K mg base CX0 1 f fd ["_law_works"] qVS:=by
 refine F.okA qU9 fun cdv A outer s H vs Q E hr h=>?_;obtain ⟨l,ws,rfl,hL,inw,lw,q⟩:=h;refine ⟨_,(qA6 (qAI (qA9 (qL0 rfl) rfl qTZ qTG (qA0 (qC6 rfl (lcs (own:=["_law_work"]) (fv:=[]) (by kernel_rfl)) (qCC (pv 0)) (fun z4=>qBF 0) (fun z4=>qB2) (fun z4=>(qAM qOP qA8 (pv 0)))) qA2)))),?_⟩
 try dsimp only [Cx.nox,Cx.wish,cxOf]
 refine ⟨_,rfl,l,rfl,⟨_,SqL.of hL⟩,fun p hp=>?_⟩;refine qDJ (p:=p) (a:=l) (xs:=ws.map V.int) (fun i σ He=>∃ (v:Option V),σ=[v]/\Same H He/\He p=some (.lst (((ws.take i).map fun z=>(1:Int) * 2 ^ z.toNat).map V.int))) ?_ ?_ ?_ ?_
 ·exact ⟨none,rfl,qA3 hp _,qA1⟩
 ·rintro i σ He hi ⟨v,rfl,se,_⟩;exact SqL.of (se _ _ hL)
 ·refine fun i x σ He hx hI_11=>opq fun G_11 hG_11=>?_;obtain ⟨v,rfl,se,hpe⟩:=hI_11;obtain ⟨z,ez,rfl⟩:=qBB hx;refine hG_11 ?_;have hi:=(A5.mp ez).1;have zb:=inw z (C3 ez);refine ⟨_,rfl,_,_,rfl,rfl,⟨zb.1,by lia,by decide⟩,_,hpe,qAH (by rw [A0,A0,B9];lia),_,rfl,qAG se hp,?_⟩
  rw [qA1,C7,ez,C8,B0,B0]
  rfl
 ·refine fun σ He hI_12=>opq fun G_12 hG_12=>?_;obtain ⟨v,rfl,se,hpe⟩:=hI_12;refine hG_12 ?_;rw [A0,qBG rfl] at hpe;refine ⟨p,_,rfl,SqL.of hpe,?_⟩;rw [qN9];exact q He se
theorem sc_Ldone_in:FnScope ["_law_net_here","_law_asked_here","_law_rooms","_law_works","_law_want"] ["_law_net_here","_law_asked_here","_law_rooms"] (qAE qF6):=qBP
theorem ok_Ldone_in (F:Fun K "_law_done_in" "_law_done_in" qF6 f fd) (qGD:Clb P w K mg base 1 qG8 qJJ "_law_needed" ["_law_net_here","_law_asked_here"] qJZ) (qTS:Clb P w K mg base 1 qNQ qVA "_law_bits" ["_law_works"] qVS) (qGW:Clb P w K mg base 1 qIF qKM "_law_part" ["_law_net_here","_law_works"] qJY) (qL6:Clb P w K mg base 1 qKQ qP2 "_law_come" ["_law_net_here","_law_rooms"] qR0) (qBK:mg "enumerate" = none) (qWQ:mg "any" = none):FnOk P w K mg base CX0 2 f fd ["_law_net_here","_law_asked_here","_law_rooms"] qO5:=by
 refine F.okA sc_Ldone_in fun cdv A outer s H vs Q E hr h=>?_;obtain ⟨a,t,Ae,Ad,ws,Aa,rfl,hN,wf,n12,⟨hT,rA⟩,ND,q⟩:=h;refine ⟨_,(qA4 (qAJ (i:=3) sc_Ldone_in.nd rfl (E8 rfl) (qAS qGD hr rfl (qA0 (pv 0) (qA0 (pv 1) qA2)))) (qA4 (qAJ (i:=4) sc_Ldone_in.nd rfl (o6 rfl) (qAS qTS hr rfl (qA0 (qC6 rfl (lcs (own:=["_law_place","_law_work"]) (fv:=[1]) (by kernel_rfl)) (qRH rfl qBK qCM (qA0 (pv 3) qA2)) (fun z5=>qI0 (K:=K) (n:=2) rfl rfl (qB7 (qBF 0) (qB7 (qBF 1) qE6)) rfl rfl) (fun z5=>(qCB (qAL (qJB (K:=K) rfl) (pv 1) (pv 2) (by with_unfolding_all rfl)))) (fun z5=>(pv 0))) qA2))) (qA6 (qAI (qA9 (qP9 rfl) rfl qWQ qWI (qA0 (qC6 rfl (lcs (own:=["_law_bits_here"]) (fv:=[4]) (by kernel_rfl)) (qOJ (qAS qL6 hr rfl (qA0 (qAS qGW hr rfl (qA0 (pv 0) (qA0 (pv 3) qA2))) (qA0 (pv 2) qA2)))) (fun z6=>qBF 0) (fun z6=>qB2) (fun z6=>(qD0 qG1 (qAM qM2 (pv 0) (pv 1)) (pv 1) (qAQ _)))) qA2)))))),?_⟩
 try dsimp only [Cx.nox,Cx.wish,cxOf]
 have rW:=ND.1;have lw:=rW.len;refine cut fun N1 hN1=>?_;refine ⟨_,rfl,_,rfl,a,t,Ae,Ad,rfl,hN,wf,by lia,⟨hT,rA⟩,fun l zs H1 sm1 fl gl nd=>?_⟩
 have ezw:zs=ws:=qQ2 nd ND;subst ezw;refine hN1 _ _ (cut fun N2 hN2=>?_);refine ⟨_,rfl,l,rfl,⟨_,SqL.of gl⟩,fun p hp=>?_⟩;refine qNF (p:=p) (a:=l) (xs:=zs.map V.int) (fun i σ Hc=>∃ (v0 v1:Option V),σ=[v0,v1,some (.ref t)]/\Same H1 Hc/\Hc p=some (.lst ((((qB8 0 zs.length).take i).filter fun p=>decide ((zs[p.toNat]?).getD 0 ∈ Ad)).map V.int))) ?_ ?_ ?_ ?_
 ·exact ⟨none,none,rfl,qA3 hp _,qA1⟩
 ·rintro i σ Hc hi ⟨v0,v1,rfl,sm,_⟩;exact SqL.of (sm _ _ gl)
 ·refine fun i x σ Hc T hx hI_14 hT2=>opq fun G_14 hG_14=>?_;obtain ⟨v0,v1,rfl,sm,hpc⟩:=hI_14;obtain ⟨y,ey,rfl⟩:=qBB hx;refine hG_14 ?_;have hi:=(A5.mp ey).1;have sT:=qA3 hT2 (.tup [.int (i:Int),.int y]);have smT:=sm.trans sT;have hpT:=sT _ _ hpc;have lk:=qBS (p:=fun p=>decide ((zs[p.toNat]?).getD 0 ∈ Ad)) (l:=qB8 0 zs.length) (i:=i);refine ⟨T,_,rfl,SqT.of qA1,rfl,_,_,rfl,_,_,rfl,rfl,?_⟩;refine ⟨_,rfl,_,rfl,t,_,rfl,.inr (SqT.of (smT _ _ (sm1 _ _ hT))),rfl,qBR Ad,_,rfl,?_⟩;rw [qD3,qCD (qFE (by lia))]
  have ez:(zs[((i:Int)).toNat]?).getD 0=y:=by rw [F0,ey];rfl
  rw [ez];by_cases hw:y ∈ Ad
  ·rw [decide_eq_true hw];refine ⟨_,rfl,_,hpT,qAH (by rw [A0];lia),_,_,rfl,qAG smT hp,?_⟩
   rw [qA1,if_pos rfl,B0]
   rfl
  ·rw [decide_eq_false hw];refine ⟨_,_,rfl,smT,?_⟩;simpa using hpT
 ·refine fun σ Hc hI_15=>opq fun G_15 hG_15=>?_;obtain ⟨v0,v1,rfl,sm,hpc⟩:=hI_15;refine hG_15 ?_;rw [A0,qBG (by rw [qDP];lia)] at hpc
  have lf:((qB8 0 zs.length).filter fun p=>decide ((zs[p.toNat]?).getD 0 ∈ Ad)).length<=zs.length:=qQ9;refine ⟨p,_,rfl,hpc,fun x hx=>?_,by lia,fun H2 sm2=>?_⟩
  ·have:=mem_rangeI.mp (K9.mp hx).1
   lia
  show N2 [some (.ref a),some (.ref t),some (.int Aa),some (.ref l),some (.int ((qQS zs Ad:Nat):Int))] H2;have s2:=sm.trans sm2;generalize hwn:qQS zs Ad=want;refine hN2 _ _ ?_;refine ⟨_,rfl,_,rfl,false,a,l,Ae,zs,rfl,hN.same (sm1.trans s2),wf,by lia,.inl (s2 _ _ gl),rW,fun b H3 sm3 hP=>?_⟩
  have lp:(qBQ Ae zs).length<=12:=by rw [qC7];lia
  refine ⟨_,rfl,b,qBQ Ae zs,Aa,rfl,hP,qDR wf rW,lp,fun d o ks g H4 sm4 fd4 gd C=>?_⟩;refine ⟨d,o,kvN ks g,rfl,gd,fun p1 hp1=>?_⟩;refine qUV (p:=p1) (a:=d) (o:=o) (Af:=kvN ks g) (fun i σ Hc=>∃ (v:Option V),σ=[v,some (.int (want:Int))]/\Same H4 Hc/\Hc p1=some (.lst (((ks.take i).map fun b=>decide (b &&& want=want)).map V.bl))) ?_ ?_ ?_ ?_
  ·exact ⟨none,rfl,qA3 hp1 _,qA1⟩
  ·refine fun i σ Hd hi hI_16=>opq fun G_16 hG_16=>?_;obtain ⟨v,rfl,sd,_⟩:=hI_16;refine hG_16 ?_;exact sd _ _ gd
  ·refine fun i k v1 σ Hd hk hI_17=>opq fun G_17 hG_17=>?_;obtain ⟨v,rfl,sd,hpd⟩:=hI_17;refine hG_17 ?_;unfold kvN at hk;rw [B5] at hk;cases e:ks[i]? with
   | none=>rw [e] at hk;cases hk
   | some x=>
    rw [e] at hk;cases hk;have kl:ks.length<=2 ^ (qBQ Ae zs).length:=qEZ C.nd fun b hb=>(C.snd b hb).1.lt;have k2:2 ^ (qBQ Ae zs).length<=2 ^ 12:=W5 (by decide) lp
    have hi:=(A5.mp e).1;refine ⟨_,rfl,_,rfl,_,_,rfl,rfl,_,rfl,rfl,_,hpd,qBM (by rw [A0,A0,B9];lia),_,rfl,qAG sd hp1,?_⟩
    dsimp only;have dec:decide (V.int (R0 (x:Int) (want:Int))=V.int (want:Int))=decide (x &&& want=want):=decide_eq_decide.mpr ⟨fun z=>by have:=V.int.inj z;rw [qDY] at this;lia,fun z=>by rw [qDY,z]⟩
    rw [dec,qA1,C7,e,C8,B0,B0]
    rfl
  ·refine fun σ Hd hI_18=>opq fun G_18 hG_18=>?_;obtain ⟨v,rfl,sd,hpd⟩:=hI_18;refine hG_18 ?_;rw [qKG,qBG rfl] at hpd;refine ⟨p1,_,rfl,SqL.of hpd,?_⟩;refine q _ Hd (sm1.trans (s2.trans (sm3.trans (sm4.trans sd)))) ?_;rw [d9];unfold qJN;rw [hwn]
   constructor
   ·refine fun hI_19=>opq fun G_19 hG_19=>?_;obtain ⟨b,hb,eb⟩:=hI_19;obtain ⟨x,hx,rfl⟩:=D7.mp hb;refine hG_19 ?_;exact ⟨g x,x,(C.snd x hx).1,of_decide_eq_true eb⟩
   ·refine fun hI_20=>opq fun G_20 hG_20=>?_;obtain ⟨m,x,r,hx⟩:=hI_20;refine hG_20 ?_;exact ⟨_,D7.mpr ⟨x,C.all m x r,rfl⟩,decide_eq_true hx⟩
theorem sc_Lleast:FnScope ["_law_net_here","_law_asked_here","_law_rooms"] ["_law_net_here","_law_asked_here"] (qAE qHD):=qBP
theorem ok_Lleast (F:Fun K "_law_least" "_law_least" qHD f fd) (qJT:Clb P w K mg base 2 qGT qNO "_law_done_in" ["_law_net_here","_law_asked_here","_law_rooms"] qO5):FnOk P w K mg base CX0 3 f fd ["_law_net_here","_law_asked_here"] qO4:=by
 refine F.okA sc_Lleast fun cdv A outer s H vs Q E hr h=>?_;obtain ⟨a,t,Ae,Ad,ws,r,rfl,hN,wf,n12,AT,ND,LR,q⟩:=h;refine ⟨_,(qA4 (qAJ (i:=2) sc_Lleast.nd rfl (E8 rfl) qA8) (qA4 (qKC E1 (qCA (qBX (qAS qJT hr rfl (qA0 (pv 0) (qA0 (pv 1) (qA0 (pv 2) qA2)))))) (qA6 (qAJ (i:=2) sc_Lleast.nd rfl (E8 rfl) (qAM qD2 (pv 2) qA8)))) (qA6 (qAI (pv 2))))),?_⟩
 try dsimp only [Cx.nox,Cx.wish,cxOf]
 refine cut fun N1 hN1=>hN1 _ _ (cut fun N2 hN2=>?_);refine ⟨fun m σ Hc=>∃ (k:Int),σ=[some (.ref a),some (.ref t),some (.int k)]/\m=(r - k).toNat/\Same H Hc/\1<=k/\k<=r,⟨_,1,rfl,rfl,Same.refl H,by lia,LR.1⟩,?_⟩
 refine fun m σ Hc hI_21=>opq fun G_21 hG_21=>?_;obtain ⟨k,rfl,rfl,sm,k1,k2⟩:=hI_21;refine hG_21 ?_;refine ⟨_,rfl,_,rfl,_,rfl,a,t,Ae,Ad,ws,k,rfl,hN.same sm,wf,n12,⟨sm _ _ AT.1,AT.2⟩,ND,fun b H1 sm1 hb=>?_⟩;refine ⟨b,rfl,?_⟩;cases b with
 | true=>
  have e:k=r:=by
   have h1:=hb.mp rfl;apply P1;intro z;exact LR.2.2 k k1 (by lia) h1
  subst e;exact hN2 _ _ ⟨_,rfl,q H1 (sm.trans sm1)⟩
 | false=>
  have e:k<r:=by
   apply P1;intro z;have:k=r:=by lia
   subst this;cases hb.mpr LR.2.1
  refine ⟨fun σ' H'=>∃ m',m'<(r - k).toNat/\_,fun σ' H' z=>z,?_⟩;refine ⟨_,rfl,_,_,rfl,rfl,?_⟩;exact ⟨(r - (k+1)).toNat,by lia,k+1,rfl,rfl,sm.trans sm1,by lia,by lia⟩
theorem qPO:FnScope ["thing"] ["thing"] (qAE qFR):=qBP
theorem ok_is_pair (F:Fun K "is_pair" "is_pair" qFR f fd) (qAN:mg "isinstance" = none) (qAK:mg "tuple" = none) (qAZ:mg "len" = none):FnOk P w K mg base CX0 1 f fd ["thing"] qQZ:=by
 refine F.okA qPO fun cdv A outer s H vs Q E hr h=>?_;obtain ⟨x,n,d,rfl,D,q⟩:=h;refine ⟨_,(qA6 (qAI (qLZ (qA9 qB6 rfl qAN qAU (qA0 (pv 0) (qA0 (qD1 (v:=.ty "tuple") rfl qAK qAP rfl) qA2))) (qLY (qD0 qG1 (qA9 qAA rfl qAZ qAY (qA0 (pv 0) qA2)) qA8 (qAQ _)))))),?_⟩
 try dsimp only [Cx.nox,Cx.wish,cxOf]
 obtain ⟨t,ty,k1,k2,k3⟩:=qJ1 (K:=K) D;refine ⟨_,rfl,x,"tuple",t,_,rfl,ty,k3,_,rfl,?_⟩;cases c:tupB d with
 | false=>
  refine iteF ?_;have e1:qN3 d=false:=by cases d <;> first | rfl | cases c
  rw [e1] at q;exact q
 | true=>
  refine iteT ?_;obtain ⟨m,a,xs,ds,rfl,rfl,rfl,ga,lx,el⟩:=qGU D c;refine ⟨_,rfl,a,_,rfl,.inr (SqT.of ga),rfl,?_⟩;have e1:qN3 (.tuple ds)=decide (V.int ((xs.length:Nat):Int)=V.int 2):=decide_eq_decide.mpr ⟨fun z=>by rw [lx,z];rfl,fun z=>by injection z with z;lia⟩
  rw [e1] at q;exact q
theorem qMY:FnScope ["net","rooms","thing"] ["net","rooms","thing"] (qAE qF3):=qBP
theorem ok_is_stand (F:Fun K "is_stand" "is_stand" qF3 f fd) (qED:Clb P w K mg base 3 qE9 qH0 "is_rising" ["thing","end"] qHS) (qAZ:mg "len" = none):FnOk P w K mg base CX0 4 f fd ["net","rooms","thing"] qO3:=by
 refine F.okA qMY fun cdv A outer s H vs Q E hr h=>?_;obtain ⟨a,Ae,Aa,x,n,d,rfl,hN,n12,D,q⟩:=h;obtain ⟨ra,hA,NL⟩:=id hN;have lra:=C6 NL;refine ⟨_,(qA6 (qAI (qLZ (qAS qED hr rfl (qA0 (pv 2) (qA0 (qA9 qAA rfl qAZ qAY (qA0 (pv 0) qA2)) qA2))) (qLY (qD0 qX8 (qA9 qAA rfl qAZ qAY (qA0 (pv 2) qA2)) (pv 1) (qAQ _)))))),?_⟩
 try dsimp only [Cx.nox,Cx.wish,cxOf]
 refine ⟨_,rfl,_,rfl,a,_,rfl,.inr (SqT.of hA),?_⟩;rw [A0,lra];refine ⟨x,n,d,_,rfl,D,_,rfl,?_⟩;cases c:qE3 (Ae.length:Int) d with
 | false=>
  refine iteF ?_;have e1:stdD (Ae.length:Int) Aa d=false:=by unfold stdD;rw [c];rfl
  rw [e1] at q;exact q
 | true=>
  refine iteT ?_;obtain ⟨t,zs,rfl,rfl,e,ga,R⟩:=qEM D c;refine ⟨_,rfl,t,_,rfl,.inr (SqT.of ga),_,rfl,_,_,rfl,rfl,?_⟩;have e1:stdD (Ae.length:Int) Aa (.tuple (zs.map .int))=decide ((((zs.map V.int).length:Nat):Int)<=Aa):=by
   unfold stdD;rw [c,e,A0]
   rfl
  rw [e1] at q;exact q
theorem keyT {Af:List (List Key × V)} {z s:List Int}:(valV (putK Af (keyS z) (.bl true)) (keyS s)).isSome=(decide (s=z) || (valV Af (keyS s)).isSome):=by
 rw [qFM];by_cases e:s=z
 ·rw [e,if_pos rfl,decide_eq_true rfl];rfl
 ·rw [if_neg fun h=>e (qHI h),decide_eq_false e,B44]
theorem keyL {Af:List (List Key × V)} {z:List Int}:∀ {ks:List (List Int)},Af.map (·.1)=ks.map keyS->(putK Af (keyS z) (.bl true)).map (·.1)=(if z ∈ ks then ks else ks++[z]).map keyS:=by
 intro ks h;have an:(Af.any fun kv=>decide (kv.1=keyS z))=decide (z ∈ ks):=by
  rw [O7,decide_eq_true_eq,d9]
  constructor
  ·refine fun hI_1=>opq fun G_1 hG_1=>?_;obtain ⟨kv,h1,h2⟩:=hI_1;refine hG_1 ?_;have:kv.1 ∈ ks.map keyS:=by rw [<- h];exact Y5 h1
   obtain ⟨y,hy,e⟩:=D7.mp this;rw [of_decide_eq_true h2] at e;rw [<- qHI e];exact hy
  ·intro hz;have:keyS z ∈ Af.map (·.1):=by rw [h];exact Y5 hz
   obtain ⟨kv,h1,h2⟩:=D7.mp this;exact ⟨kv,h1,decide_eq_true h2⟩
 unfold putK;rw [an];by_cases e:z ∈ ks
 ·rw [decide_eq_true e,if_pos rfl,if_pos e,<- h,m5];refine Y3 fun kv _=>?_;show (if kv.1=keyS z then (kv.1,V.bl true) else kv).1=kv.1
  split <;> rfl
 ·rw [decide_eq_false e,if_neg (by decide),if_neg e,B0,B0,h]
  rfl
theorem sc_are_closed:FnScope ["net","rooms","stands","known","stand","move"] ["net","rooms","stands"] (qAE qDA):=qBP
theorem ok_are_closed (F:Fun K "are_closed" "are_closed" qDA f fd) (qJP:Clb P w K mg base 3 qGP qNK "moves_of" ["net","rooms","stand"] qLG) (qFD:Clb P w K mg base 1 qDK qIB "stand_behind" ["stand","move"] qFQ):FnOk P w K mg base CX0 4 f fd ["net","rooms","stands"] qLI:=by
 refine F.okA sc_are_closed fun cdv A outer s H vs Q E hr h=>?_;obtain ⟨a,l,Ae,Aa,rs,ss,rfl,hN,wf,n12,gl,SL,l5,RS,q⟩:=h;have hu:=qIU hr;refine ⟨_,(qA4 (qAJ (i:=3) sc_are_closed.nd rfl (E8 rfl) qUM) (qA4 (qBY E1 rfl (qCC (pv 2)) (qAW (i:=4) sc_are_closed.nd rfl (E8 rfl)) (qA6 (qGK hu (pv 3) (pv 4) qC9 rfl))) (qA4 (qBY E1 rfl (qOI (qRK (pv 3))) (qAW (i:=4) sc_are_closed.nd rfl (E8 rfl)) (qA6 (qBY E1 rfl (qCC (qAS qJP hr rfl (qA0 (pv 0) (qA0 (pv 1) (qA0 (pv 4) qA2))))) (qAW (i:=5) sc_are_closed.nd rfl (E8 rfl)) (qA6 (qBI (qF9 (qEP hu (qAS qFD hr rfl (qA0 (pv 4) (qA0 (pv 5) qA2))) (pv 3))) (qA6 (qAI qC9)) qAO))))) (qA6 (qAI qC9))))),?_⟩
 try dsimp only [Cx.nox,Cx.wish,cxOf]
 refine cut fun N0 hN0=>?_;intro dk hdk;have s1:=qA3 hdk (.dT []);have g1:(Ag H dk (.dT [])) dk=some (.dT []):=qA1;generalize Ag H dk (.dT [])=H1 at s1 g1 ⊢;refine hN0 _ _ (cut fun N1 hN1=>?_);have lrs:rs.length=ss.length:=C6 SL;refine ⟨_,rfl,l,rfl,⟨_,SqL.of (s1 _ _ gl)⟩,qHJ (a:=l) (xs:=rs.map V.ref) (fun i σ Hc=>∃ (Af:List (List Key × V)) (ks:List (List Int)) (v4:Option V),σ=[some (.ref a),some (.int Aa),some (.ref l),some (.ref dk),v4,none]/\Same H Hc/\Hc dk=some (.dT Af)/\Af.map (·.1)=ks.map keyS/\(∀ z:List Int,(valV Af (keyS z)).isSome=true ↔ z ∈ ss.take i)/\ks.length<=i/\∀ z,z ∈ ks ↔ z ∈ ss.take i)
  ⟨[],[],none,rfl,s1,g1,rfl,fun z=>by simp [valV],A6 _,fun z=>by simp⟩ (fun i σ Hc _ hP=>by obtain ⟨_,_,_,_,sc,_⟩:=hP;exact SqL.of (sc _ _ gl)) ?_ ?_⟩
 ·refine fun i x σ Hc hx hI_2=>opq fun G_2 hG_2=>?_;obtain ⟨Af,ks,v4,rfl,sc,gd,ek,vk,lk,ik⟩:=hI_2;obtain ⟨r,er,rfl⟩:=qES hx;obtain ⟨z,ez,gz⟩:=qBH SL er;refine hG_2 ?_;have hi:=(A5.mp ez).1;have lkv:Af.length=ks.length:=by have:=congrArg A58 ek;rw [A0,A0] at this;exact this
  have gz1:Hc r=some (.tup ((keyS z).map kV)):=by rw [qGM];exact sc _ _ gz
  refine ⟨_,rfl,_,rfl,dk,_,rfl,DPut.t (k:=keyS z) gd gz1 (qBM (by lia)),?_⟩
  have et:ss.take (i+1)=ss.take i++[z]:=by rw [C7,ez];rfl
  refine ⟨_,_,_,rfl,qAG sc hdk,qA1,keyL ek,fun y=>?_,?_,fun y=>?_⟩
  ·rw [keyT,A30,decide_eq_true_eq,vk,et,B1,A8];exact or_comm
  ·split
   ·lia
   ·rw [A7];show _+1<=_
    lia
  ·rw [et,B1,A8,<- ik];by_cases e:z ∈ ks
   ·rw [if_pos e];exact ⟨.inl,fun h=>h.elim id fun h=>h ▸ e⟩
   ·rw [if_neg e,B1,A8]
 ·refine fun σ Hc hI_3=>opq fun G_3 hG_3=>?_;obtain ⟨Af,ks,v4,rfl,sc,gd,ek,vk,lk,ik⟩:=hI_3;refine hG_3 ?_;rw [A0,lrs,K0] at vk ik;refine hN1 _ _ (cut fun N2 hN2=>?_);refine ⟨_,rfl,dk,_,rfl,gd,fun o=>⟨dk,o,_,rfl,qA1,?_⟩⟩;have sd:Same H (Ag Hc dk (.frz o (.dT Af))):=qAG sc hdk;have gdk:(Ag Hc dk (.frz o (.dT Af))) dk=some (.frz o (.dT Af)):=qA1;generalize Ag Hc dk (.frz o (.dT Af))=Hd at sd gdk ⊢;have lkk:Af.length=ks.length:=by have:=congrArg A58 ek;rw [A0,A0] at this;exact this
  refine qJI (a:=dk) (o:=o) (Af:=Af) (fun i σ He=>∃ (v4 v5:Option V),σ=[some (.ref a),some (.int Aa),some (.ref l),some (.ref dk),v4,v5]/\Same Hd He/\∀ z ∈ ks.take i,∀ m ∈ qD5 Ae z Aa,behL z m ∈ ss)
   ⟨v4,none,rfl,.refl _,fun z h=>nomatch h⟩ (fun i σ He _ ⟨_,_,_,z,_⟩=>z _ _ gdk) ?_ ?_
  ·refine fun i k v r σ He hkv gr hI_4=>opq fun G_4 hG_4=>?_;obtain ⟨v4,v5,rfl,se,ok⟩:=hI_4;refine hG_4 ?_;have h0:∃ z,ks[i]?=some z/\keyS z=k:=by
    have h1:(Af.map (·.1))[i]?=some k:=by rw [B5,hkv];rfl
    rw [ek,B5] at h1;exact j6.mp h1
   obtain ⟨z,hz,rfl⟩:=h0;rw [qGM] at gr;have hzs:=(ik z).mp (C3 hz);have rz:=RS z hzs;have lz:=rz.len;refine ⟨_,rfl,_,rfl,_,rfl,a,r,Ae,z,Aa,rfl,hN.same (sd.trans se),wf,by lia,gr,by lia,fun lm rm H3 s3 fl gm ML=>?_⟩
   have lrm:rm.length=(qD5 Ae z Aa).length:=C6 ML;refine ⟨lm,rfl,⟨_,SqL.of gm⟩,qHJ (a:=lm) (xs:=rm.map V.ref) (fun k σ Hf=>∃ (v5:Option V),σ=[some (.ref a),some (.int Aa),some (.ref l),some (.ref dk),some (.ref r),v5]/\Same H3 Hf/\∀ m ∈ (qD5 Ae z Aa).take k,behL z m ∈ ss)
    ⟨v5,rfl,.refl _,fun m h=>nomatch h⟩ (fun k σ Hf _ hP=>by obtain ⟨_,_,zf,_⟩:=hP;exact SqL.of (zf _ _ gm)) ?_ ?_⟩
   ·refine fun k x σ Hf hx hI_5=>opq fun G_5 hG_5=>?_;obtain ⟨v5,rfl,sf,okm⟩:=hI_5;obtain ⟨mv,hmv,rfl⟩:=qES hx;obtain ⟨⟨Ac,wk⟩,hm2,gmv⟩:=qBH ML hmv;refine hG_5 ?_;dsimp only at gmv;have hmm:=C3 hm2;have hw:=(due_iff.mp hmm).1.1;refine ⟨_,rfl,_,rfl,r,mv,z,Ac,wk,rfl,sf _ _ (s3 _ _ gr),by lia,sf _ _ gmv,hw,fun r2 st2 H4 s4 gr2 beh=>?_⟩
    have e2:=qWJ (m:=(Ac,wk)) rz hw beh;rw [e2] at gr2;have s34:=s3.trans (sf.trans s4);refine ⟨_,rfl,dk,_,rfl,.inr ⟨Af,keyS (behL z (Ac,wk)),r2,.inr ⟨o,s34 _ _ (se _ _ gdk)⟩,rfl,by rw [qGM];exact gr2,rfl⟩,_,rfl,?_⟩
    cases c:(valV Af (keyS (behL z (Ac,wk)))).isSome with
    | true=>
     refine iteF ⟨_,rfl,sf.trans s4,fun m hm=>?_⟩;rw [C7,hm2,C8] at hm;rcases B1.mp hm with h | h
     ·exact okm m h
     ·rw [A8.mp h];exact (vk _).mp c
    | false=>
     refine iteT ?_;have e1:qKZ Ae Aa ss=false:=F5.mpr fun h=>by
      have:=(vk _).mpr (of_decide_eq_true (F2.mp (F2.mp h z hzs) _ hmm));rw [c] at this;cases this
     rw [e1] at q;exact q _ (sd.trans (se.trans s34))
   ·refine fun σ Hf hI_6=>opq fun G_6 hG_6=>?_;obtain ⟨v5,rfl,sf,okm⟩:=hI_6;refine hG_6 ?_;rw [A0,lrm,K0] at okm;refine ⟨_,_,rfl,se.trans (s3.trans sf),fun y hy=>?_⟩;rw [C7,hz,C8] at hy;rcases B1.mp hy with h | h
    ·exact ok y h
    ·rw [A8.mp h];exact okm
  ·refine fun σ He hI_7=>opq fun G_7 hG_7=>?_;obtain ⟨v4,v5,rfl,se,ok⟩:=hI_7;refine hG_7 ?_;refine hN2 _ _ ?_;rw [lkk,K0] at ok;have e1:qKZ Ae Aa ss=true:=F2.mpr fun z hz=>F2.mpr fun m hm=>decide_eq_true (ok z ((ik z).mpr hz) m hm);rw [e1] at q;exact q _ (sd.trans se)
theorem qH5:FnScope ["net","wanted","rooms","stands"] ["net","wanted","rooms","stands"] (qAE qC5):=qBP
theorem ok_never_come_to (F:Fun K "never_come_to" "never_come_to" qC5 f fd) (qJQ:Clb P w K mg base 4 qGQ qNL "is_stand" ["net","rooms","thing"] qO3) (qH2:Clb P w K mg base 4 qEW qKL "are_closed" ["net","rooms","stands"] qLI) (qMS:Clb P w K mg base 1 qID qQB "has_all" ["results","works"] qVR) (qAN:mg "isinstance" = none) (qEK:mg "list" = none) (qJV:mg "all" = none) (qWQ:mg "any" = none):FnOk P w K mg base CX0 5 f fd ["net","wanted","rooms","stands"] qJ4:=by
 refine F.okA qH5 fun cdv A outer s H vs Q E hr h=>?_;obtain ⟨a,lw,Ae,Aa,want,x,n,d,rfl,hN,wf,n12,gw,lwl,D,LD,q⟩:=h;have hu64:=hr.units;refine ⟨_,(qA4 (qBI (PW.pt (qGI (qCA (qBX (qA9 qB6 rfl qAN qAU (qA0 (pv 3) (qA0 (qD1 (v:=.ty "list") rfl qEK qGV rfl) qA2))))) (qF8 (qCA (qBX (qA9 (qGA rfl) rfl qJV qML (qA0 (qC6 rfl (lcs (own:=["stand"]) (fv:=[0,2]) (by kernel_rfl)) (qCC (pv 3)) (fun z1=>qBF 0) (fun z1=>qB2) (fun z1=>(qAS qJQ hr rfl (qA0 (pv 1) (qA0 (pv 2) (qA0 (pv 0) qA2)))))) qA2))))))) (qA6 (qAI qC9)) qAO) (qA4 (qBI (PW.pt (qGI (qAL (qG0 hu64) (qAV qA2) (pv 3) (by with_unfolding_all rfl)) (qF8 (qCA (qBX (qAS qH2 hr rfl (qA0 (pv 0) (qA0 (pv 2) (qA0 (pv 3) qA2))))))))) (qA6 (qAI qC9)) qAO) (qA6 (qAI (qW0 (qA9 (qP9 rfl) rfl qWQ qWI (qA0 (qC6 rfl (lcs (own:=["stand"]) (fv:=[1]) (by kernel_rfl)) (qCC (pv 3)) (fun z2=>qBF 0) (fun z2=>qB2) (fun z2=>(qAS qMS hr rfl (qA0 (pv 0) (qA0 (pv 1) qA2))))) qA2))))))),?_⟩
 try dsimp only [Cx.nox,Cx.wish,cxOf]
 obtain ⟨ty,tyo,k1⟩:=qVM (K:=K) D;refine cut fun N0 hN0=>?_;refine ⟨_,rfl,x,"list",ty,_,rfl,tyo,k1,_,rfl,?_⟩;cases c:lstB d with
 | false=>
  refine iteT ?_;refine iteT ?_;have e1:nevD Ae Aa want d=false:=by cases d <;> first | rfl | cases c
  rw [e1] at q;exact q H (.refl _)
 | true=>
  refine iteF ?_;obtain ⟨m,l,xs,ds,rfl,rfl,rfl,gl,lx,el⟩:=qT6 D c;have ld:=(LD false ds rfl).1;have qd:nevD Ae Aa want (.list ds)=(ds.all (stdD (Ae.length:Int) Aa) && (decide ([] ∈ ds.map qB9) && (qKZ Ae Aa (ds.map qB9) && !((ds.map qB9).any (hasB want))))):=rfl;rw [qd] at q;refine ⟨_,rfl,l,rfl,⟨_,SqL.of gl⟩,fun p hp=>?_⟩;refine qDJ (p:=p) (a:=l) (xs:=xs) (fun i σ Hc=>∃ (v:Option V),σ=[v,some (.ref a),some (.int Aa)]/\Same H Hc/\Hc p=some (.lst (((ds.take i).map (stdD (Ae.length:Int) Aa)).map V.bl))) ?_ ?_ ?_ ?_
  ·exact ⟨none,rfl,qA3 hp _,qA1⟩
  ·rintro i σ Hc hi ⟨v,rfl,sm,_⟩;exact SqL.of (sm _ _ gl)
  ·refine fun i x σ Hc hx hI_2=>opq fun G_2 hG_2=>?_;obtain ⟨v,rfl,sm,hpc⟩:=hI_2;refine hG_2 ?_;have hi:=(A5.mp hx).1;have ed:=A3 (show i<ds.length by lia)
   have Di:=el i x _ hx ed;generalize ds[i]=d1 at ed Di;refine ⟨_,rfl,_,rfl,_,rfl,a,Ae,Aa,x,m,d1,rfl,hN.same sm,n12,Di.same sm,?_⟩;refine ⟨_,hpc,qBM (by rw [A0,A0,B9];lia),_,rfl,qAG sm hp,?_⟩
   rw [qA1,C7,ed,C8,B0,B0]
   rfl
  refine fun σ Hc hI_3=>opq fun G_3 hG_3=>?_;obtain ⟨v,rfl,sm,hpc⟩:=hI_3;refine hG_3 ?_;rw [lx,K0] at hpc;refine ⟨p,_,rfl,SqL.of hpc,?_⟩;have al:((ds.map (stdD (Ae.length:Int) Aa)).all id)=ds.all (stdD (Ae.length:Int) Aa):=by rw [B07];rfl
  rw [al];cases c2:ds.all (stdD (Ae.length:Int) Aa) with
  | false=>
   refine ⟨_,rfl,?_⟩;refine iteT ?_;rw [c2,E2] at q;exact q _ sm
  | true=>
   refine ⟨_,rfl,?_⟩;refine iteF ?_;rw [c2,J5] at q;obtain ⟨rs,rfl,SL,RS⟩:=qHR lx el c2;have lrs:rs.length=ds.length:=by have:=lx;rw [A0] at this;exact this
   have lss:(ds.map qB9).length=ds.length:=A0 ..;generalize ds.map qB9=ss at SL RS q lss;refine hN0 _ _ (cut fun N1 hN1=>?_);refine ⟨(by show 0<=sizeLine;decide),fun e he=>?_⟩
   have s1:=sm.trans (qA3 he (.tup []));have ge:(Ag Hc e (.tup [])) e=some (.tup (([]:List Int).map V.int)):=qA1;generalize Ag Hc e (.tup [])=H1 at s1 ge ⊢;refine ⟨_,rfl,e,l,[],rs,ss,rfl,rfl,ge,SqL.of (s1 _ _ gl),SL.same s1,_,rfl,?_⟩;by_cases cn:([]:List Int) ∈ ss
   ·rw [decide_eq_false (fun h=>h cn)];rw [decide_eq_true cn,J5] at q;refine iteF ?_;refine ⟨_,rfl,_,rfl,_,rfl,a,l,Ae,Aa,rs,ss,rfl,hN.same s1,wf,n12,s1 _ _ gl,SL.same s1,by lia,fun s hs=>(RS s hs).1,fun H2 s2=>⟨_,rfl,?_⟩⟩
    have s12:=s1.trans s2;have SL2:=SL.same s12;cases c3:qKZ Ae Aa ss with
    | false=>
     rw [c3,E2] at q;refine iteT ?_;exact q _ s12
    | true=>
     rw [c3,J5] at q;refine iteF ?_;refine hN1 _ _ ?_;refine ⟨_,rfl,l,rfl,⟨_,SqL.of (s12 _ _ gl)⟩,fun p2 hp2=>?_⟩;refine qDJ (p:=p2) (a:=l) (xs:=rs.map V.ref) (fun i σ Hc=>∃ (v:Option V),σ=[v,some (.ref lw)]/\Same H2 Hc/\Hc p2=some (.lst (((ss.take i).map (hasB want)).map V.bl))) ?_ ?_ ?_ ?_
     ·exact ⟨none,rfl,qA3 hp2 _,qA1⟩
     ·rintro i σ Hd hi ⟨v,rfl,sd,_⟩;exact SqL.of (sd _ _ (s12 _ _ gl))
     ·refine fun i x σ Hd hx hI_5=>opq fun G_5 hG_5=>?_;obtain ⟨v,rfl,sd,hpd⟩:=hI_5;obtain ⟨r,er,rfl⟩:=qES hx;obtain ⟨z,ez,gz⟩:=qBH SL2 er;refine hG_5 ?_;have hi:=(A5.mp ez).1;refine ⟨_,rfl,_,rfl,false,r,lw,z,want,rfl,sd _ _ gz,.inl (sd _ _ (s12 _ _ gw)),lwl,fun H3 s3=>?_⟩;refine ⟨_,s3 _ _ hpd,qBM (by rw [A0,A0,B9];lia),_,rfl,qAG (sd.trans s3) hp2,?_⟩
      rw [qA1,C7,ez,C8,B0,B0]
      rfl
     refine fun σ Hd hI_6=>opq fun G_6 hG_6=>?_;obtain ⟨v,rfl,sd,hpd⟩:=hI_6;refine hG_6 ?_;rw [A0,lrs,<- lss,K0] at hpd;refine ⟨p2,_,rfl,SqL.of hpd,?_⟩;have an:((ss.map (hasB want)).any id)=ss.any (hasB want):=by rw [List.any_map];rfl
     rw [an];exact ⟨_,rfl,q _ (s12.trans sd)⟩
   ·rw [decide_eq_true cn];rw [decide_eq_false cn,E2] at q;refine iteT ?_;refine iteT ?_;exact q _ s1
theorem qUH {ws:List Int} {x:Int} (h:x ∉ ws):qC4 ws x=none:=by
 cases e:qC4 ws x with
 | none=>rfl
 | some p=>exact absurd (C3 (qEO e).2) h
theorem sc_shows_never:FnScope ["net","asked","rooms","thing","works","wanted"] ["net","asked","rooms","thing"] (qAE qCN):=qBP
theorem ok_shows_never (F:Fun K "shows_never" "shows_never" qCN f fd) (qMR:Clb P w K mg base 1 qIC qQA "is_pair" ["thing"] qQZ) (qED:Clb P w K mg base 3 qE9 qH0 "is_rising" ["thing","end"] qHS) (qJO:Clb P w K mg base 2 qGO qNJ "part_net" ["net","works"] qQY) (qF0:Clb P w K mg base 5 qD4 qH9 "never_come_to" ["net","wanted","rooms","stands"] qJ4) (qAZ:mg "len" = none):FnOk P w K mg base CX0 6 f fd ["net","asked","rooms","thing"] qHB:=by
 refine F.okA sc_shows_never fun cdv A outer s H vs Q E hr h=>?_;obtain ⟨a,t,Ae,Ad,Aa,x,n,d,rfl,hN,wf,n12,⟨hT,rA⟩,D,LD,q⟩:=h;refine ⟨_,(qA4 (qBI (PW.pt (qGI (qCA (qBX (qAS qMR hr rfl (qA0 (pv 3) qA2)))) (qF8 (qCA (qBX (qAS qED hr rfl (qA0 (qBL qC8 (pv 3) qA8 (fun _ _=>rfl)) (qA0 (qA9 qAA rfl qAZ qAY (qA0 (pv 0) qA2)) qA2)))))))) (qA6 (qAI qC9)) qAO) (qA4 (qAJ (i:=4) sc_shows_never.nd rfl (o6 rfl) (qBL qC8 (pv 3) qA8 (fun _ _=>rfl))) (qA4 (qLU (i:=5) sc_shows_never.nd rfl rfl rfl (lcs (own:=["work"]) (fv:=[4]) (by kernel_rfl)) (qDQ (pv 1)) (fun z1=>qBF 0) (fun z1=>(qCB (qAL (qJB (K:=K) rfl) (pv 0) (pv 1) (by with_unfolding_all rfl)))) (fun z1=>(qZ2 (X:=lcCx _ _ _ _ z1) PySem.F.plainAttrs_tuple PySem.F.slot_tuple_index PySem.F.type_tuple_index (qN8 (K:=K) rfl) (pv 1) (qA0 (pv 0) qA2))) (by kernel_rfl)) (qA6 (qAI (qLZ (qD0 qRR (qA9 qAA rfl qAZ qAY (qA0 (pv 5) qA2)) qA8 (qAQ _)) (qLY (qAS qF0 hr rfl (qA0 (qAS qJO hr rfl (qA0 (pv 0) (qA0 (pv 4) qA2))) (qA0 (pv 5) (qA0 (pv 2) (qA0 (qBL qC8 (pv 3) qA8 (fun _ _=>rfl)) qA2)))))))))))),?_⟩
 try dsimp only [Cx.nox,Cx.wish,cxOf]
 obtain ⟨ra,hA,NL⟩:=id hN;have lra:=C6 NL;have lA:=rA.len;refine cut fun N0 hN0=>?_;refine ⟨_,rfl,x,n,d,rfl,D,_,rfl,?_⟩;cases c:qN3 d with
 | false=>
  refine iteT ?_;refine iteT ?_;rw [qJE c] at q;exact q H (.refl _)
 | true=>
  refine iteF ?_;obtain ⟨d0,d1,rfl⟩:=qRN c;obtain ⟨m,T,xs,ds,rfl,rfl,e2,gT,lx,el⟩:=qGU D rfl;cases e2;obtain ⟨x0,x1,rfl⟩:∃ x0 x1,xs=[x0,x1]:=by match xs,lx with | [u,v],_=>exact ⟨u,v,rfl⟩
  have D0:=el 0 x0 d0 rfl rfl;have D1:=el 1 x1 d1 rfl rfl;have L1:=(LD true _ rfl).2 d1 (D4 _ C9);have qd:qM3 Ae Ad Aa (.tuple [d0,d1])=(qE3 (Ae.length:Int) d0 && (!(qCY (qB9 d0) Ad).isEmpty && nevD (qBQ Ae (qB9 d0)) Aa (qCY (qB9 d0) Ad) d1)):=rfl;rw [qd] at q;refine ⟨_,rfl,T,_,_,_,rfl,rfl,SqT.of gT,rfl,_,rfl,a,_,rfl,.inr (SqT.of hA),?_⟩;rw [A0,lra];refine ⟨x0,m,d0,_,rfl,D0,_,rfl,?_⟩;cases cr:qE3 (Ae.length:Int) d0 with
  | false=>
   refine iteT ?_;rw [cr,E2] at q;exact q H (.refl _)
  | true=>
   refine iteF ?_;rw [cr,J5] at q;obtain ⟨tw,ws,rfl,rfl,ew,gw,rW⟩:=qEM D0 cr;rw [ew] at q;have lws:=rW.len;refine hN0 _ _ (cut fun N1 hN1=>?_);refine ⟨_,rfl,T,_,_,_,rfl,rfl,SqT.of gT,rfl,?_⟩;refine hN1 _ _ (cut fun N2 hN2=>?_);refine ⟨_,rfl,t,rfl,⟨_,SqT.of hT⟩,fun p hp=>?_⟩;refine qER (p:=p) (a:=t) (xs:=Ad.map V.int) (fun i σ Hc=>∃ (v0:Option V),σ=[v0,some (.ref tw)]/\Same H Hc/\Hc p=some (.lst ((qCY ws (Ad.take i)).map V.int))) ?_ ?_ ?_ ?_
   ·exact ⟨none,rfl,qA3 hp _,qA1⟩
   ·rintro i σ Hc hi ⟨v0,rfl,sm,_⟩;exact SqT.of (sm _ _ hT)
   ·refine fun i x σ Hc hx hI_2=>opq fun G_2 hG_2=>?_;obtain ⟨v0,rfl,sm,hpc⟩:=hI_2;obtain ⟨y,ey,rfl⟩:=qBB hx;refine hG_2 ?_;have lt:=(A5.mp ey).1;have gw2:=sm _ _ gw;have lk:(qCY ws (Ad.take i)).length<=i:=J6 (X2 _ _) (by rw [B9];lia)
    have tk:qCY ws (Ad.take (i+1))=qCY ws (Ad.take i)++(qC4 ws y).toList:=by
     unfold qCY;rw [C7,ey,C8,m8];cases e:qC4 ws y <;> simp [e]
    refine ⟨_,rfl,_,rfl,tw,_,rfl,.inr (SqT.of gw2),rfl,qBR ws,_,rfl,?_⟩;rw [qD3];by_cases cy:y ∈ ws
    ·rw [decide_eq_true cy];obtain ⟨j,hj⟩:=W4 cy;have first:∀ k,k<j->ws[k]? ≠ some y:=fun k hk e=>by
      obtain ⟨h1,e1⟩:=A5.mp e;obtain ⟨h2,e2⟩:=A5.mp hj;exact absurd (e1.trans e2.symm) (c7.mp rW.nodup k j h1 h2 hk)
     refine iteT ?_;refine ⟨_,rfl,⟨tw,_,rfl,gw2⟩,_,rfl,tw,ws,y,j,rfl,rfl,SqT.of gw2,hj,first,_,hpc,qAH (by rw [A0];lia),_,rfl,qAG sm hp,?_⟩
     rw [qA1,tk,qHG rW.nodup hj,B0]
     rfl
    ·rw [decide_eq_false cy];refine iteF ?_;refine ⟨_,rfl,sm,?_⟩;rw [tk,qUH cy,hpc];simp
   refine fun σ Hc hI_3=>opq fun G_3 hG_3=>?_;obtain ⟨v0,rfl,sm,hpc⟩:=hI_3;refine hG_3 ?_;rw [A0,K0] at hpc;have lwl:(qCY ws Ad).length<=Ad.length:=X2 _ _;refine hN2 _ _ ?_;refine ⟨_,rfl,p,_,rfl,.inl (SqL.of hpc),_,_,rfl,rfl,_,rfl,?_⟩;rw [A0];refine ite2 (fun c0=>?_) (fun c0=>?_)
   ·have w0:(qCY ws Ad).isEmpty=false:=by
     have:=of_decide_eq_true c0;cases hw:qCY ws Ad with
     | nil=>rw [hw] at this;simp at this
     | cons _ _=>rfl
    rw [w0,l7,J5] at q;refine ⟨_,rfl,_,rfl,a,tw,Ae,ws,rfl,hN.same sm,wf,by lia,.inl (sm _ _ gw),rW,fun b H3 s3 hB=>?_⟩
    have s13:=sm.trans s3;refine ⟨_,rfl,_,rfl,_,rfl,T,_,_,_,rfl,rfl,SqT.of (s13 _ _ gT),rfl,?_⟩;refine ⟨b,p,qBQ Ae ws,Aa,qCY ws Ad,x1,m,d1,rfl,hB,qDR wf rW,by rw [qC7];lia,s3 _ _ hpc,by lia,D1.same s13,L1.down,fun H4 s4=>?_⟩
    exact q _ (s13.trans s4)
   ·have w0:(qCY ws Ad).isEmpty=true:=by
     cases hw:qCY ws Ad with
     | nil=>rfl
     | cons _ _=>exact absurd (decide_eq_true (by rw [hw,D5];lia)) c0
    rw [w0,V4,E2] at q;exact q _ sm
theorem sc_Lrising:FnScope ["_law_thing","_law_most","_law_one"] ["_law_thing","_law_most"] (qAE qFT):=qBP
theorem ok_Lrising (F:Fun K "_law_rising" "_law_rising" qFT f fd) (qAN:mg "isinstance" = none) (qAK:mg "tuple" = none) (qL8:mg "int" = none) (qJ0:mg "bool" = none) (qJV:mg "all" = none) (qZV:mg "zip" = none):FnOk P w K mg base CX0 1 f fd ["_law_thing","_law_most"] qQX:=by
 refine F.okA sc_Lrising fun cdv A outer s H vs Q E hr h=>?_;obtain ⟨x,n,d,e,rfl,D,LD,q⟩:=h;refine ⟨_,(qA4 (qBI (qCA (qBX (qA9 qB6 rfl qAN qAU (qA0 (pv 0) (qA0 (qD1 (v:=.ty "tuple") rfl qAK qAP rfl) qA2))))) (qA6 (qAI qC9)) qAO) (qA4 (qBY E1 rfl (qDQ (pv 0)) (qAW (i:=2) sc_Lrising.nd rfl (E8 rfl)) (qA6 (qBI (PW.pt (qGI (qCA (qBX (qA9 qB6 rfl qAN qAU (qA0 (pv 2) (qA0 (qD1 (v:=.ty "int") rfl qL8 qMK rfl) qA2))))) (qGI (qBX (qA9 qB6 rfl qAN qAU (qA0 (pv 2) (qA0 (qD1 (v:=.ty "bool") rfl qJ0 qNX rfl) qA2)))) (qF8 (qCA (qUG qX8 qM1 qA8 (pv 2) (pv 1))))))) (qA6 (qAI qC9)) qAO))) (qA6 (qAI (qA9 (qGA rfl) rfl qJV qML (qA0 (qC6 rfl (lcs (own:=["_law_one","_law_other"]) (fv:=[]) (by kernel_rfl)) (qYZ rfl qZV qZN (qA0 (pv 0) (qA0 (qCR qWV (pv 0) (qCZ qA8) qE5) qA2))) (fun z1=>qI0 (K:=K) (n:=2) rfl rfl (qB7 (qBF 0) (qB7 (qBF 1) qE6)) rfl rfl) (fun z1=>qB2) (fun z1=>(qD0 qM1 (pv 0) (pv 1) (qAQ _)))) qA2)))))),?_⟩
 try dsimp only [Cx.nox,Cx.wish,cxOf]
 obtain ⟨ty,tyo,k1,k2,k3⟩:=qJ1 (K:=K) D;refine cut fun N0 hN0=>?_;refine ⟨_,rfl,x,"tuple",ty,_,rfl,tyo,k3,_,rfl,?_⟩;cases c:tupB d with
 | false=>
  refine iteT ?_;have e1:qE3 e d=false:=by cases d <;> first | rfl | cases c
  rw [e1] at q;exact q _ (.refl _)
 | true=>
  refine iteF ?_;obtain ⟨m,a,xs,ds,rfl,rfl,rfl,ga,lx,el⟩:=qGU D c;have ld:=(LD true ds rfl).1;refine hN0 _ _ (cut fun N1 hN1=>?_);refine ⟨_,rfl,a,rfl,⟨_,SqT.of ga⟩,qIA (a:=a) (xs:=xs) (fun i σ Hc=>∃ (v2:Option V),σ=[some (.ref a),some (.int e),v2]/\Hc=H/\(ds.take i).all (qGB e)=true)
   ⟨none,rfl,rfl,rfl⟩ (fun i σ Hc _ ⟨_,_,eh,_⟩=>by rw [eh];exact SqT.of ga) ?_ ?_⟩
  ·refine fun i x σ Hc hx hI_1=>opq fun G_1 hG_1=>?_;obtain ⟨v2,rfl,rfl,ok⟩:=hI_1;refine hG_1 ?_;have hi:=(A5.mp hx).1;have ed:=A3 (show i<ds.length by lia)
   have Di:=el i x _ hx ed;have hm:=C3 ed;generalize ds[i]=d1 at ed Di hm;have fal:qGB e d1=false->Q (.bl false) Hc:=fun hb=>by
    have e1:qE3 e (.tuple ds)=false:=qPR hm hb;rw [e1] at q;exact q _ (.refl _)
   obtain ⟨ty1,tyo1,j1,j2,_⟩:=qJ1 (K:=K) Di;refine ⟨_,rfl,x,"int",ty1,_,rfl,tyo1,j1,_,rfl,?_⟩;cases ci:(numB d1 || qL4 d1) with
   | false=>
    refine iteT ?_;refine iteT ?_;exact fal (by cases d1 <;> first | rfl | cases ci)
   | true=>
    refine iteF ?_;refine ⟨_,rfl,x,"bool",ty1,_,rfl,tyo1,j2,_,rfl,?_⟩;cases cb:qL4 d1 with
    | true=>
     refine iteT ?_;refine iteT ?_;exact fal (by cases d1 <;> first | rfl | cases cb)
    | false=>
     refine iteF ?_;obtain ⟨z,rfl,rfl⟩:=qKW Di (by rw [cb,Bool.or_false] at ci;exact ci)
     refine ⟨_,rfl,_,_,rfl,rfl,_,rfl,?_⟩;cases c1:decide ((0:Int)<=z) with
     | false=>
      refine iteF ?_;refine ⟨_,rfl,?_⟩;refine iteT ?_;exact fal (by show (decide ((0:Int)<=z) && _)=false;rw [c1];rfl)
     | true=>
      refine iteT ?_;refine ⟨_,rfl,_,_,rfl,rfl,_,rfl,?_⟩;cases c2:decide (z<e) with
      | false=>
       refine iteT ?_;exact fal (by show (decide ((0:Int)<=z) && decide (z<e))=false;rw [c1,c2];rfl)
      | true=>
       refine iteF ?_;refine ⟨_,rfl,rfl,?_⟩;rw [C7,ed,C8,B33,ok,i6,show qGB e (.int z)=(decide ((0:Int)<=z) && decide (z<e)) from rfl,c1,c2]
       rfl
  ·refine fun σ Hc hI_2=>opq fun G_2 hG_2=>?_;obtain ⟨v2,rfl,rfl,ok⟩:=hI_2;refine hG_2 ?_;rw [lx,K0] at ok;obtain ⟨zs,rfl,zin⟩:=qQM ok;have ex:=qP3 lx el;subst ex;have e1:qE3 e (.tuple (zs.map .int))=adjB zs:=qOA zin fun h hh=>(zin h (by cases zs with | nil=>cases hh | cons _ _=>cases hh;exact C9)).1
   rw [e1] at q;have lz:zs.length<=2000:=by rw [A0] at ld;exact ld
   have hA:Rd Hc a (.tup (zs.map V.int)):=.inl ga;refine hN1 _ _ ?_;refine ⟨_,rfl,_,rfl,_,rfl,a,_,rfl,hA,fun t2 H2 s2 g2=>?_⟩;have s2:Same _ H2:=s2;have cut:cutV (zs.map V.int) (some 1) none=(zs.drop 1).map V.int:=by
    rw [qHL];cases zs with
    | nil=>rfl
    | cons z r=>rw [show (1:Int)=((1:Nat):Int) from rfl,qMF _ _ (by simp)]
   rw [cut] at g2;refine ⟨true,a,t2,rfl,⟨_,.inl (hA.same s2)⟩,⟨_,.inl g2⟩,fun pz hpz=>?_⟩;have lzd:(zs.zip (zs.drop 1)).length=((zs.drop 1).map V.int).length:=by rw [List.length_zip,A0,F1];lia
   refine qXG (p:=pz) (b:=true) (l:=a) (m:=t2) (xs:=zs.map V.int) (ys:=(zs.drop 1).map V.int) (by rw [A0,A0,F1];lia) (fun j σ Hy=>∃ (v1 v2:Option V),σ=[v1,v2]/\Same H2 Hy/\Hy pz=some (.lst ((((zs.zip (zs.drop 1)).take j).map fun p=>decide (p.1<p.2)).map V.bl))) ?_ (fun j σ Hy _ h=>?_) ?_ ?_
   ·exact ⟨none,none,rfl,qA3 hpz _,qA1⟩
   ·obtain ⟨_,_,_,sy,_⟩:=h;exact ⟨.inl ((hA.same s2).same sy),.inl (g2.same sy)⟩
   ·refine fun j x y σ Hy T hx hy hI_3 hT0=>opq fun G_3 hG_3=>?_;obtain ⟨v1,v2,rfl,sy,gpz⟩:=hI_3;obtain ⟨x1,e1,rfl⟩:=qBB hx;obtain ⟨y1,e2,rfl⟩:=qBB hy;refine hG_3 ?_;have ez:(zs.zip (zs.drop 1))[j]?=some (x1,y1):=by rw [List.getElem?_zip_eq_some];exact ⟨e1,e2⟩
    have lj:=(A5.mp e1).1;have sT:=qA3 hT0 (.tup [.int x1,.int y1]);refine ⟨T,_,rfl,SqT.of qA1,rfl,_,_,rfl,_,_,rfl,rfl,?_⟩;refine ⟨_,rfl,_,rfl,_,_,rfl,rfl,?_⟩;refine ⟨_,sT _ _ gpz,qBM (by rw [A0,A0,B9];lia),_,_,rfl,qAG (sy.trans sT) hpz,?_⟩
    rw [qA1,C7,ez,C8,B0,B0]
    rfl
   ·refine fun σ Hy hI_4=>opq fun G_4 hG_4=>?_;obtain ⟨v1,v2,rfl,sy,gpz⟩:=hI_4;refine hG_4 ?_;rw [<- lzd,K0] at gpz;refine ⟨pz,_,rfl,SqL.of gpz,?_⟩;have al:(((zs.zip (zs.drop 1)).map fun p=>decide (p.1<p.2)).all id)=adjB zs:=by rw [B07,<- qTP];rfl
    rw [al];exact q _ (s2.trans sy)
theorem qU1 {Ae:List (List Int)} {st ns:List Int} {Aa wk:Int} {Ac:Str} (hns:Ae[wk.toNat]?=some ns) (hw:Ac = "do"\/Ac = "clear") (h0:0<=wk) (h1:wk<(Ae.length:Int)):(Ac,wk) ∈ qD5 Ae st Aa ↔ qD7 ns st Aa Ac wk=.non:=by
 have e0:wd Ae st Aa (Ac,wk)=qD7 ns st Aa Ac wk:=by unfold wd;rw [hns];rfl
 unfold qD5;rw [K9,decide_eq_true_eq,e0];refine ⟨fun h=>h.2,fun h=>⟨?_,h⟩⟩;unfold qIZ qH8;have e:((wk.toNat:Nat):Int)=wk:=by lia
 rcases hw with z | z
 ·exact n9 _ (D7.mpr ⟨wk.toNat,D6.mpr (by lia),by rw [e,z]⟩)
 ·exact J7 _ (D7.mpr ⟨wk.toNat,D6.mpr (by lia),by rw [e,z]⟩)
theorem qYY (b:Bool):atI [V.str "do",V.str "clear"] (if b=true then (1:Int) else 0)=some (.str (if b=true then "clear" else "do")):=by
 cases b <;> rfl
theorem qKU {Ae:List (List Int)} {st:List Int} {Aa:Int} {m:Mv} (h:m ∈ qD5 Ae st Aa):m.1=(if decide (m.2 ∈ st)=true then D2 "clear" else D2 "do")/\0<=m.2/\m.2<(Ae.length:Int):=by
 obtain ⟨⟨hw,h0,h1⟩,hd,hc⟩:=due_iff.mp h;refine ⟨?_,h0,h1⟩;by_cases c:m.2 ∈ st
 ·rw [decide_eq_true c,if_pos rfl];rcases hw with e | e
  ·exact absurd c (hd e).1
  ·exact e
 ·rw [decide_eq_false c,if_neg C1];rcases hw with e | e
  ·exact e
  ·exact absurd (hc e) c
theorem sc_Lstays:FnScope ["_law_part_here","_law_rooms","_law_stand","_law_there","_law_work","_law_move"] ["_law_part_here","_law_rooms","_law_stand","_law_there"] (qAE qHC):=qBP
theorem ok_Lstays (F:Fun K "_law_stays" "_law_stays" qHC f fd) (qTR:Clb P w K mg base 1 qNP qV9 "_law_word" ["_law_net_here","_law_rooms","_law_stand","_law_move"] qK0) (qMT:Clb P w K mg base 1 qIG qQD "_law_behind" ["_law_stand","_law_move"] qFQ) (qAR:mg "range" = none) (qAZ:mg "len" = none) (qL8:mg "int" = none):FnOk P w K mg base CX0 2 f fd ["_law_part_here","_law_rooms","_law_stand","_law_there"] qO2:=by
 refine F.okA sc_Lstays fun cdv A outer s H vs Q E hr h=>?_;obtain ⟨a,t,d,o,Ae,Aa,st,ks,Af,rfl,hN,wf,n12,hT,rs,gd,vk,q⟩:=h;have hu:=qIU hr;refine ⟨_,(qA4 (qBY E1 rfl (qB0 rfl qAR (qA0 (qA9 qAA rfl qAZ qAY (qA0 (pv 0) qA2)) qA2)) (qAW (i:=4) sc_Lstays.nd rfl (E8 rfl)) (qA4 (qAJ (i:=5) sc_Lstays.nd rfl (E8 rfl) (qBL qC1 (qB4 (qA0 qBJ (qA0 qBJ qA2))) (qAD qIN rfl qL8 qMK (qA0 (qD0 qDT (pv 4) (pv 2) (by with_unfolding_all rfl)) qA2)) (fun _ _=>rfl))) (qA6 (qBI (PW.pt (qVV (qF9 (qW1 (qAS qTR hr rfl (qA0 (pv 0) (qA0 (pv 1) (qA0 (pv 2) (qA0 (qAV (qA0 (pv 5) (qA0 (pv 4) qA2))) qA2))))))) (qRB (qF9 (qEP hu (qAS qMT hr rfl (qA0 (pv 2) (qA0 (qAV (qA0 (pv 5) (qA0 (pv 4) qA2))) qA2))) (pv 3)))))) (qA6 (qAI qC9)) qAO)))) (qA6 (qAI qC9))),?_⟩
 try dsimp only [Cx.nox,Cx.wish,cxOf]
 obtain ⟨ra,hA,NL⟩:=id hN;have lra:=C6 NL;have lst:=rs.len;refine cut fun N0 hN0=>?_;refine ⟨_,rfl,a,_,rfl,.inr (SqT.of hA),?_⟩;rw [A0,lra];refine ⟨(Ae.length:Int),rfl,by lia,by lia,qDX (lo:=0) (n:=Ae.length) (fun i σ Hc=>∃ (v4 v5:Option V),σ=[some (.ref a),some (.int Aa),some (.ref t),some (.ref d),v4,v5]/\Same H Hc/\∀ m ∈ qD5 Ae st Aa,m.2<(i:Int)->behL st m ∈ ks)
  ⟨none,none,rfl,.refl _,fun m hm h=>by have:=(qKU hm).2.1;lia⟩ ?_ ?_⟩
 ·refine fun i σ Hc hi hI_5=>opq fun G_5 hG_5=>?_;obtain ⟨v4,v5,rfl,sc,ok⟩:=hI_5;refine hG_5 ?_;refine cut fun M0 hM0=>?_;refine ⟨(by show 2<=sizeLine;decide),fun p hp=>?_⟩
  have s1:=sc.trans (qA3 hp (.lst [.str "do",.str "clear"]))
  have gp:(Ag Hc p (.lst [.str "do",.str "clear"])) p=some (.lst [.str "do",.str "clear"]):=qA1
  generalize Ag Hc p (.lst [.str "do",.str "clear"])=H1 at s1 gp ⊢
  have ewd:=qYY (decide (0+(i:Int) ∈ st));obtain ⟨wd,ed⟩:∃ wd:Str,wd=(if decide (0+(i:Int) ∈ st)=true then D2 "clear" else D2 "do"):=⟨_,rfl⟩
  have hw:wd = "do"\/wd = "clear":=by
   rw [ed]
   split
   ·exact .inr rfl
   ·exact .inl rfl
  have ewd:atI [V.str "do",V.str "clear"] (if inV (.int (0+(i:Int))) (st.map V.int)=true then (1:Int) else 0)=some (.str wd):=by rw [qD3,ewd,ed]
  refine ⟨_,rfl,_,rfl,t,_,rfl,.inr (SqT.of (s1 _ _ hT)),rfl,qBR st,.inr ⟨_,rfl,p,_,_,_,rfl,rfl,SqL.of gp,ewd,?_⟩⟩;refine hM0 _ _ ?_;have hi':(0+(i:Int)).toNat<Ae.length:=by lia
  have hns:=A3 hi';have ln:=(wf _ _ hns).len;generalize Ae[(0+(i:Int)).toNat]=ns at hns ln;have iff:=qU1 (st:=st) (Aa:=Aa) hns hw (by lia) (by lia)
  have nx:((wd,0+(i:Int)) ∈ qD5 Ae st Aa->behL st (wd,0+(i:Int)) ∈ ks)->∀ m ∈ qD5 Ae st Aa,m.2<((i+1:Nat):Int)->behL st m ∈ ks:=fun hx m hm hl=>by
   by_cases h:m.2<(i:Int)
   ·exact ok m hm h
   ·have e:m=(wd,0+(i:Int)):=by
     have e2:m.2=0+(i:Int):=by lia
     have e1:=(qKU hm).1;rw [e2] at e1;exact Prod.ext (by rw [e1,ed]) e2
    rw [e] at hm ⊢;exact hx hm
  refine ⟨_,rfl,_,rfl,_,rfl,_,rfl,_,rfl,(by show 2<=sizeLine;decide),fun mv hmv=>?_⟩
  have s2:=s1.trans (qA3 hmv (.tup [.str wd,.int (0+(i:Int))]));have gm:(Ag H1 mv (.tup [.str wd,.int (0+(i:Int))])) mv=some (.tup [.str wd,.int (0+(i:Int))]):=qA1;generalize Ag H1 mv (.tup [.str wd,.int (0+(i:Int))])=H2 at s2 gm ⊢;refine ⟨a,t,mv,Ae,st,ns,Aa,_,wd,rfl,hN.same s2,s2 _ _ hT,by lia,gm,hw,by lia,hns,by lia,fun H3 s3=>⟨_,rfl,?_⟩⟩
  have s23:=s2.trans s3;by_cases c:qD7 ns st Aa wd (0+(i:Int))=.non
  ·have hdue:=iff.mpr c;rw [c];refine iteT ?_;refine ⟨_,rfl,_,rfl,_,rfl,(by show 2<=sizeLine;decide),fun mv2 hmv2=>?_⟩
   have s4:=s23.trans (qA3 hmv2 (.tup [.str wd,.int (0+(i:Int))]));have gm2:(Ag H3 mv2 (.tup [.str wd,.int (0+(i:Int))])) mv2=some (.tup [.str wd,.int (0+(i:Int))]):=qA1;generalize Ag H3 mv2 (.tup [.str wd,.int (0+(i:Int))])=H4 at s4 gm2 ⊢;refine ⟨t,mv2,st,wd,_,rfl,s4 _ _ hT,by lia,gm2,hw,fun r st2 H5 s5 gr beh=>?_⟩
   have e2:=qWJ (m:=(wd,0+(i:Int))) rs hw beh;rw [e2] at gr;refine ⟨_,rfl,d,_,rfl,.inr ⟨Af,keyS (behL st (wd,0+(i:Int))),r,.inr ⟨o,s5 _ _ (s4 _ _ gd)⟩,rfl,by rw [qGM];exact gr,rfl⟩,_,rfl,?_⟩
   cases ck:(valV Af (keyS (behL st (wd,0+(i:Int))))).isSome with
   | true=>exact iteF ⟨_,_,rfl,s4.trans s5,nx fun _=>(vk _).mp ck⟩
   | false=>
    refine iteT ?_;have e1:((qD5 Ae st Aa).all fun m=>decide (behL st m ∈ ks))=false:=F5.mpr fun h=>by
     have:=(vk _).mpr (of_decide_eq_true (F2.mp h _ hdue));rw [ck] at this;cases this
    rw [e1] at q;exact q _ (s4.trans s5)
  ·rw [decide_eq_false c];refine iteF ?_;exact ⟨_,_,rfl,s23,nx fun h=>absurd (iff.mp h) c⟩
 ·refine fun σ Hc hI_6=>opq fun G_6 hG_6=>?_;obtain ⟨v4,v5,rfl,sc,ok⟩:=hI_6;refine hG_6 ?_;refine hN0 _ _ ?_;have e1:((qD5 Ae st Aa).all fun m=>decide (behL st m ∈ ks))=true:=F2.mpr fun m hm=>decide_eq_true (ok m hm (qKU hm).2.2);rw [e1] at q;exact q _ sc
theorem qLT {k:List Key}:∀ (ps:List (List Key × Addr × V)) (Af:List (List Key × V)),(valV (qBN Af ps) k).isSome=true ↔ (valV Af k).isSome=true\/k ∈ ps.map (·.1)
 | [],Af=>by simp [qBN]
 | q::ps,Af=>by
  show (valV (qBN (putK Af q.1 q.2.2) ps) k).isSome=true ↔ _;rw [qLT ps,qFM,E5,B6];by_cases e:k=q.1
  ·rw [if_pos e];simp [e]
  ·rw [if_neg e];simp [e]
theorem qOE:∀ (ps:List (List Key × Addr × V)) (Af:List (List Key × V)) (kv:List Key × V),kv ∈ qBN Af ps->kv.1 ∈ Af.map (·.1)\/kv.1 ∈ ps.map (·.1)
 | [],Af,kv,h=>.inl (Y5 (f:=fun x:List Key × V=>x.1) h)
 | q::ps,Af,kv,h=>by
  rcases qOE ps (putK Af q.1 q.2.2) kv h with h | h
  ·obtain ⟨x,hx,e⟩:=D7.mp h;unfold putK at hx
   split at hx
   ·obtain ⟨y,hy,rfl⟩:=D7.mp hx;refine .inl ?_;rw [<- e];refine D7.mpr ⟨y,hy,?_⟩
    split <;> rfl
   ·rcases B1.mp hx with h | h
    ·exact .inl (D7.mpr ⟨x,h,e⟩)
    ·rw [A8.mp h] at e;exact .inr (by rw [<- e];exact C9)
  ·exact .inr (D4 _ h)
noncomputable def wanF (ws Ad:List Int):List Int:=(qB8 0 ws.length).filter fun p=>decide ((ws[p.toNat]?).getD 0 ∈ Ad)
theorem qU2 {ws Ad:List Int} (nd:ws.Nodup) {x:Int}:x ∈ wanF ws Ad ↔ x ∈ qCY ws Ad:=by
 unfold wanF qCY;rw [K9,Q5,mem_rangeI,decide_eq_true_eq]
 constructor
 ·refine fun hI_1=>opq fun G_1 hG_1=>?_;obtain ⟨hx,hm⟩:=hI_1;refine hG_1 ?_;have e:=A3 (l:=ws) (i:=x.toNat) (by lia)
  rw [e,Y6] at hm;exact ⟨_,hm,by rw [qHG nd e];congr 1;lia⟩
 ·refine fun hI_2=>opq fun G_2 hG_2=>?_;obtain ⟨y,hy,e⟩:=hI_2;obtain ⟨h0,h1⟩:=qEO e;refine hG_2 ?_;have hi:=(A5.mp h1).1;exact ⟨by lia,by rw [h1];exact hy⟩
theorem qVK {k:List Key}:∀ {Af:List (List Key × V)},(valV Af k).isSome=true->∃ (i:Nat) (kv:List Key × V),Af[i]?=some kv/\kv.1=k
 | [],h=>by simp [valV] at h
 | p::r,h=>by
  by_cases e:p.1=k
  ·exact ⟨0,p,rfl,e⟩
  ·have h2:(valV r k).isSome=true:=by
    unfold valV at h ⊢;rw [List.find?_cons_of_neg (by simp [e])] at h
    exact h
   obtain ⟨i,kv,h3,h4⟩:=qVK h2;exact ⟨i+1,kv,h3,h4⟩
theorem sc_Lis_never:FnScope ["_law_net_here","_law_asked_here","_law_rooms","_law_thing","_law_works","_law_stands","_law_wanted","_law_stand","_law_there","_law_part_here"] ["_law_net_here","_law_asked_here","_law_rooms","_law_thing"] (qAE qE2):=qBP
theorem ok_Lis_never (F:Fun K "_law_is_never" "_law_is_never" qE2 f fd) (qIS:Clb P w K mg base 1 qIE qQC "_law_rising" ["_law_thing","_law_most"] qQX) (qGW:Clb P w K mg base 1 qIF qKM "_law_part" ["_law_net_here","_law_works"] qJY) (qPF:Clb P w K mg base 2 qKO qSP "_law_stays" ["_law_part_here","_law_rooms","_law_stand","_law_there"] qO2) (qAN:mg "isinstance" = none) (qAK:mg "tuple" = none) (qEK:mg "list" = none) (qAZ:mg "len" = none) (qBK:mg "enumerate" = none) (qQR:mg "dict" = none) (qJV:mg "all" = none):FnOk P w K mg base CX0 3 f fd ["_law_net_here","_law_asked_here","_law_rooms","_law_thing"] qHB:=by
 refine F.okA sc_Lis_never fun cdv A outer s H vs Q E hr h=>?_;obtain ⟨a,t,Ae,Ad,Aa,x,n,d,rfl,hN,wf,n12,⟨hT,rA⟩,D,LD,q⟩:=h;have hu:=qIU hr;have hu64:=hr.units;have hu0:=hr.units0;refine ⟨_,(qA4 (qBI (PW.pt (qGI (qCA (qBX (qA9 qB6 rfl qAN qAU (qA0 (pv 3) (qA0 (qD1 (v:=.ty "tuple") rfl qAK qAP rfl) qA2))))) (qGI (qAL qRQ (qA9 qAA rfl qAZ qAY (qA0 (pv 3) qA2)) qA8 (qAQ _)) (qF8 (qCA (qBX (qAS qIS hr rfl (qA0 (qBL qC8 (pv 3) qA8 (fun _ _=>rfl)) (qA0 (qA9 qAA rfl qAZ qAY (qA0 (pv 0) qA2)) qA2))))))))) (qA6 (qAI qC9)) qAO) (qA4 (qLV (pv 3) (qLX rfl (qB7 (qAW (i:=4) sc_Lis_never.nd rfl (E8 rfl)) (qB7 (qAW (i:=5) sc_Lis_never.nd rfl (E8 rfl)) qE6)))) (qA4 (qLU (i:=6) sc_Lis_never.nd rfl rfl rfl (lcs (own:=["_law_place","_law_work"]) (fv:=[1]) (by kernel_rfl)) (qOH rfl qBK qCM (qA0 (pv 4) qA2)) (fun z1=>qI0 (K:=K) (n:=2) rfl rfl (qB7 (qBF 0) (qB7 (qBF 1) qE6)) rfl rfl) (fun z1=>(qCB (qAL (qJB (K:=K) rfl) (pv 1) (pv 2) (by with_unfolding_all rfl)))) (fun z1=>(pv 0)) (by kernel_rfl)) (qA4 (qBI (PW.pt (qGI (qAL (qI3 hu0) (pv 6) (qB4 qA2) (qAQ _)) (qF8 (qCA (qBX (qA9 qB6 rfl qAN qAU (qA0 (pv 5) (qA0 (qD1 (v:=.ty "list") rfl qEK qGV rfl) qA2)))))))) (qA6 (qAI qC9)) qAO) (qA4 (qBY E1 rfl (qCC (pv 5)) (qAW (i:=7) sc_Lis_never.nd rfl (o6 rfl)) (qA6 (qBI (PW.pt (qGI (qCA (qBX (qAS qIS hr rfl (qA0 (pv 7) (qA0 (qA9 qAA rfl qAZ qAY (qA0 (pv 4) qA2)) qA2))))) (qF8 (qAL qRR (qA9 qAA rfl qAZ qAY (qA0 (pv 7) qA2)) (pv 2) (qAQ _))))) (qA6 (qAI qC9)) qAO))) (qA4 (qBI (qAL (qG0 hu64) (qAV qA2) (pv 5) (by with_unfolding_all rfl)) (qA6 (qAI qC9)) qAO) (qA4 (qAJ (i:=8) sc_Lis_never.nd rfl (E8 rfl) (qAD (qQK rfl hu64) rfl qQR qTK (qA0 (qC6 rfl (lcs (own:=["_law_stand"]) (fv:=[]) (by kernel_rfl)) (qCC (pv 5)) (fun z2=>qBF 0) (fun z2=>qB2) (fun z2=>(qAV (qA0 (pv 0) (qA0 qC9 qA2))))) qA2))) (qA4 (qAJ (i:=9) sc_Lis_never.nd rfl (E8 rfl) (qAS qGW hr rfl (qA0 (pv 0) (qA0 (pv 4) qA2)))) (qA4 (qBY E1 rfl (qOI (qRK (pv 8))) (qAW (i:=7) sc_Lis_never.nd rfl (o6 rfl)) (qA6 (qBI (PW.pt (qGI (qBX (qA9 (qGA rfl) rfl qJV qML (qA0 (qC6 rfl (lcs (own:=["_law_place"]) (fv:=[7]) (by kernel_rfl)) (qCC (pv 6)) (fun z3=>qBF 0) (fun z3=>qB2) (fun z3=>(qD0 (qJB (K:=K) rfl) (pv 0) (pv 1) (by with_unfolding_all rfl)))) qA2))) (qF8 (qCA (qBX (qAS qPF hr rfl (qA0 (pv 9) (qA0 (pv 2) (qA0 (pv 7) (qA0 (pv 8) qA2)))))))))) (qA6 (qAI qC9)) qAO))) (qA6 (qAI qC9))))))))))),?_⟩
 try dsimp only [Cx.nox,Cx.wish,cxOf]
 obtain ⟨ra,hA,NL⟩:=id hN;have lra:=C6 NL;have lA:=rA.len;obtain ⟨ty,tyo,k1,k2,k3⟩:=qJ1 (K:=K) D;refine cut fun N0 hN0=>?_;refine ⟨_,rfl,x,"tuple",ty,_,rfl,tyo,k3,_,rfl,?_⟩;cases c:tupB d with
 | false=>
  refine iteT ?_;refine iteT ?_;have e1:qM3 Ae Ad Aa d=false:=by cases d <;> first | rfl | cases c
  rw [e1] at q;exact q _ (.refl _)
 | true=>
  refine iteF ?_;obtain ⟨m,T,xs,ds,rfl,rfl,rfl,gT,lx,el⟩:=qGU D c;refine ⟨_,rfl,T,_,rfl,.inr (SqT.of gT),rfl,_,rfl,?_⟩;refine ite2 (fun c2=>?_) (fun c2=>?_)
  ·have ne:qN3 (.tuple ds)=false:=decide_eq_false fun e=>by rw [lx,e] at c2;simp at c2
   rw [qJE ne] at q;refine iteT ?_;exact q _ (.refl _)
  ·have l2:ds.length=2:=by
    have:¬ (!decide (V.int ((xs.length:Nat):Int)=V.int 2))=true:=c2;simp at this
    lia
   obtain ⟨d0,d1,rfl⟩:∃ d0 d1,ds=[d0,d1]:=by match ds,l2 with | [u,v],_=>exact ⟨u,v,rfl⟩
   obtain ⟨x0,x1,rfl⟩:∃ x0 x1,xs=[x0,x1]:=by match xs,lx with | [u,v],_=>exact ⟨u,v,rfl⟩
   have D0:=el 0 x0 d0 rfl rfl;have D1:=el 1 x1 d1 rfl rfl;have L0:=(LD true _ rfl).2 d0 C9;have L1:=(LD true _ rfl).2 d1 (D4 _ C9);have qd:qM3 Ae Ad Aa (.tuple [d0,d1])=(qE3 (Ae.length:Int) d0 && (!(qCY (qB9 d0) Ad).isEmpty && nevD (qBQ Ae (qB9 d0)) Aa (qCY (qB9 d0) Ad) d1)):=rfl;rw [qd] at q;refine ⟨_,rfl,T,_,_,_,rfl,rfl,SqT.of gT,rfl,_,rfl,a,_,rfl,.inr (SqT.of hA),?_⟩;rw [A0,lra];refine ⟨x0,m,d0,_,rfl,D0,L0.down,fun H1 s1=>⟨_,rfl,?_⟩⟩;cases cr:qE3 (Ae.length:Int) d0 with
   | false=>
    refine iteT ?_;rw [cr,E2] at q;exact q _ s1
   | true=>
    refine iteF ?_;rw [cr,J5] at q;obtain ⟨tw,ws,rfl,rfl,ew,gw,rW⟩:=qEM D0 cr;rw [ew] at q;have lws:=rW.len;refine hN0 _ _ (cut fun N1 hN1=>?_);refine ⟨_,rfl,T,_,rfl,SqT.of (s1 _ _ gT),rfl,_,_,rfl,_,_,rfl,rfl,?_⟩;refine hN1 _ _ (cut fun N2 hN2=>?_);have gw1:=s1 _ _ gw;have rdw:Rd H tw (.tup (ws.map V.int)):=.inl gw;refine ⟨_,rfl,tw,rfl,⟨_,SqT.of gw1⟩,fun p hp=>?_⟩;refine qOV (p:=p) (a:=tw) (xs:=ws.map V.int) (fun i σ Hc=>∃ (v0 v1:Option V),σ=[v0,v1,some (.ref t)]/\Same H1 Hc/\Hc p=some (.lst ((((qB8 0 ws.length).take i).filter fun p=>decide ((ws[p.toNat]?).getD 0 ∈ Ad)).map V.int))) ?_ ?_ ?_ ?_
    ·exact ⟨none,none,rfl,qA3 hp _,qA1⟩
    ·rintro i σ Hc hi ⟨v0,v1,rfl,sm,_⟩;exact SqT.of (sm _ _ gw1)
    ·refine fun i x σ Hc T2 hx hI_4 hT2=>opq fun G_4 hG_4=>?_;obtain ⟨v0,v1,rfl,sm,hpc⟩:=hI_4;obtain ⟨y,ey,rfl⟩:=qBB hx;refine hG_4 ?_;have hi:=(A5.mp ey).1;have sT:=qA3 hT2 (.tup [.int (i:Int),.int y]);have smT:=sm.trans sT;have hpT:=sT _ _ hpc;have lk:=qBS (p:=fun p=>decide ((ws[p.toNat]?).getD 0 ∈ Ad)) (l:=qB8 0 ws.length) (i:=i);refine ⟨T2,_,rfl,SqT.of qA1,rfl,_,_,rfl,_,_,rfl,rfl,?_⟩;refine ⟨_,rfl,_,rfl,t,_,rfl,.inr (SqT.of (smT _ _ (s1 _ _ hT))),rfl,qBR Ad,_,rfl,?_⟩;rw [qD3,qCD (qFE (by lia))]
     have ez:(ws[((i:Int)).toNat]?).getD 0=y:=by rw [F0,ey];rfl
     rw [ez];by_cases hw:y ∈ Ad
     ·rw [decide_eq_true hw];refine ⟨_,rfl,_,hpT,qAH (by rw [A0];lia),_,_,rfl,qAG smT hp,?_⟩
      rw [qA1,if_pos rfl,B0]
      rfl
     ·rw [decide_eq_false hw];refine ⟨_,_,rfl,smT,?_⟩;simpa using hpT
    refine fun σ H2 hI_5=>opq fun G_5 hG_5=>?_;obtain ⟨v0,v1,rfl,s2,gp⟩:=hI_5;refine hG_5 ?_;rw [A0,qBG (by rw [qDP];lia)] at gp
    have gp:H2 p=some (.lst ((wanF ws Ad).map V.int)):=gp;have wf1:∀ x,x ∈ wanF ws Ad ↔ x ∈ qCY ws Ad:=fun x=>qU2 rW.nodup;have lwf:(wanF ws Ad).length<=12:=by
     have:(wanF ws Ad).length<=(qB8 0 ws.length).length:=a8 _ _;rw [qDP] at this
     lia
    have wie:(wanF ws Ad).isEmpty=(qCY ws Ad).isEmpty:=by
     cases h1:wanF ws Ad with
     | nil=>
      cases h2:qCY ws Ad with
      | nil=>rfl
      | cons y r=>have:=(wf1 y).mpr (by rw [h2];exact C9);rw [h1] at this;cases this
     | cons y r=>
      cases h2:qCY ws Ad with
      | nil=>have:=(wf1 y).mp (by rw [h1];exact C9);rw [h2] at this;cases this
      | cons _ _=>rfl
    rw [<- wie,<- qRU wf1 d1] at q;generalize wanF ws Ad=W at gp lwf q;clear wf1 wie;have S2:=s1.trans s2;refine hN2 _ _ (cut fun N3 hN3=>?_);refine ⟨_,rfl,(by show 0<=sizeLine;decide),fun e3 he3=>?_⟩
    have S3:=S2.trans (qA3 he3 (.lst []));have gp3:=qA3 he3 (.lst []) _ _ gp;have ge3:(Ag H2 e3 (.lst [])) e3=some (.lst []):=qA1;generalize Ag H2 e3 (.lst [])=H3 at S3 gp3 ge3 ⊢;refine ⟨p,e3,_,rfl,rfl,SqL.of gp3,SqL.of ge3,_,rfl,?_⟩;have ef:(W.map V.int).isEmpty=W.isEmpty:=by cases W <;> rfl
    rw [ef];cases cw:W.isEmpty with
    | true=>
     refine iteT ?_;refine iteT ?_;rw [cw,V4,E2] at q;exact q _ S3
    | false=>
     refine iteF ?_;rw [cw,l7,J5] at q;obtain ⟨ty1,tyo1,kl⟩:=qVM (K:=K) (D1.same S3);refine ⟨_,rfl,x1,"list",ty1,_,rfl,tyo1,kl,_,rfl,?_⟩;cases cl:lstB d1 with
     | false=>
      refine iteT ?_;have e1:nevD (qBQ Ae ws) Aa W d1=false:=by cases d1 <;> first | rfl | cases cl
      rw [e1] at q;exact q _ S3
     | true=>
      refine iteF ?_;obtain ⟨m1,l,ys,es,rfl,rfl,rfl,gl,ly,ely⟩:=qT6 D1 cl;have les:=(L1 false es rfl).1;have qe:nevD (qBQ Ae ws) Aa W (.list es)=(es.all (stdD ((qBQ Ae ws).length:Int) Aa) && (decide ([] ∈ es.map qB9) && (qKZ (qBQ Ae ws) Aa (es.map qB9) && !((es.map qB9).any (hasB W))))):=rfl;rw [qe] at q;rw [qC7] at q;refine hN3 _ _ (cut fun N4 hN4=>?_);refine ⟨_,rfl,l,rfl,⟨_,SqL.of (S3 _ _ gl)⟩,qHJ (a:=l) (xs:=ys) (fun i σ Hc=>∃ (v7:Option V),σ=[some (.ref a),some (.ref t),some (.int Aa),some (.ref T),some (.ref tw),some (.ref l),some (.ref p),v7,none,none]/\Same H3 Hc/\(es.take i).all (stdD (ws.length:Int) Aa)=true)
       ⟨none,rfl,.refl _,rfl⟩ (fun i σ Hc _ hP=>by obtain ⟨_,_,sc,_⟩:=hP;exact SqL.of (sc _ _ (S3 _ _ gl))) ?_ ?_⟩
      ·refine fun i x σ Hc hx hI_6=>opq fun G_6 hG_6=>?_;obtain ⟨v7,rfl,sc,ok⟩:=hI_6;refine hG_6 ?_;have hi:=(A5.mp hx).1;have ed:=A3 (show i<es.length by lia)
       have hm:=C3 ed;have Di:=ely i x _ hx ed;have Li:=(L1 false es rfl).2 _ hm;generalize es[i]=di at ed hm Di Li;have Sc:=S3.trans sc;have bad:∀ Hx,Same H Hx->stdD (ws.length:Int) Aa di=false->Q (.bl false) Hx:=fun Hx sx hb=>by
        have e1:es.all (stdD (ws.length:Int) Aa)=false:=F5.mpr fun y=>by rw [F2.mp y di hm] at hb;cases hb
        rw [e1,E2] at q;exact q _ sx
       refine ⟨_,rfl,_,rfl,tw,_,rfl,.inr (SqT.of (Sc _ _ gw)),?_⟩;rw [A0];refine ⟨x,m1,di,_,rfl,Di.same Sc,Li,fun H4 s4=>⟨_,rfl,?_⟩⟩;have S4:=Sc.trans s4;cases cz:qE3 (ws.length:Int) di with
       | false=>
        refine iteT ?_;refine iteT ?_;exact bad _ S4 (by unfold stdD;rw [cz];rfl)
       | true=>
        refine iteF ?_;obtain ⟨r,z,rfl,rfl,ez,gz,rz⟩:=qEM Di cz;refine ⟨_,rfl,r,_,rfl,.inr (SqT.of (S4 _ _ gz)),_,rfl,_,_,rfl,rfl,_,rfl,?_⟩;rw [A0];by_cases cl:(z.length:Int)<=Aa
        ·rw [decide_eq_false (by lia)]
         refine iteF ⟨_,rfl,sc.trans s4,?_⟩;rw [C7,ed,C8,B33,ok,i6];unfold stdD;rw [cz,ez,decide_eq_true cl]
         rfl
        ·rw [decide_eq_true (by lia)]
         refine iteT ?_;exact bad _ S4 (by unfold stdD;rw [cz,ez,decide_eq_false cl];rfl)
      refine fun σ H4 hI_7=>opq fun G_7 hG_7=>?_;obtain ⟨v7,rfl,s4,ok⟩:=hI_7;refine hG_7 ?_;rw [ly,K0] at ok;rw [ok,J5] at q;obtain ⟨rs,rfl,SL,RS⟩:=qHR ly ely ok;have lrs:rs.length=es.length:=by have:=ly;rw [A0] at this;exact this
      have lss:(es.map qB9).length=es.length:=A0 ..;generalize es.map qB9=ss at SL RS q lss;have S4:=S3.trans s4;refine hN4 _ _ (cut fun N5 hN5=>?_);refine ⟨(by show 0<=sizeLine;decide),fun e5 he5=>?_⟩
      have s5:=qA3 he5 (.tup []);have S5:=S4.trans s5;have ge5:(Ag H4 e5 (.tup [])) e5=some (.tup (([]:List Int).map V.int)):=qA1;have gp5:=s5 _ _ (s4 _ _ gp3);generalize Ag H4 e5 (.tup [])=H5 at S5 ge5 gp5 ⊢;refine ⟨_,rfl,e5,l,[],rs,ss,rfl,rfl,ge5,SqL.of (S5 _ _ gl),SL.same S5,_,rfl,?_⟩;by_cases cn:([]:List Int) ∈ ss
      ·rw [decide_eq_false (fun h=>h cn)];rw [decide_eq_true cn,J5] at q;refine iteF ?_;refine hN5 _ _ (cut fun N6 hN6=>?_);refine ⟨_,rfl,l,rfl,⟨_,SqL.of (S5 _ _ gl)⟩,fun pq hpq=>?_⟩;refine qDJ (p:=pq) (a:=l) (xs:=rs.map V.ref) (fun i σ Hc=>∃ (v:Option V) (qs:List Addr) (ps:List (List Key × Addr × V)),σ=[v]/\Same H5 Hc/\Hc pq=some (.lst (qs.map V.ref))/\qOL Hc K qs ps/\ps.map (·.1)=(ss.take i).map keyS) ?_ ?_ ?_ ?_
       ·exact ⟨none,[],[],rfl,qA3 hpq _,qA1,.nil,rfl⟩
       ·rintro i σ Hc hi ⟨v,qs,ps,rfl,sm,_⟩;exact SqL.of (sm _ _ (S5 _ _ gl))
       ·refine fun i x σ Hc hx hI_9=>opq fun G_9 hG_9=>?_;obtain ⟨v,qs,ps,rfl,sm,gq,PT,kp⟩:=hI_9;obtain ⟨r,er,rfl⟩:=qES hx;obtain ⟨z,ez,gz⟩:=qBH SL er;refine hG_9 ?_;have hi:=(A5.mp ez).1;have lq:qs.length<=i:=by
         have h1:=C6 PT;have h2:=congrArg A58 kp;rw [A0,A0,B9] at h2
         lia
        refine ⟨_,rfl,(by show 2<=sizeLine;decide),fun tp htp=>?_⟩
        have sT:=qA3 htp (.tup [.ref r,.bl true]);have gq2:=sT _ _ gq;refine ⟨_,gq2,qBM (by rw [A0];lia),?_⟩
        rw [qBO];have keep:∀ {b:Addr} {xs:List V},(Ag Hc tp (.tup [.ref r,.bl true])) b=some (.tup xs)->(Ag (Ag Hc tp (.tup [.ref r,.bl true])) pq (.lst ((qs++[tp]).map V.ref))) b=some (.tup xs):=fun {b xs} e=>by rw [qAC (qDV e gq2 (fun z=>nomatch z))];exact e
        have Sz:=(S5.trans sm) _ _ gz;refine ⟨_,qs++[tp],ps++[(keyS z,r,.bl true)],rfl,qAG (sm.trans sT) hpq,qA1,Z8 (Paired.mapP PT fun r' q' e=>⟨?_,keep (sT _ _ e.2)⟩) ⟨SqT.of (keep qA1),by rw [qGM];exact keep (sT _ _ Sz)⟩,?_⟩
        ·rcases e.1 with h | h
         ·refine .inl ?_;rcases h with h | ⟨oo,h⟩
          ·exact .inl (keep (sT _ _ h))
          ·exact .inr ⟨oo,by rw [qAC (qDV (sT _ _ h) gq2 (fun z=>nomatch z))];exact sT _ _ h⟩
         ·exact .inr h
        ·rw [B0,kp,C7,ez,C8,B0]
         rfl
       refine fun σ H6 hI_10=>opq fun G_10 hG_10=>?_;obtain ⟨v,qs,ps,rfl,s6,gq,PT,kp⟩:=hI_10;refine hG_10 ?_;rw [A0,lrs,<- lss,K0] at kp;have S6:=S5.trans s6;refine ⟨pq,qs,ps,rfl,SqL.of gq,PT,fun dk hdk=>?_⟩;have s7:=qA3 hdk (.dT (qBN [] ps));have g7:(Ag H6 dk (.dT (qBN [] ps))) dk=some (.dT (qBN [] ps)):=qA1;have S7:=S6.trans s7;have fdk:H dk=none:=S6.free hdk;have gp7:=s7 _ _ (s6 _ _ gp5);have vk:∀ z:List Int,(valV (qBN [] ps) (keyS z)).isSome=true ↔ z ∈ ss:=fun z=>by
        rw [qLT,kp]
        constructor
        ·rintro (h | h)
         ·simp [valV] at h
         ·obtain ⟨y,hy,e⟩:=D7.mp h;rw [<- qHI e];exact hy
        ·exact fun h=>.inr (Y5 h)
       have kk:∀ kv ∈ qBN [] ps,∃ z ∈ ss,kv.1=keyS z:=fun kv hkv=>by
        rcases qOE ps [] kv hkv with h | h
        ·cases h
        ·rw [kp] at h;obtain ⟨z,hz,e⟩:=D7.mp h;exact ⟨z,hz,e.symm⟩
       have kx:∀ z ∈ ss,∃ (i:Nat) (kv:List Key × V),(qBN [] ps)[i]?=some kv/\kv.1=keyS z:=fun z hz=>qVK ((vk z).mpr hz);generalize qBN [] ps=Af at s7 g7 S7 gp7 vk kk kx;generalize Ag H6 dk (.dT Af)=H7 at s7 g7 S7 gp7 ⊢;have ndp:p ≠ dk:=qDV gp7 g7 (by intro z;cases z)
       refine hN6 _ _ (cut fun N7 hN7=>?_);refine ⟨_,rfl,_,rfl,true,a,tw,Ae,ws,rfl,hN.same S7,wf,by lia,rdw.same S7,rW,fun b H8 s8 hB=>?_⟩
       have S8:=S7.trans s8;refine hN7 _ _ (cut fun N8 hN8=>?_);refine ⟨_,rfl,dk,_,rfl,s8 _ _ g7,fun o=>⟨dk,o,_,rfl,qA1,?_⟩⟩;have S9:Same H (Ag H8 dk (.frz o (.dT Af))):=qAG S8 fdk;have g9:(Ag H8 dk (.frz o (.dT Af))) dk=some (.frz o (.dT Af)):=qA1;have gp9:(Ag H8 dk (.frz o (.dT Af))) p=some (.lst (W.map V.int)):=by rw [qAC ndp];exact s8 _ _ gp7
       have hB9:NetAt (Ag H8 dk (.frz o (.dT Af))) b (qBQ Ae ws):=by
        obtain ⟨rb,e1,e2⟩:=hB;have g8:=s8 _ _ g7;exact ⟨rb,by rw [qAC (qDV e1 g8 (fun z=>nomatch z))];exact e1,Paired.mapP e2 fun r z e=>by rw [qAC (qDV e g8 (fun z=>nomatch z))];exact e⟩
       generalize Ag H8 dk (.frz o (.dT Af))=H9 at S9 g9 gp9 hB9 ⊢;have wfp:=qDR wf rW;have lp:(qBQ Ae ws).length=ws.length:=qC7 Ae ws;rw [<- lp] at RS;refine qJI (a:=dk) (o:=o) (Af:=Af) (fun i σ He=>∃ (v7:Option V),σ=[some (.ref a),some (.ref t),some (.int Aa),some (.ref T),some (.ref tw),some (.ref l),some (.ref p),v7,some (.ref dk),some (.ref b)]/\Same H9 He/\∀ (j:Nat) (kv:List Key × V) (z:List Int),j<i->Af[j]?=some kv->kv.1=keyS z->z ∈ ss->hasB W z=false/\((qD5 (qBQ Ae ws) z Aa).all fun m=>decide (behL z m ∈ ss))=true)
        ⟨_,rfl,.refl _,fun j _ _ h=>absurd h (O0 _)⟩ (fun i σ He _ ⟨_,_,z,_⟩=>z _ _ g9) ?_ ?_
       ·refine fun i k v r σ He hkv gr hI_11=>opq fun G_11 hG_11=>?_;obtain ⟨v7,rfl,se,okk⟩:=hI_11;obtain ⟨z,hz,e⟩:=kk _ (C3 hkv);refine hG_11 ?_;have e:k=keyS z:=e;subst e;rw [qGM] at gr;have rz:=(RS z hz).1;have lz:=rz.len;refine ⟨_,rfl,p,rfl,⟨_,SqL.of (se _ _ gp9)⟩,fun pa hpa=>?_⟩;refine qDJ (p:=pa) (a:=p) (xs:=W.map V.int) (fun j σ Hf=>∃ (v:Option V),σ=[v,some (.ref r)]/\Same He Hf/\Hf pa=some (.lst (((W.take j).map fun x=>decide (x ∈ z)).map V.bl))) ?_ ?_ ?_ ?_
        ·exact ⟨none,rfl,qA3 hpa _,qA1⟩
        ·rintro j σ Hf hj ⟨v,rfl,sf,_⟩;exact SqL.of (sf _ _ (se _ _ gp9))
        ·refine fun j x σ Hf hx hI_13=>opq fun G_13 hG_13=>?_;obtain ⟨v,rfl,sf,hpf⟩:=hI_13;obtain ⟨y,ey,rfl⟩:=qBB hx;refine hG_13 ?_;have hj:=(A5.mp ey).1;refine ⟨_,rfl,_,rfl,r,_,rfl,.inr (SqT.of (sf _ _ gr)),rfl,qBR z,_,hpf,qBM (by rw [A0,A0,B9];lia),_,rfl,qAG sf hpa,?_⟩
         rw [qA1,C7,ey,C8,B0,B0,qD3]
         rfl
        refine fun σ Hf hI_14=>opq fun G_14 hG_14=>?_;obtain ⟨v,rfl,sf,hpf⟩:=hI_14;refine hG_14 ?_;rw [A0,K0] at hpf;refine ⟨pa,_,rfl,SqL.of hpf,?_⟩;have al:((W.map fun x=>decide (x ∈ z)).all id)=hasB W z:=by
         rw [B07,O7];show _ ↔ decide (∀ x ∈ W,x ∈ z)=true;rw [F2,decide_eq_true_eq];exact ⟨fun h x hx=>of_decide_eq_true (h x hx),fun h x hx=>decide_eq_true (h x hx)⟩
        rw [al];have sef:=se.trans sf;cases ch:hasB W z with
        | true=>
         refine ⟨_,rfl,?_⟩;refine iteT ?_;refine iteT ?_;have e1:ss.any (hasB W)=true:=d9.mpr ⟨z,hz,ch⟩;rw [e1,V4,Q1] at q;exact q _ (S9.trans sef)
        | false=>
         refine ⟨_,rfl,?_⟩;refine iteF ?_;refine ⟨_,rfl,_,rfl,_,rfl,_,rfl,b,r,dk,o,qBQ Ae ws,Aa,z,ss,Af,rfl,hB9.same sef,wfp,by lia,sf _ _ gr,rz,sef _ _ g9,vk,fun Hg sg=>⟨_,rfl,?_⟩⟩
         cases cd:((qD5 (qBQ Ae ws) z Aa).all fun m=>decide (behL z m ∈ ss)) with
         | false=>
          refine iteT ?_;have e1:qKZ (qBQ Ae ws) Aa ss=false:=F5.mpr fun h=>by
           have:=F2.mp h z hz;rw [cd] at this;cases this
          rw [e1,E2] at q;exact q _ (S9.trans (sef.trans sg))
         | true=>
          refine iteF ⟨_,rfl,sef.trans sg,fun j kv y hj hkj ek hy=>?_⟩;rcases B04 j i with h | h
          ·exact okk j kv y h hkj ek hy
          ·have ej:j=i:=by lia
           subst ej;rw [hkv] at hkj;cases hkj;have ez:=qHI ek;rw [<- ez];exact ⟨ch,cd⟩
       ·refine fun σ He hI_15=>opq fun G_15 hG_15=>?_;obtain ⟨v7,rfl,se,okk⟩:=hI_15;refine hG_15 ?_;refine hN8 _ _ ?_;have all:∀ z ∈ ss,hasB W z=false/\((qD5 (qBQ Ae ws) z Aa).all fun m=>decide (behL z m ∈ ss))=true:=fun z hz=>by
         obtain ⟨j,kv,h1,h2⟩:=kx z hz;exact okk j kv z (A5.mp h1).1 h1 h2 hz
        have e1:qKZ (qBQ Ae ws) Aa ss=true:=F2.mpr fun z hz=>(all z hz).2;have e2:ss.any (hasB W)=false:=A85.mpr fun z hz=>by rw [(all z hz).1];exact C1
        rw [e1,e2] at q;exact q _ (S9.trans se)
      ·rw [decide_eq_true cn];rw [decide_eq_false cn,E2] at q;refine iteT ?_;exact q _ S5
theorem qOY {α β:Type} {F:α->β->Prop} {a:α} {b:β} (f:F a b):∀ (n:Nat) {l₁:List α} {l₂:List β},Paired F l₁ l₂->Paired F (l₁.take n++a::l₁.drop n) (l₂.take n++b::l₂.drop n)
 | 0,_,_,h=>.cons f h
 | _+1,_,_,.nil=>.cons f .nil
 | n+1,_,_,.cons r h=>.cons r (qOY f n h)
theorem qPC {α β:Type} {F:α->β->Prop}:∀ {l₁ m₁:List α} {l₂ m₂:List β},Paired F l₁ l₂->Paired F m₁ m₂->Paired F (l₁++m₁) (l₂++m₂)
 | _,_,_,_,.nil,k=>k
 | _,_,_,_,.cons r h,k=>.cons r (qPC h k)
theorem qLC {α β:Type} {F:α->β->Prop}:∀ (n:Nat) {l₁:List α} {l₂:List β},Paired F l₁ l₂->Paired F (l₁.take n) (l₂.take n)
 | 0,_,_,_=>.nil
 | _+1,_,_,.nil=>.nil
 | n+1,_,_,.cons r h=>.cons r (qLC n h)
theorem sc_Lown_paper:FnScope ["_law_state","_law_net_here","_law_asked_here","_law_rooms","_law_works","_law_way","_law_stands","_law_bits_here","_law_stand"] ["_law_state","_law_net_here","_law_asked_here","_law_rooms"] (qAE qDB):=qBP
theorem ok_Lown_paper (F:Fun K "_law_own_paper" "_law_own_paper" qDB f fd) (qAT:Clb P w K mg base 1 qDL qDE "_law_take" ["_law_state","_law_many"] qFP) (qGD:Clb P w K mg base 1 qG8 qJJ "_law_needed" ["_law_net_here","_law_asked_here"] qJZ) (qL6:Clb P w K mg base 1 qKQ qP2 "_law_come" ["_law_net_here","_law_rooms"] qR0) (qGW:Clb P w K mg base 1 qIF qKM "_law_part" ["_law_net_here","_law_works"] qJY) (qAZ:mg "len" = none) (qAK:mg "tuple" = none) (qAR:mg "range" = none):FnOk P w K mg base CX0 2 f fd ["_law_state","_law_net_here","_law_asked_here","_law_rooms"] qVP:=by
 refine F.okA sc_Lown_paper fun cdv A outer s H vs Q E hr h=>?_;obtain ⟨d,c,t,ns,a,tk,Ae,Ad,Aa,rfl,S0,ht,hN,wf,l1,l6,⟨hT,rA⟩,q⟩:=h;have ht':t<=1000000000 - 1000:=ht;refine ⟨_,(qA4 (qAJ (i:=4) sc_Lown_paper.nd rfl (E8 rfl) (qAD qAF rfl qAK qAP (qA0 (qAS qGD hr rfl (qA0 (pv 1) (qA0 (pv 2) qA2))) qA2))) (qA4 (qAJ (i:=5) sc_Lown_paper.nd rfl (E8 rfl) (qAS qAT hr rfl (qA0 (pv 0) (qA0 qA8 qA2)))) (qA4 (qBI (qAL qG1 (pv 5) qA8 (qAQ _)) (qA6 (qAJ (i:=4) sc_Lown_paper.nd rfl (E8 rfl) (qAD (qFC rfl) rfl qAK qAP (qA0 (qAD qTF rfl qAR qPB (qA0 (qA9 qAA rfl qAZ qAY (qA0 (pv 1) qA2)) qA2)) qA2)))) qAO) (qA4 (qBI (qAL qG1 (pv 5) qA8 (qAQ _)) (qA6 (qAJ (i:=4) sc_Lown_paper.nd rfl (E8 rfl) (qAD qAF rfl qAK qAP (qA0 (qC6 rfl (lcs (own:=["_law_work"]) (fv:=[0]) (by kernel_rfl)) (qB0 rfl qAR (qA0 (qA9 qAA rfl qAZ qAY (qA0 (pv 1) qA2)) qA2)) (fun z1=>qBF 0) (fun z1=>(qCB (qAL qRR (qAS qAT hr rfl (qA0 (pv 1) (qA0 qA8 qA2))) qA8 (qAQ _)))) (fun z1=>(pv 0))) qA2)))) qAO) (qA4 (qAJ (i:=6) sc_Lown_paper.nd rfl (E8 rfl) (qB4 qA2)) (qA4 (qBY E1 rfl (qOJ (qAS qL6 hr rfl (qA0 (qAS qGW hr rfl (qA0 (pv 1) (qA0 (pv 4) qA2))) (qA0 (pv 3) qA2)))) (qAW (i:=7) sc_Lown_paper.nd rfl (o6 rfl)) (qA4 (qAJ (i:=8) sc_Lown_paper.nd rfl (E8 rfl) (qAD qAF rfl qAK qAP (qA0 (qC6 rfl (lcs (own:=["_law_place"]) (fv:=[7]) (by kernel_rfl)) (qB0 rfl qAR (qA0 (qA9 qAA rfl qAZ qAY (qA0 (pv 4) qA2)) qA2)) (fun z2=>qBF 0) (fun z2=>(qCB (qAL qG1 (qAM qM2 (qAM qRO (pv 1) (pv 0)) qA8) qA8 (qAQ _)))) (fun z2=>(pv 0))) qA2))) (qA6 (qGJ (qPY P4 PySem.F.slot_list_insert PySem.F.type_list_insert qRX (pv 6) (qA0 (qAS qAT hr rfl (qA0 (pv 0) (qA0 (qAM qD2 (qA9 qAA rfl qAZ qAY (qA0 (pv 6) qA2)) qA8) qA2))) (qA0 (pv 8) qA2))))))) (qA6 (qAI (qAV (qA0 (pv 4) (qA0 (qAM qEI (pv 6) (qCR qGG (pv 6) qE5 (qCZ (qAS qAT hr rfl (qA0 (pv 0) (qA0 qA8 qA2)))))) qA2))))))))))),?_⟩
 try dsimp only [Cx.nox,Cx.wish,cxOf]
 refine cut fun N0 hN0=>?_;refine ⟨_,rfl,_,rfl,a,tk,Ae,Ad,rfl,hN,wf,by lia,⟨hT,rA⟩,fun l zs H1 s1 fl gl N=>?_⟩
 refine ⟨l,_,rfl,.inl ⟨SqL.of gl,fun r hr=>?_⟩⟩;have s2:=s1.trans (qA3 hr (.tup (zs.map V.int)));have gr:(Ag H1 r (.tup (zs.map V.int))) r=some (.tup (zs.map V.int)):=qA1;generalize Ag H1 r (.tup (zs.map V.int))=H2 at s2 gr ⊢;have S2:=S0.same s2;refine hN0 _ _ (cut fun N1 hN1=>?_);refine ⟨_,rfl,d,c,t,ns,4,rfl,S2,(by show t<=1000000000;lia),by decide,by decide,fun way ns1 H3 w0 w1 S3 K3=>?_⟩
 have gr3:=K3 _ _ gr (S2.tup gr).1 (S2.tup gr).2;have K03:=(Keep.of_same (d:=d) (c:=c) s2).trans K3;refine hN1 _ _ (cut fun N2 hN2=>?_)
 -- behind the first if
 have r2:∀ (r:Addr) (ws:List Int) (t':Int) (ns':List Int) (Hx:Hp),StAt Hx d c t' ns'->t<=t'->t'<=t+1->Keep d c H Hx->Hx r=some (.tup (ws.map V.int))->Rise (Ae.length:Int) ws->N2 [some (.ref d),some (.ref a),some (.ref tk),some (.int Aa),some (.ref r),some (.int way),none,none,none] Hx:=by
  intro r ws t' ns' Hx Sx tx1 tx2 Kx gx rW;have hNx:=hN.keep S0 Kx;obtain ⟨ra,hA,NL⟩:=id hNx;have lra:=C6 NL;refine hN2 _ _ (cut fun N3 hN3=>?_)
  -- behind the second if
  have r3:∀ (r:Addr) (ws:List Int) (t':Int) (ns':List Int) (Hx:Hp),StAt Hx d c t' ns'->t<=t'->t'<=t+10->Keep d c H Hx->Hx r=some (.tup (ws.map V.int))->Rise (Ae.length:Int) ws->N3 [some (.ref d),some (.ref a),some (.ref tk),some (.int Aa),some (.ref r),some (.int way),none,none,none] Hx:=by
   intro r ws t' ns' Hx Sx tx1 tx2 Kx gx rW;have hNx:=hN.keep S0 Kx;have lw:=rW.len;refine hN3 _ _ (cut fun N4 hN4=>?_);refine ⟨(by show 0<=sizeLine;decide),fun ls hls=>?_⟩
   have Sy:=Sx.new hls (.lst []);have sy:=qA3 hls (.lst []);have gls:(Ag Hx ls (.lst [])) ls=some (.lst []):=qA1;have nld:ls ≠ d:=(qA7 Sx.dict hls).symm;have nlc:ls ≠ c:=(qA7 Sx.list hls).symm;generalize Ag Hx ls (.lst [])=Hy at Sy sy gls ⊢;refine hN4 _ _ (cut fun N5 hN5=>?_);refine ⟨_,rfl,_,rfl,true,a,r,Ae,ws,rfl,hNx.same sy,wf,by lia,.inl (sy _ _ gx),rW,fun b H3 s3 hP=>?_⟩
   have lp:(qBQ Ae ws).length<=6:=by rw [qC7];lia
   refine ⟨_,rfl,b,qBQ Ae ws,Aa,rfl,hP,qDR wf rW,by lia,fun dk o ks g H4 s4 fd4 gd C=>?_⟩
   have s34:=s3.trans s4;have Sz:=Sy.same s34;have kl:ks.length<=2 ^ (qBQ Ae ws).length:=qEZ C.nd fun b hb=>(C.snd b hb).1.lt;have k2:2 ^ (qBQ Ae ws).length<=2 ^ 6:=W5 (by decide) lp
   have k64:ks.length<=64:=by lia
   have gls4:=s34 _ _ gls;have gx4:=s34 _ _ (sy _ _ gx);have ndk:dk ≠ d/\dk ≠ c:=qAX (Sy.same s3) fd4;have K4:=(Kx.trans (Keep.of_same sy)).trans (Keep.of_same (d:=d) (c:=c) s34);have fls:H ls=none:=by
    cases e:H ls with
    | none=>rfl
    | some o=>rw [Kx _ _ e nld nlc] at hls;cases hls
   have nld':dk ≠ ls:=qDV gd gls4 (fun z=>nomatch z);have nrl:r ≠ ls:=qDV gx4 gls4 (fun z=>nomatch z);refine ⟨dk,o,kvN ks g,rfl,gd,qSO (a:=dk) (o:=o) (Af:=kvN ks g) (fun i σ Hc=>∃ (t2:Int) (ms:List Int) (rs:List Addr) (ss:List (List Int)) (v7 v8:Option V),σ=[some (.ref d),some (.ref a),some (.ref tk),some (.int Aa),some (.ref r),some (.int way),some (.ref ls),v7,v8]/\StAt Hc d c t2 ms/\t'<=t2/\t2<=t'+i/\Keep d c H Hc/\Hc dk=some (.frz o (.dK (kvN ks g)))/\Hc r=some (.tup (ws.map V.int))/\Hc ls=some (.lst (rs.map V.ref))/\StL Hc rs ss/\ss.length=i/\∀ s ∈ ss,s.length<=6/\∀ x ∈ s,0<=x/\x<=6)
    ⟨t',ns',[],[],none,none,rfl,Sz,by lia,by lia,K4,gd,gx4,gls4,.nil,rfl,fun s h=>nomatch h⟩ (fun i σ Hc _ ⟨_,_,_,_,_,_,_,_,_,_,_,z,_⟩=>z) ?_ ?_⟩
   ·refine fun i k v σ Hc hk hI_1=>opq fun G_1 hG_1=>?_;obtain ⟨t2,ms,rs,ss,v7,v8,rfl,Sc,b1,b2,Kc,gdk,gr,gl,SL,lss,sb⟩:=hI_1;refine hG_1 ?_;unfold kvN at hk;rw [B5] at hk;have ex:∃ x,ks[i]?=some x/\k=F9 (x:Int):=by
     cases e:ks[i]? with
     | none=>rw [e] at hk;cases hk
     | some x=>rw [e] at hk;cases hk;exact ⟨x,rfl,rfl⟩
    obtain ⟨x,e,rfl⟩:=ex;have hi:=(A5.mp e).1;have lrs:rs.length=ss.length:=C6 SL;refine cut fun M0 hM0=>?_;refine ⟨_,rfl,r,_,rfl,.inr (SqT.of gr),?_⟩;rw [A0];refine ⟨_,rfl,by lia,by lia,fun p hp=>?_⟩
    refine qCI (p:=p) (lo:=0) (n:=((ws.length:Int)).toNat) (fun j σ Hd=>∃ (v:Option V) (zs:List Int),σ=[v,some (.int (x:Int))]/\Same Hc Hd/\Hd p=some (.lst (zs.map V.int))/\zs.length<=j/\∀ y ∈ zs,0<=y/\y<=6) ?_ ?_ ?_
    ·exact ⟨none,[],rfl,qA3 hp _,qA1,A6 _,fun y h=>nomatch h⟩
    ·refine fun j σ Hd hj hI_2=>opq fun G_2 hG_2=>?_;obtain ⟨v,zs,rfl,sm,gp,lz,zb⟩:=hI_2;refine hG_2 ?_;have e0:(0:Int)+(j:Int)=(j:Int):=by lia
     refine ⟨_,rfl,_,rfl,_,_,rfl,rfl,(by show (0:Int)<=0+(j:Int);lia),_,_,rfl,rfl,rfl,_,rfl,?_⟩
     dsimp only;generalize (decide (V.int (R0 ((x:Int) / 2 ^ (0+(j:Int)).toNat) 1)=V.int 1))=bb;cases bb with
     | true=>
      refine iteT ⟨_,rfl,_,gp,qBM (by rw [A0];lia),_,zs++[(j:Int)],rfl,qAG sm hp,by rw [qA1,B0,e0];rfl,by rw [A7];exact A19 lz,fun y hy=>?_⟩
      rcases B1.mp hy with h | h
      ·exact zb y h
      ·rw [A8.mp h];lia
     | false=>exact iteF ⟨_,zs,rfl,sm,gp,by lia,zb⟩
    ·refine fun σ Hd hI_3=>opq fun G_3 hG_3=>?_;obtain ⟨v,zs,rfl,sm,gp,lz,zb⟩:=hI_3;refine hG_3 ?_;refine ⟨p,_,rfl,.inl ⟨SqL.of gp,fun tp htp=>?_⟩⟩;have f:=sm.trans (qA3 htp (.tup (zs.map V.int)));have gt:(Ag Hd tp (.tup (zs.map V.int))) tp=some (.tup (zs.map V.int)):=qA1;generalize Ag Hd tp (.tup (zs.map V.int))=He at f gt ⊢;have Se:=Sc.same f;refine hM0 _ _ ?_;refine ⟨_,rfl,.inl ⟨rfl,_,SqL.of (f _ _ gl)⟩,_,rfl,_,rfl,ls,_,rfl,.inl (SqL.of (f _ _ gl)),_,_,rfl,rfl,d,c,t2,ms,_,rfl,Se,(by show t2<=1000000000;lia),by rw [A0];lia,by rw [A0];lia,fun kk ms3 H5 k0 k1 S5 K5=>?_⟩
     rw [A0] at k1;have gl5:=K5 _ _ (f _ _ gl) nld nlc;have gt5:=K5 _ _ gt (Se.tup gt).1 (Se.tup gt).2;have SL5:StL H5 rs ss:=Paired.mapP SL fun r s e=>K5 _ _ (f _ _ e) (Se.tup (f _ _ e)).1 (Se.tup (f _ _ e)).2;refine ⟨_,rfl,ls,_,kk,_,rfl,rfl,gl5,k0,by rw [A0];lia,by rw [A0];lia,?_⟩
     have eR:(rs.map V.ref).take kk.toNat++V.ref tp::(rs.map V.ref).drop kk.toNat=(rs.take kk.toNat++tp::rs.drop kk.toNat).map V.ref:=by rw [B0,E5,A82,B49]
     rw [eR];have lz6:zs.length<=6:=by lia
     refine ⟨t2+1,ms3,rs.take kk.toNat++tp::rs.drop kk.toNat,ss.take kk.toNat++zs::ss.drop kk.toNat,_,_,rfl,⟨by rw [qAC nld.symm];exact S5.dict,by rw [qAC nlc.symm];exact S5.list,S5.ne,S5.len,S5.pos⟩,by lia,by lia,fun b o e n1 n2=>by rw [qAC (qA7 e fls)];exact ((Kc.trans (Keep.of_same f)).trans K5) b o e n1 n2,by rw [qAC nld'];exact K5 _ _ (f _ _ gdk) ndk.1 ndk.2,by rw [qAC nrl];exact K5 _ _ (f _ _ gr) (Se.tup (f _ _ gr)).1 (Se.tup (f _ _ gr)).2,qA1,StL.put (qOY (F:=fun (r:Addr) (s:List Int)=>H5 r=some (.tup (s.map V.int))) gt5 kk.toNat SL5) gl5 (fun xs z=>nomatch z),?_,fun s hs=>?_⟩
     ·rw [A7,D5,B9,F1]
      lia
     ·rcases B1.mp hs with h | h
      ·exact sb s (W3 h)
      ·rcases B6.mp h with h | h
       ·rw [h];exact ⟨lz6,zb⟩
       ·exact sb s (Q8 h)
   ·refine fun σ Hc hI_4=>opq fun G_4 hG_4=>?_;obtain ⟨t2,ms,rs,ss,v7,v8,rfl,Sc,b1,b2,Kc,gdk,gr,gl,SL,lss,sb⟩:=hI_4;refine hG_4 ?_;refine hN5 _ _ ?_;rw [qKG] at b2 lss;have lrs:rs.length=ss.length:=C6 SL;refine ⟨_,rfl,_,rfl,_,rfl,_,rfl,d,c,t2,ms,3,rfl,Sc,(by show t2<=1000000000;lia),by decide,by decide,fun kk ms3 H5 k0 k1 S5 K5=>⟨_,rfl,ls,_,rfl,SqL.of (K5 _ _ gl nld nlc),fun p1 hp1=>?_⟩⟩
    have gl5:=K5 _ _ gl nld nlc;have gr5:=K5 _ _ gr (Sc.tup gr).1 (Sc.tup gr).2;have SL5:StL H5 rs ss:=Paired.mapP SL fun r s e=>K5 _ _ e (Sc.tup e).1 (Sc.tup e).2;have ec:cutV (rs.map V.ref) none (some kk)=(rs.take kk.toNat).map V.ref:=by
     have e:=qP6 (rs.map V.ref) kk.toNat;rw [show ((kk.toNat:Nat):Int)=kk by lia] at e
     rw [e,A82]
    rw [ec];have f1:=qA3 hp1 (.lst ((rs.take kk.toNat).map V.ref));refine ⟨ls,p1,_,_,rfl,rfl,f1 _ _ gl5,qA1,by rw [sizeLine_eq,A0,A0,B9];lia,fun p2 hp2=>?_⟩
    have f2:=f1.trans (qA3 hp2 (.lst (rs.map V.ref++(rs.take kk.toNat).map V.ref)));have n2:=qAX (S5.same f1) hp2;refine ⟨(by show 2<=sizeLine;decide),fun T hT0=>?_⟩
    have f3:=f2.trans (qA3 hT0 (.tup [.ref r,.ref p2]));have g2:=qA3 hT0 (.tup [.ref r,.ref p2]) _ _ (show (Ag (Ag H5 p1 (.lst ((rs.take kk.toNat).map V.ref))) p2 (.lst (rs.map V.ref++(rs.take kk.toNat).map V.ref))) p2=some (.lst ((rs++rs.take kk.toNat).map V.ref)) by rw [qA1,B0])
    refine q T r p2 ws (rs++rs.take kk.toNat) (ss++ss.take kk.toNat) _ ms3 _ (S5.same f3) (by lia) (by lia) ((Kc.trans K5).trans (.of_same f3)) qA1 (f3 _ _ gr5) g2 n2.1 n2.2 (StL.same (qPC SL5 (qLC kk.toNat SL5)) f3) (by lia) (fun x hx=>by have:=rW.in_ x hx;lia) ?_ fun s hs=>?_
    ·rw [A7,B9]
     lia
    ·rcases B1.mp hs with h | h
     ·exact sb s h
     ·exact sb s (W3 h)
  refine ⟨_,rfl,rfl,_,rfl,?_⟩;refine ite2 (fun c1=>?_) (fun c1=>?_)
  ·refine ⟨_,rfl,a,_,rfl,.inr (SqT.of hA),?_⟩;rw [A0,lra];refine ⟨_,rfl,by lia,by lia,fun p hp=>?_⟩
   have npd:=qAX Sx hp;refine qCI (p:=p) (lo:=0) (n:=((Ae.length:Int)).toNat) (fun i σ Hc=>∃ (v:Option V) (k':Int) (ms':List Int) (zs:List Int),σ=[v,some (.ref d)]/\StAt Hc d c k' ms'/\t'<=k'/\k'<=t'+i/\Keep d c Hx Hc/\Hc p=some (.lst (zs.map V.int))/\Rise (i:Int) zs) ?_ ?_ ?_
   ·exact ⟨none,t',ns',[],rfl,Sx.new hp _,by lia,by lia,qCS hp _,qA1,⟨.nil,fun _ z=>nomatch z⟩⟩
   ·refine fun i σ Hc hi hI_5=>opq fun G_5 hG_5=>?_;obtain ⟨v,k',ms',zs,rfl,S3,b1,b2,K3,gp,rz⟩:=hI_5;refine hG_5 ?_;have lz:=rz.len;refine ⟨_,rfl,d,c,k',ms',3,rfl,S3,(by show k'<=1000000000;lia),by decide,by decide,fun y ms2 H2 y0 y3 S4 K4=>⟨_,_,rfl,rfl,_,rfl,?_⟩⟩
    have gp4:=K4 _ _ gp npd.1 npd.2;have st:∀ o,StAt (Ag H2 p o) d c (k'+1) ms2:=fun o=>⟨by rw [qAC npd.1.symm];exact S4.dict,by rw [qAC npd.2.symm];exact S4.list,S4.ne,S4.len,S4.pos⟩
    have e0:(0:Int)+(i:Int)=(i:Int):=by lia
    by_cases hy:0<y
    ·rw [decide_eq_true hy];refine iteT ⟨_,rfl,_,gp4,qBM (by rw [A0];lia),?_⟩
     refine ⟨_,_,ms2,zs++[(i:Int)],rfl,st _,by lia,by lia,qKH (K3.trans K4) hp,by rw [qA1,B0,e0];rfl,⟨c5.mpr ⟨rz.up,A14 _ _,fun x hx y hy=>by rw [A8.mp hy];exact (rz.in_ x hx).2⟩,fun x hx=>?_⟩⟩
     rcases B1.mp hx with h | h
     ·have:=rz.in_ x h;lia
     ·rw [A8.mp h];lia
    ·rw [decide_eq_false hy];exact iteF ⟨_,_,ms2,zs,rfl,S4,by lia,by lia,K3.trans K4,gp4,⟨rz.up,fun x hx=>by have:=rz.in_ x hx;lia⟩⟩
   ·refine fun σ Hc hI_6=>opq fun G_6 hG_6=>?_;obtain ⟨v,k',ms',zs,rfl,S3,b1,b2,K3,gp,rz⟩:=hI_6;refine hG_6 ?_;refine ⟨p,_,rfl,.inl ⟨SqL.of gp,fun r2 hr2=>?_⟩⟩;have f:=qA3 hr2 (.tup (zs.map V.int));refine r3 r2 zs _ ms' _ (S3.same f) (by lia) (by lia) (Kx.trans (K3.trans (.of_same f))) qA1 ⟨rz.up,fun x hx=>?_⟩
    have:=rz.in_ x hx
    lia
  ·exact r3 r ws t' ns' Hx Sx tx1 (by lia) Kx gx rW
 obtain ⟨ra,hA,NL⟩:=id (hN.keep S0 K03);have lra:=C6 NL;refine ⟨_,rfl,rfl,_,rfl,?_⟩;refine ite2 (fun c0=>?_) (fun c0=>?_)
 ·refine ⟨_,rfl,a,_,rfl,.inr (SqT.of hA),?_⟩;rw [A0,lra];refine ⟨_,rfl,fun p hp=>?_⟩;have f1:=qA3 hp (.rng 0 (Ae.length:Int));refine ⟨p,_,_,rfl,qA1,by lia,by lia,by lia,by lia,fun r hr=>?_⟩
  have f2:=f1.trans (qA3 hr (.tup (qFW 0 (Ae.length:Int))));exact r2 r (qB8 0 (Ae.length:Int)) _ ns1 _ (S3.same f2) (by lia) (by lia) (K03.trans (.of_same f2)) (by rw [qA1,qHU]) (qHV (by lia))
 ·exact r2 r zs _ ns1 _ S3 (by lia) (by lia) K03 gr3 N.1
theorem sc_Lbent_stand:FnScope ["_law_state","_law_stand","_law_many","_law_more","_law_some"] ["_law_state","_law_stand","_law_many"] (qAE qCQ):=qBP
theorem ok_Lbent_stand (F:Fun K "_law_bent_stand" "_law_bent_stand" qCQ f fd) (qAT:Clb P w K mg base 1 qDL qDE "_law_take" ["_law_state","_law_many"] qFP) (qAZ:mg "len" = none) (qEK:mg "list" = none) (qAK:mg "tuple" = none) (qBT:mg "sorted" = none):FnOk P w K mg base CX0 2 f fd ["_law_state","_law_stand","_law_many"] qO6:=by
 refine F.okA sc_Lbent_stand fun cdv A outer s H vs Q E hr h=>?_;obtain ⟨d,c,t,ns,r,st,m,rfl,S,ht,gr0,ls6,sb,m0,m6,q⟩:=h;have ht':t<=1000000000 - 500:=ht;have hu0:=hr.units0;refine ⟨_,(qA4 (qAJ (i:=3) sc_Lbent_stand.nd rfl (E8 rfl) (qAS qAT hr rfl (qA0 (pv 0) (qA0 (qAM qD2 (pv 2) qA8) qA2)))) (qA4 (qAJ (i:=4) sc_Lbent_stand.nd rfl (E8 rfl) (qB4 (qA0 (qAM qE7 (pv 1) (qAV (qA0 (pv 3) qA2))) (qA0 (qCR qR6 (pv 1) (qCZ qA8) qE5) (qA0 (qJ9 (pv 1) (qCZ (qKE qFO qA8))) (qA0 (qAD qDF rfl qEK qGV (qA0 (pv 1) qA2)) (qA0 (qAM qE7 (pv 1) (qAV (qA0 qC9 qA2))) (qA0 (qAM qE7 (pv 1) (qAV (qA0 qFY qA2))) (qA0 (qAM qE7 (pv 1) (qAV (qA0 qBJ qA2))) qA2))))))))) (qA4 (qAJ (i:=4) sc_Lbent_stand.nd rfl (E8 rfl) (qAM qEI (pv 4) (qB4 (qA0 (qAM qE7 (qAV (qA0 (qKE qFO qA8) qA2)) (pv 1)) (qA0 (qAM qE7 (pv 1) (qAV (qA0 (pv 2) qA2))) (qA0 qFY (qA0 qA8 (qA0 qBJ (qA0 (qAV (qA0 (pv 1) qA2)) (qA0 (qAD qAF rfl qAK qAP (qA0 (qA9 (qCE rfl) rfl qBT qD6 (qA0 (qAM qE7 (pv 1) (qAV (qA0 (pv 3) qA2))) qA2)) qA2)) qA2)))))))))) (qA6 (qAI (qBL qC1 (pv 4) (qAS qAT hr rfl (qA0 (pv 0) (qA0 (qA9 qAA rfl qAZ qAY (qA0 (pv 4) qA2)) qA2))) (fun _ _=>rfl))))))),?_⟩
 try dsimp only [Cx.nox,Cx.wish,cxOf]
 refine cut fun N0 hN0=>?_;refine ⟨_,rfl,_,rfl,_,_,rfl,rfl,d,c,t,ns,_,rfl,S,(by show t<=1000000000;lia),by lia,by lia,fun k ns1 H1 k0 k1 S1 K1=>?_⟩
 have gr:=K1 _ _ gr0 (S.tup gr0).1 (S.tup gr0).2;have k6:k<=6:=by lia
 have nw:∀ {Hx:Hp} {p:Addr},Same H1 Hx->Hx p=none->p ≠ d/\p ≠ c:=fun {Hx p} s h=>qAX (S1.same s) h;obtain ⟨X,eX⟩:∃ X,X=st.map V.int:=⟨_,rfl⟩;have lX:X.length<=6:=by rw [eX,A0];exact ls6
 have aI:∀ {R:Hp} {n:Nat} {i:Int},-1<=i/\i<=6->AnyM R n 100 (.int i):=fun {R n i} h=>(AnyM.int (by lia)).mono (by decide)
 have aX:∀ {R:Hp},∀ x ∈ X,AnyM R 0 100 x:=fun {R} x hx=>by
  rw [eX] at hx;obtain ⟨z,hz,rfl⟩:=D7.mp hx;have:=sb z hz;exact aI (by lia)
 -- a tuple or a list of short ones
 have tupA:∀ {G:Hp} {p:Addr} {xs:List V},Same H1 G->G p=some (.tup xs)->xs.length<=8->(∀ x ∈ xs,AnyM (red d c G) 0 100 x)->AnyM (red d c G) 1 808 (.ref p):=fun {G p xs} s g l a=>AnyM.seq (b:=true) (n:=0) (W:=100) (L:=8) (qEH ((S1.same s).tup g) g) l (by decide) a
 have sz:∀ {n:Nat},n<=400->n<=sizeLine:=fun h=>by rw [sizeLine_eq];lia
 have U0:Same H1 H1:=.refl _;have up:∀ {G:Hp} {x:V},AnyM (red d c G) 1 808 x->AnyM (red d c G) 2 1000 x:=fun h=>h.up.mono (by decide)
 have two:∀ {R:Hp} {xs ys:List V},(∀ x ∈ xs,AnyM R 0 100 x)->(∀ x ∈ ys,AnyM R 0 100 x)->∀ x ∈ xs++ys,AnyM R 0 100 x:=fun h k x hx=>(B1.mp hx).elim (h x) (k x);have one:∀ {R:Hp} {y:V},AnyM R 0 100 y->∀ x ∈ [y],AnyM R 0 100 x:=fun h x hx=>by rw [A8.mp hx];exact h
 have s0:AnyM (red d c H1) 0 100 (.str "0"):=.str ⟨by decide +kernel,by decide +kernel,by decide +kernel,by decide +kernel⟩
 have cle:∀ (lo hi:Option Int),(cutV X lo hi).length<=6:=fun lo hi=>J6 (qNU X lo hi) lX;rw [<- eX] at gr;refine hN0 _ _ (cut fun N1 hN1=>?_)
 -- the first seven
 refine ⟨_,rfl,_,rfl,(by show 1<=sizeLine;decide),fun p1 hp1=>?_⟩
 obtain ⟨G1,e_,s1,g1⟩:=qAB hp1 (.tup [V.int k]);rw [e_];have U1:=U0.trans s1;refine ⟨r,p1,_,_,rfl,rfl,U1 _ _ gr,g1,sz (by show X.length+1<=400;lia),fun q1 G2 s2 h1=>?_⟩
 have U2:=U1.trans s2;have a1:=up (tupA U2 h1 (by rw [A7];show _+1<=8;lia) (two aX (one (aI (by lia)))))
 refine ⟨_,rfl,_,rfl,r,_,rfl,U2 _ _ gr,fun q2 G3 s3 h2=>?_⟩;have U3:=U2.trans s3;have a1:=a1.same (qA5 s3);have a2:=up (tupA U3 h2 (by have:=cle (some 1) none;lia) fun x hx=>aX x (qKX hx))
 refine ⟨_,rfl,_,rfl,_,rfl,rfl,r,_,rfl,SqT.of (U3 _ _ gr),fun q3 hq3=>?_⟩;obtain ⟨G4,e_,s4,h3⟩:=qAB hq3 (.tup X.reverse);rw [e_];have U4:=U3.trans s4;have a1:=a1.same (qA5 s4);have a2:=a2.same (qA5 s4);have a3:=up (tupA U4 h3 (by rw [Y4];lia) fun x hx=>aX x (B22.mp hx))
 refine ⟨_,rfl,r,_,rfl,.inr (SqT.of (U4 _ _ gr)),fun q4 hq4=>?_⟩;have n4:=qAX (S1.same U4) hq4;obtain ⟨G5,e_,s5,h4⟩:=qAB hq4 (.lst X);rw [e_];have U5:=U4.trans s5;have a1:=a1.same (qA5 s5);have a2:=a2.same (qA5 s5);have a3:=a3.same (qA5 s5);have a4:AnyM (red d c G5) 2 1000 (.ref q4):=up (AnyM.seq (b:=false) (n:=0) (W:=100) (L:=8) (qEH n4 h4) (by lia) (by decide) aX)
 refine ⟨_,rfl,(by show 1<=sizeLine;decide),fun p5 hp5=>?_⟩
 obtain ⟨G6,e_,s6,g5⟩:=qAB hp5 (.tup [V.bl true]);rw [e_];have U6:=U5.trans s6;refine ⟨r,p5,_,_,rfl,rfl,U6 _ _ gr,g5,sz (by show X.length+1<=400;lia),fun q5 G7 s7 h5=>?_⟩
 have s67:=s6.trans s7;have U7:=U5.trans s67;have a1:=a1.same (qA5 s67);have a2:=a2.same (qA5 s67);have a3:=a3.same (qA5 s67);have a4:=a4.same (qA5 s67);have a5:=up (tupA U7 h5 (by rw [A7];show _+1<=8;lia) (two aX (one .bl)))
 refine ⟨_,rfl,(by show 1<=sizeLine;decide),fun p6 hp6=>?_⟩
 obtain ⟨G8,e_,s8,g6⟩:=qAB hp6 (.tup [V.non]);rw [e_];have U8:=U7.trans s8;refine ⟨r,p6,_,_,rfl,rfl,U8 _ _ gr,g6,sz (by show X.length+1<=400;lia),fun q6 G9 s9 h6=>?_⟩
 have s89:=s8.trans s9;have U9:=U7.trans s89;have a1:=a1.same (qA5 s89);have a2:=a2.same (qA5 s89);have a3:=a3.same (qA5 s89);have a4:=a4.same (qA5 s89);have a5:=a5.same (qA5 s89);have a6:=up (tupA U9 h6 (by rw [A7];show _+1<=8;lia) (two aX (one .non)))
 refine ⟨_,rfl,(by show 1<=sizeLine;decide),fun p7 hp7=>?_⟩
 obtain ⟨Ga,e_,sa,g7⟩:=qAB hp7 (.tup [V.str "0"]);rw [e_];have Ua:=U9.trans sa;refine ⟨r,p7,_,_,rfl,rfl,Ua _ _ gr,g7,sz (by show X.length+1<=400;lia),fun q7 Gb sb' h7=>?_⟩
 have sab:=sa.trans sb';have Ub:=U9.trans sab;have a1:=a1.same (qA5 sab);have a2:=a2.same (qA5 sab);have a3:=a3.same (qA5 sab);have a4:=a4.same (qA5 sab);have a5:=a5.same (qA5 sab);have a6:=a6.same (qA5 sab);have a7:=up (tupA Ub h7 (by rw [A7];show _+1<=8;lia) (two aX (one (s0.same (qA5 Ub)))))
 refine ⟨(by show 7<=sizeLine;decide),fun L hL=>?_⟩
 obtain ⟨Y,eY⟩:∃ Y:List V,Y=[.ref q1,.ref q2,.ref q3,.ref q4,.ref q5,.ref q6,.ref q7]:=⟨_,rfl⟩;have aY:∀ x ∈ Y,AnyM (red d c Gb) 2 1000 x:=fun x hx=>by
  rw [eY] at hx;simp only [B6,F7,or_false] at hx;rcases hx with rfl | rfl | rfl | rfl | rfl | rfl | rfl
  ·exact a1
  ·exact a2
  ·exact a3
  ·exact a4
  ·exact a5
  ·exact a6
  ·exact a7
 have lY:Y.length=7:=by rw [eY];rfl
 rw [<- eY];obtain ⟨Gc,e_,sc,gL⟩:=qAB hL (.lst Y);rw [e_];have Uc:=Ub.trans sc;have aY:∀ x ∈ Y,AnyM (red d c Gc) 2 1000 x:=fun x hx=>(aY x hx).same (qA5 sc);clear a1 a2 a3 a4 a5 a6 a7 s1 s2 s3 s4 s5 s6 s7 s8 s9 sa sb' sab s89 s67 sc g1 g5 g6 g7 h1 h2 h3 h4 h5 h6 h7 U1 U2 U3 U4 U5 U6 U7 U8 U9 Ua Ub n4;refine hN1 _ _ (cut fun N2 hN2=>?_)
 -- seven more
 refine ⟨_,rfl,_,rfl,(by show 1<=sizeLine;decide),fun p1 hp1=>?_⟩
 obtain ⟨G1,e_,s1,g1⟩:=qAB hp1 (.tup [V.int (-1)]);rw [e_];have U1:=Uc.trans s1;refine ⟨_,rfl,p1,r,_,_,rfl,rfl,g1,U1 _ _ gr,sz (by show 1+X.length<=400;lia),fun q1 G2 s2 h1=>?_⟩
 have s12:=s1.trans s2;have U2:=Uc.trans s12;have a1:=up (tupA U2 h1 (by rw [A7];show 1+_<=8;lia) (two (one (aI (by lia))) aX))
 refine ⟨_,rfl,_,rfl,(by show 1<=sizeLine;decide),fun p2 hp2=>?_⟩
 obtain ⟨G3,e_,s3,g2⟩:=qAB hp2 (.tup [V.int m]);rw [e_];have U3:=U2.trans s3;refine ⟨r,p2,_,_,rfl,rfl,U3 _ _ gr,g2,sz (by show X.length+1<=400;lia),fun q2 G4 s4 h2=>?_⟩
 have s34:=s3.trans s4;have U4:=U2.trans s34;have a1:=a1.same (qA5 s34);have a2:=up (tupA U4 h2 (by rw [A7];show _+1<=8;lia) (two aX (one (aI (by lia)))))
 refine ⟨_,rfl,(by show 1<=sizeLine;decide),fun q3 hq3=>?_⟩
 obtain ⟨G5,e_,s5,h3⟩:=qAB hq3 (.tup [V.ref r]);rw [e_];have U5:=U4.trans s5;have a1:=a1.same (qA5 s5);have a2:=a2.same (qA5 s5);have a3:AnyM (red d c G5) 2 1000 (.ref q3):=(AnyM.seq (b:=true) (n:=1) (W:=808) (L:=1) (qEH ((S1.same U5).tup h3) h3) (A6 1) (by decide) fun x hx=>by
  rw [A8.mp hx];exact tupA U5 (U5 _ _ gr) (by lia) aX).mono (by decide)
 refine ⟨_,rfl,_,rfl,(by show 1<=sizeLine;decide),fun p4 hp4=>?_⟩
 obtain ⟨G6,e_,s6,g4⟩:=qAB hp4 (.tup [V.int k]);rw [e_];have U6:=U5.trans s6;refine ⟨r,p4,_,_,rfl,rfl,U6 _ _ gr,g4,sz (by show X.length+1<=400;lia),fun p5 G7 s7 g5=>?_⟩
 have U7:=U6.trans s7;have g5:G7 p5=some (.tup ((st++[k]).map V.int)):=by rw [g5,eX,B0];rfl
 refine ⟨p5,st++[k],rfl,.inr (.inl (SqT.of g5)),by rw [A7];show _+1<64;lia,fun b ys hb hpm hs=>?_⟩
 obtain ⟨G8,e_,s8,g8⟩:=qAB hb (.lst (ys.map V.int));rw [e_];have U8:=U7.trans s8;refine ⟨b,_,rfl,.inl ⟨SqL.of g8,fun q4 hq4=>?_⟩⟩;obtain ⟨G9,e_,s9,h4⟩:=qAB hq4 (.tup (ys.map V.int));rw [e_];have s69:=((s6.trans s7).trans s8).trans s9;have U9:=U5.trans s69;have a1:=a1.same (qA5 s69);have a2:=a2.same (qA5 s69);have a3:=a3.same (qA5 s69);have lys:ys.length<=7:=by
  have:=hpm.length_eq;rw [A7,B4] at this
  lia
 have a4:=up (tupA U9 h4 (by rw [A0];lia) fun x hx=>by
  obtain ⟨z,hz,rfl⟩:=D7.mp hx;rcases B1.mp (hpm.mem_iff.mp hz) with h | h
  ·have:=sb z h;exact aI (by lia)
  ·rw [A8.mp h];exact aI (by lia))
 refine ⟨(by show 7<=sizeLine;decide),fun L2 hL2=>?_⟩
 obtain ⟨Z,eZ⟩:∃ Z:List V,Z=[.ref q1,.ref q2,.non,.int 0,.str "",.ref q3,.ref q4]:=⟨_,rfl⟩;have aZ:∀ x ∈ Z,AnyM (red d c G9) 2 1000 x:=fun x hx=>by
  rw [eZ] at hx;simp only [B6,F7,or_false] at hx;rcases hx with rfl | rfl | rfl | rfl | rfl | rfl | rfl
  ·exact a1
  ·exact a2
  ·exact .non
  ·exact (AnyM.int (by lia)).mono (by decide)
  ·exact .str ⟨rfl,rfl,rfl,D8 _⟩
  ·exact a3
  ·exact a4
 have lZ:Z.length=7:=by rw [eZ];rfl
 rw [<- eZ];obtain ⟨Ga,e_,sa,gL2⟩:=qAB hL2 (.lst Z);rw [e_];have s1a:=((s12.trans s34).trans s5).trans (s69.trans sa);refine ⟨L,L2,_,_,rfl,rfl,s1a _ _ gL,gL2,sz (by lia),fun M hM=>?_⟩
 obtain ⟨Gb,e_,sb',gM⟩:=qAB hM (.lst (Y++Z));have nM:=qAX (S1.same (Uc.trans s1a)) hM;rw [e_];have U:=(Uc.trans s1a).trans sb';have aW:∀ x ∈ Y++Z,AnyM (red d c Gb) 2 1000 x:=fun x hx=>(B1.mp hx).elim (fun h=>(aY x h).same (qA5 (s1a.trans sb'))) fun h=>(aZ x h).same (qA5 (sa.trans sb'));have lW:(Y++Z).length=14:=by rw [A7,lY,lZ]
 generalize Y++Z=W at gM aW lW;clear aY aZ a1 a2 a3 a4 s1 s2 s3 s4 s5 s6 s7 s8 s9 sa sb' s12 s34 s69 s1a;have Sb:=S1.same U;refine hN2 _ _ ?_;refine ⟨_,rfl,_,rfl,_,rfl,M,_,rfl,.inl (SqL.of gM),d,c,t+1,ns1,_,rfl,Sb,(by show t+1<=1000000000;lia),by lia,by lia,fun j ns2 Hz j0 j1 Sz Kz=>?_⟩
 have gMz:=Kz _ _ gM nM.1 nM.2;obtain ⟨y,ey⟩:∃ y,W[j.toNat]?=some y:=⟨_,A3 (by lia)⟩
 refine ⟨M,_,j,y,rfl,rfl,SqL.of gMz,qDD j0 ey,?_⟩;exact q y _ ns2 Hz Sz (by lia) (by lia) ((K1.trans (.of_same U)).trans Kz) ((aW y (C3 ey)).same (qE4 Kz))
theorem sc_Lbent:FnScope ["_law_state","_law_paper","_law_many","_law_works","_law_stands","_law_at","_law_without","_law_more","_law_some"] ["_law_state","_law_paper","_law_many"] (qAE qK9):=qBP
theorem ok_Lbent (F:Fun K "_law_bent" "_law_bent" qK9 f fd) (qAT:Clb P w K mg base 1 qDL qDE "_law_take" ["_law_state","_law_many"] qFP) (qGE:Clb P w K mg base 2 qEC qIY "_law_bent_stand" ["_law_state","_law_stand","_law_many"] qO6) (qAZ:mg "len" = none) (qEK:mg "list" = none) (qAK:mg "tuple" = none) (qBT:mg "sorted" = none) (qMU:mg "set" = none) (qPH:mg "max" = none):FnOk P w K mg base CX0 3 f fd ["_law_state","_law_paper","_law_many"] qR1:=by
 refine F.okA sc_Lbent fun cdv A outer s H vs Q E hr h=>?_;obtain ⟨d,c,t,ns,T,tw,l,ws,rs,ss,m,rfl,S,ht,gT,gw,gl,nld,nlc,SL,lw6,wb,l70,sb,m1,m6,q⟩:=h;have ht':t<=1000000000 - 1000:=ht;have hu0:=hr.units0;refine ⟨_,(qA4 (qLV (pv 1) (qLX rfl (qB7 (qAW (i:=3) sc_Lbent.nd rfl (E8 rfl)) (qB7 (qAW (i:=4) sc_Lbent.nd rfl (o6 rfl)) qE6)))) (qA4 (qBI (qAL (qI3 hu0) (pv 4) (qB4 qA2) (qAQ _)) (qA6 (qAI (pv 1))) qAO) (qA4 (qAJ (i:=5) sc_Lbent.nd rfl (o6 rfl) (qAS qAT hr rfl (qA0 (pv 0) (qA0 (qA9 qAA rfl qAZ qAY (qA0 (pv 4) qA2)) qA2)))) (qA4 (qLU (i:=6) sc_Lbent.nd rfl rfl rfl (lcs (own:=["_law_stand"]) (fv:=[4,5]) (by kernel_rfl)) (qCC (pv 4)) (fun z1=>qBF 0) (fun z1=>(qCB (qAL (qQ0 hu0) (pv 0) (qBL (qOW (K:=K) rfl) (pv 1) (pv 2) (fun _ _=>rfl)) (qAQ _)))) (fun z1=>(pv 0)) (by kernel_rfl)) (qA4 (qAJ (i:=7) sc_Lbent.nd rfl (E8 rfl) (qAS qAT hr rfl (qA0 (pv 0) (qA0 (qAM qD2 (pv 2) qA8) qA2)))) (qA4 (qAJ (i:=8) sc_Lbent.nd rfl (E8 rfl) (qB4 (qA0 (pv 1) (qA0 (qAV (qA0 (pv 3) (qA0 (pv 6) qA2))) (qA0 (qAV (qA0 (pv 3) (qA0 (qC6 rfl (lcs (own:=["_law_stand"]) (fv:=[]) (by kernel_rfl)) (qCC (pv 4)) (fun z2=>qBF 0) (fun z2=>(qCB (qAL (qN4 (K:=K) rfl hu0) (pv 0) (qAV qA2) (qAQ _)))) (fun z2=>(pv 0))) qA2))) (qA0 (qAV (qA0 (pv 3) (qA0 (qAD qAF rfl qAK qAP (qA0 (pv 4) qA2)) qA2))) qA2)))))) (qA4 (qAJ (i:=8) sc_Lbent.nd rfl (E8 rfl) (qAM qEI (pv 8) (qB4 (qA0 (qAV (qA0 (qAD qDF rfl qEK qGV (qA0 (pv 3) qA2)) (qA0 (pv 4) qA2))) (qA0 (qAV (qA0 (qCR qR6 (pv 3) (qCZ qA8) qE5) (qA0 (pv 4) qA2))) (qA0 (qAV (qA0 (qAM qE7 (pv 3) (qAV (qA0 (pv 7) qA2))) (qA0 (pv 4) qA2))) (qA0 (qAV (qA0 (qJ9 (pv 3) (qCZ (qKE qFO qA8))) (qA0 (pv 4) qA2))) qA2))))))) (qA4 (qAJ (i:=8) sc_Lbent.nd rfl (E8 rfl) (qAM qEI (pv 8) (qB4 (qA0 (qAV (qA0 (pv 3) (qA0 (pv 4) (qA0 (pv 4) qA2)))) (qA0 (qAV (qA0 (pv 3) qA2)) (qA0 (qB4 (qA0 (pv 3) (qA0 (pv 4) qA2))) (qA0 qFY (qA0 qC9 (qA0 qBJ (qA0 qA8 (qA0 (qAV qA2) (qA0 (qAV (qA0 (pv 3) (qA0 qFY qA2))) qA2)))))))))))) (qA4 (qAJ (i:=8) sc_Lbent.nd rfl (E8 rfl) (qAM qEI (pv 8) (qB4 (qA0 (qAV (qA0 (qAD qAF rfl qAK qAP (qA0 (qA9 (qL1 rfl) rfl qBT qD6 (qA0 (qAD (qQJ rfl) rfl qMU qPA (qA0 (qAM qE7 (pv 3) (qAV (qA0 (qAM qGZ (pv 7) (qA9 (qIM rfl) rfl qPH qTI (qA0 qA8 (qA0 (pv 2) qA2)))) qA2))) qA2)) qA2)) qA2)) (qA0 (pv 4) qA2))) (qA0 (qAV (qA0 qFY (qA0 (pv 4) qA2))) (qA0 (qAV (qA0 (qAV qA2) (qA0 (pv 4) qA2))) qA2)))))) (qA4 (qAJ (i:=8) sc_Lbent.nd rfl (E8 rfl) (qAM qEI (pv 8) (qAM qOQ (qB4 (qA0 (qAV (qA0 (pv 3) (qA0 (qAM qEI (qAM qEI (qCR qGG (pv 4) qE5 (qCZ (pv 5))) (qB4 (qA0 (qAS qGE hr rfl (qA0 (pv 0) (qA0 (qBL qC1 (pv 4) (pv 5) (fun _ _=>rfl)) (qA0 (qA9 qAA rfl qAZ qAY (qA0 (pv 3) qA2)) qA2)))) qA2))) (qCR qGG (pv 4) (qCZ (pv 5)) qE5)) qA2))) qA2)) qA8))) (qA6 (qAI (qBL qC1 (pv 8) (qAS qAT hr rfl (qA0 (pv 0) (qA0 (qA9 qAA rfl qAZ qAY (qA0 (pv 8) qA2)) qA2))) (fun _ _=>rfl)))))))))))))),?_⟩
 try dsimp only [Cx.nox,Cx.wish,cxOf]
 have lrs:rs.length=ss.length:=C6 SL;refine cut fun N0 hN0=>?_;refine ⟨_,rfl,T,_,rfl,SqT.of gT,rfl,_,_,rfl,_,_,rfl,rfl,?_⟩;refine hN0 _ _ (cut fun N1 hN1=>?_);obtain ⟨X,eX⟩:∃ X,X=rs.map V.ref:=⟨_,rfl⟩;have lX:X.length<=70:=by rw [eX,A0];lia
 have aI:∀ {R:Hp} {n:Nat} {i:Int},-1<=i/\i<=7->AnyM R n 100 (.int i):=fun {R n i} h=>(AnyM.int (by lia)).mono (by decide)
 have aWs:∀ {R:Hp} {n:Nat},∀ x ∈ ws.map V.int,AnyM R n 100 x:=fun {R n} x hx=>by
  obtain ⟨z,hz,rfl⟩:=D7.mp hx;have:=wb z hz;exact aI (by lia)
 have aS:∀ x ∈ X,AnyM (red d c H) 1 808 x:=fun x hx=>by
  rw [eX] at hx;obtain ⟨r,hr,rfl⟩:=D7.mp hx;obtain ⟨i,hi⟩:=W4 hr;obtain ⟨z,ez,gz⟩:=qBH SL hi;have hz:=sb z (C3 ez);exact AnyM.seq (b:=true) (n:=0) (W:=100) (L:=8) (qEH (S.tup gz) gz) (by rw [A0];lia) (by decide) fun y hy=>by
   obtain ⟨v,hv,rfl⟩:=D7.mp hy;have:=hz.2 v hv;exact aI (by lia)
 have sz:∀ {n:Nat},n<=400->n<=sizeLine:=fun h=>by rw [sizeLine_eq];lia
 have gX:H l=some (.lst X):=by rw [eX];exact gl
 have ntw:=S.tup gw
 -- what holds in all heaps from here on
 have w3:∀ {G:Hp},Same (red d c H) (red d c G)->AnyM (red d c G) 3 80080 (.ref tw):=fun V=>((AnyM.seq (b:=true) (n:=0) (W:=100) (L:=8) (V _ _ (qEH ntw gw)) (by rw [A0];lia) (by decide) aWs).up.up).mono (by decide)
 have l3:∀ {G:Hp} {p:Addr} {xs:List V} (b:Bool),Same (red d c H) (red d c G)->p ≠ d/\p ≠ c->G p=some (seqO b xs)->xs.length<=80->(∀ x ∈ xs,x ∈ X)->AnyM (red d c G) 3 80080 (.ref p):=fun {G p xs} b V n g l m=>((AnyM.seq (b:=b) (n:=1) (W:=808) (L:=80) (qEH n g) l (by decide) fun x hx=>(aS x (m x hx)).same V).up).mono (by decide)
 have pr:∀ {G:Hp} {p:Addr} {xs:List V} (b:Bool),p ≠ d/\p ≠ c->G p=some (seqO b xs)->xs.length<=3->(∀ x ∈ xs,AnyM (red d c G) 3 80080 x)->AnyM (red d c G) 5 400000 (.ref p):=fun {G p xs} b n g l m=>((AnyM.seq (b:=b) (n:=3) (W:=80080) (L:=3) (qEH n g) l (by decide) m).up).mono (by decide)
 have two:∀ {R:Hp} {x y:V},AnyM R 3 80080 x->AnyM R 3 80080 y->∀ z ∈ [x,y],AnyM R 3 80080 z:=fun h1 h2 z hz=>by simp at hz;rcases hz with rfl | rfl;exact h1;exact h2
 have fromH:∀ {G:Hp} {p:Addr} {o:HO},Same (red d c H) (red d c G)->p ≠ d/\p ≠ c->H p=some o->G p=some o:=fun V n g=>qKB _ _ (V _ _ (qEH n g));have tupX:∀ {G:Hp} {y:V},Same (red d c H) (red d c G)->y ∈ X->∃ (r:Addr) (z:List Int),y=.ref r/\G r=some (.tup (z.map V.int)):=fun {G y} V hy=>by
  rw [eX] at hy;obtain ⟨r,hr,rfl⟩:=D7.mp hy;obtain ⟨i,hi⟩:=W4 hr;obtain ⟨z,_,gz⟩:=qBH SL hi;exact ⟨r,z,rfl,fromH V (S.tup gz) gz⟩
 have i3:∀ {G:Hp} {p:Addr} {xs:List V} (b:Bool),p ≠ d/\p ≠ c->G p=some (seqO b xs)->xs.length<=8->(∀ x ∈ xs,AnyM (red d c G) 0 100 x)->AnyM (red d c G) 3 80080 (.ref p):=fun {G p xs} b n g l m=>((AnyM.seq (b:=b) (n:=0) (W:=100) (L:=8) (qEH n g) l (by decide) m).up.up).mono (by decide)
 have lWs:(ws.map V.int).length<=6:=by rw [A0];exact lw6
 have s9:∀ {R:Hp},AnyM R 5 400000 (.str "never"):=.str ⟨by decide +kernel,by decide +kernel,by decide +kernel,by decide +kernel⟩
 refine ⟨_,rfl,(by show 0<=sizeLine;decide),fun p0 hp0=>?_⟩
 obtain ⟨G0,e_,s0,g0⟩:=qAB hp0 (.lst []);rw [e_];refine ⟨l,p0,X,rfl,rfl,SqL.of (s0 _ _ gX),SqL.of g0,_,rfl,?_⟩;have V0:=qA5 (d:=d) (c:=c) s0;cases hX:X.isEmpty with
 | true=>
  refine iteT ?_;refine ⟨_,rfl,?_⟩;exact q _ t ns _ (S.same s0) (by lia) (by lia) (.of_same s0) (pr true (S.tup gT) (s0 _ _ gT) (by show 2<=3;decide) (two (w3 V0) (l3 false V0 ⟨nld,nlc⟩ (s0 _ _ gX) (by lia) fun x hx=>hx)))
 | false=>
  refine iteF ?_;have pX:1<=X.length:=by cases hh:X with | nil=>rw [hh] at hX;cases hX | cons _ _=>simp
  refine hN1 _ _ (cut fun N2 hN2=>?_);have S0:=S.same s0;refine ⟨_,rfl,_,rfl,l,_,rfl,.inl (SqL.of (s0 _ _ gX)),d,c,t,ns,_,rfl,S0,(by show t<=1000000000;lia),by lia,by lia,fun k ns1 H1 k0 k1 S1 K1=>?_⟩
  have K01:=(Keep.of_same (d:=d) (c:=c) s0).trans K1;have V1:=qE4 K01;have gl1:=fromH V1 ⟨nld,nlc⟩ gX;refine hN2 _ _ (cut fun N3 hN3=>?_)
  -- without
  refine ⟨_,rfl,l,rfl,⟨_,SqL.of gl1⟩,fun pw hpw=>?_⟩;refine qDJ (p:=pw) (a:=l) (xs:=X) (fun i σ Hc=>∃ (v:Option V) (ys:List V),σ=[v,some (.ref l),some (.int k)]/\Same H1 Hc/\Hc pw=some (.lst ys)/\ys.length<=i/\∀ y ∈ ys,y ∈ X) ?_ ?_ ?_ ?_
  ·exact ⟨none,[],rfl,qA3 hpw _,qA1,A6 _,fun y h=>nomatch h⟩
  ·rintro i σ Hc hi ⟨v,ys,rfl,sm,_⟩;exact SqL.of (sm _ _ gl1)
  ·refine fun i x σ Hc hx hI_2=>opq fun G_2 hG_2=>?_;obtain ⟨v,ys,rfl,sm,gp,ly,ym⟩:=hI_2;refine hG_2 ?_;have hx1:=C3 hx;have Vc:=V1.trans (qA5 (d:=d) (c:=c) sm);obtain ⟨r1,z1,rfl,g1⟩:=tupX Vc hx1;obtain ⟨y2,ey2⟩:∃ y,X[k.toNat]?=some y:=⟨_,A3 (by lia)⟩
   obtain ⟨r2,z2,e2,g2⟩:=tupX Vc (C3 ey2);refine ⟨_,rfl,_,rfl,_,rfl,l,_,k,_,rfl,rfl,SqL.of (sm _ _ gl1),qDD k0 ey2,r1,r2,z1,z2,rfl,e2,g1,g2,fun b=>⟨_,rfl,?_⟩⟩;cases b with
   | true=>
    refine iteT ⟨_,rfl,_,gp,qBM (by have:=(A5.mp hx).1;lia),_,ys++[V.ref r1],rfl,qAG sm hpw,qA1,by rw [A7];exact A19 ly,fun y hy=>?_⟩
    rcases B1.mp hy with h | h
    ·exact ym y h
    ·rw [A8.mp h];exact hx1
   | false=>exact iteF ⟨_,ys,rfl,sm,gp,by lia,ym⟩
  refine fun σ H2 hI_3=>opq fun G_3 hG_3=>?_;obtain ⟨v,ys,rfl,s2,gw2,ly,ym⟩:=hI_3;refine hG_3 ?_;have nw2:=qAX S1 hpw;have S2:=S1.same s2;have K02:=K01.trans (Keep.of_same s2);have V2:=qE4 K02;refine hN3 _ _ (cut fun N4 hN4=>?_);refine ⟨_,rfl,_,rfl,_,_,rfl,rfl,d,c,t+1,ns1,_,rfl,S2,(by show t+1<=1000000000;lia),by lia,by lia,fun mo ns3 H3 mo0 mo1 S3 K3=>?_⟩
  have K03:=K02.trans K3;have V3:=qE4 K03;have gw3:=K3 _ _ gw2 nw2.1 nw2.2;refine hN4 _ _ (cut fun N5 hN5=>?_);clear hN0 hN1 hN2 hN3 hN4;have gl3:=fromH V3 ⟨nld,nlc⟩ gX;have gt3:=fromH V3 ntw gw;have nT:=S.tup gT
  -- the first four
  refine ⟨_,rfl,_,rfl,_,rfl,(by show 2<=sizeLine;decide),fun p1 hp1=>?_⟩
  obtain ⟨G1,e_,s1,g1⟩:=qAB hp1 (.tup [.ref tw,.ref pw]);rw [e_];have a1:=pr true (qAX S3 hp1) g1 (by show 2<=3;decide) (two (w3 (V3.trans (qA5 s1))) (l3 false (V3.trans (qA5 s1)) nw2 (s1 _ _ gw3) (by lia) ym))
  have U1:=s1;refine ⟨_,rfl,_,rfl,l,rfl,⟨_,SqL.of (U1 _ _ gl3)⟩,fun px hpx=>?_⟩;refine qDJ (p:=px) (a:=l) (xs:=X) (fun i σ Hc=>∃ (v:Option V) (ys:List V),σ=[v]/\Same G1 Hc/\Hc px=some (.lst ys)/\ys.length<=i/\∀ y ∈ ys,y ∈ X) ?_ ?_ ?_ ?_
  ·exact ⟨none,[],rfl,qA3 hpx _,qA1,A6 _,fun y h=>nomatch h⟩
  ·rintro i σ Hc hi ⟨v,ys,rfl,sm,_⟩;exact SqL.of (sm _ _ (U1 _ _ gl3))
  ·refine fun i x σ Hc hx hI_5=>opq fun G_5 hG_5=>?_;obtain ⟨v,ys,rfl,sm,gp,ly,ym⟩:=hI_5;refine hG_5 ?_;have hx1:=C3 hx;obtain ⟨r1,z1,rfl,g1'⟩:=tupX (V3.trans (qA5 (U1.trans sm))) hx1;refine ⟨_,rfl,(by show 0<=sizeLine;decide),fun e he=>?_⟩
   obtain ⟨He,e_,se,ge⟩:=qAB he (.tup []);rw [e_];refine ⟨r1,e,_,rfl,rfl,SqT.of (se _ _ g1'),SqT.of ge,_,rfl,?_⟩;cases (z1.map V.int).isEmpty with
   | false=>
    refine iteT ⟨_,rfl,_,se _ _ gp,qBM (by have:=(A5.mp hx).1;lia),_,ys++[V.ref r1],rfl,qAG (sm.trans se) hpx,qA1,by rw [A7];exact A19 ly,fun y hy=>?_⟩
    rcases B1.mp hy with h | h
    ·exact ym y h
    ·rw [A8.mp h];exact hx1
   | true=>exact iteF ⟨_,ys,rfl,sm.trans se,se _ _ gp,by lia,ym⟩
  refine fun σ G2 hI_6=>opq fun G_6 hG_6=>?_;obtain ⟨v,zs,rfl,s2',gz2,lz,zm⟩:=hI_6;refine hG_6 ?_;have U2:=U1.trans s2';have nz:=qAX (S3.same U1) hpx;have a1:=a1.same (qA5 s2');refine ⟨(by show 2<=sizeLine;decide),fun p2 hp2=>?_⟩
  obtain ⟨G3,e_,s3,g2⟩:=qAB hp2 (.tup [.ref tw,.ref px]);rw [e_];have U3:=U2.trans s3;have VV:=V3.trans (qA5 (d:=d) (c:=c) U3);have a1:=a1.same (qA5 s3);have a2:=pr true (qAX (S3.same U2) hp2) g2 (by show 2<=3;decide) (two (w3 VV) (l3 false VV nz (s3 _ _ gz2) (by lia) zm))
  refine ⟨_,rfl,_,rfl,l,_,rfl,.inl ⟨SqL.of (U3 _ _ gl3),fun p3 hp3=>?_⟩⟩;have n3:=qAX (S3.same U3) hp3;obtain ⟨G4,e_,s4,g3⟩:=qAB hp3 (.tup X);rw [e_];have U4:=U3.trans s4;refine ⟨(by show 2<=sizeLine;decide),fun p4 hp4=>?_⟩
  have n4:=qAX (S3.same U4) hp4;obtain ⟨G5,e_,s5,g4⟩:=qAB hp4 (.tup [.ref tw,.ref p3]);rw [e_];have s45:=s4.trans s5;have U5:=U3.trans s45;have VV:=V3.trans (qA5 (d:=d) (c:=c) U5);have a1:=a1.same (qA5 s45);have a2:=a2.same (qA5 s45);have a3:=pr true n4 g4 (by show 2<=3;decide) (two (w3 VV) (l3 true VV n3 (s5 _ _ g3) (by lia) fun x hx=>hx))
  have a0:=pr true nT (fromH VV nT gT) (by show 2<=3;decide) (two (w3 VV) (l3 false VV ⟨nld,nlc⟩ (fromH VV ⟨nld,nlc⟩ gX) (by lia) fun x hx=>hx))
  refine ⟨(by show 4<=sizeLine;decide),fun L hL=>?_⟩
  have nL:=qAX (S3.same U5) hL;obtain ⟨Y,eY⟩:∃ Y:List V,Y=[.ref T,.ref p1,.ref p2,.ref p4]:=⟨_,rfl⟩;have lY:Y.length<=4:=by rw [eY];exact A6 4
  have aY:∀ x ∈ Y,AnyM (red d c G5) 5 400000 x:=fun x hx=>by
   rw [eY] at hx;simp only [B6,F7,or_false] at hx;rcases hx with rfl | rfl | rfl | rfl
   ·exact a0
   ·exact a1
   ·exact a2
   ·exact a3
  have lY4:Y.length=4:=by rw [eY];rfl
  rw [<- eY];obtain ⟨Ga,e_,sa,gL⟩:=qAB hL (.lst Y);rw [e_];have Ua:=U5.trans sa;have aY:∀ x ∈ Y,AnyM (red d c Ga) 5 400000 x:=fun x hx=>(aY x hx).same (qA5 sa);have Va:=V3.trans (qA5 (d:=d) (c:=c) Ua);have Sa:=S3.same Ua;have Ka:=K03.trans (Keep.of_same Ua);clear a0 a1 a2 a3 s1 s2' s3 s4 s5 s45 sa g1 g2 g3 g4 gz2 U1 U2 U3 U4 U5 VV eY lY zm lz nz n3 n4 hpx hp1 hp2 hp3 hp4 hL;refine hN5 _ _ (cut fun N6 hN6=>?_);clear hN5
  -- four more
  have gtA:=fromH Va ntw gw;have glA:=fromH Va ⟨nld,nlc⟩ gX;refine ⟨_,rfl,_,rfl,tw,_,rfl,.inr (SqT.of gtA),fun q1 hq1=>?_⟩;have m1':=qAX Sa hq1;obtain ⟨G1,e_,s1,h1⟩:=qAB hq1 (.lst (ws.map V.int));rw [e_];refine ⟨_,rfl,(by show 2<=sizeLine;decide),fun p1 hp1=>?_⟩
  have n1:=qAX (Sa.same s1) hp1;obtain ⟨G2,e_,s2,g1⟩:=qAB hp1 (.tup [.ref q1,.ref l]);rw [e_];have U2:=s1.trans s2;have VV:=Va.trans (qA5 (d:=d) (c:=c) U2);have a1:=pr true n1 g1 (by show 2<=3;decide) (two (i3 false m1' (s2 _ _ h1) (by lia) aWs) (l3 false VV ⟨nld,nlc⟩ (U2 _ _ glA) (by lia) fun x hx=>hx))
  refine ⟨_,rfl,_,rfl,tw,_,rfl,U2 _ _ gtA,fun q2 G3 s3 h2=>?_⟩;have U3:=U2.trans s3;refine ⟨_,rfl,(by show 2<=sizeLine;decide),fun p2 hp2=>?_⟩
  have n2:=qAX (Sa.same U3) hp2;have m2:=(Sa.same U3).tup h2;obtain ⟨G4,e_,s4,g2⟩:=qAB hp2 (.tup [.ref q2,.ref l]);rw [e_];have s34:=s3.trans s4;have U4:=U2.trans s34;have VV:=Va.trans (qA5 (d:=d) (c:=c) U4);have a1:=a1.same (qA5 s34);have a2:=pr true n2 g2 (by show 2<=3;decide) (two (i3 true m2 (s4 _ _ h2) (J6 (qNU _ _ _) (by lia)) fun x hx=>aWs x (qKX hx)) (l3 false VV ⟨nld,nlc⟩ (U4 _ _ glA) (by lia) fun x hx=>hx))
  refine ⟨_,rfl,_,rfl,(by show 1<=sizeLine;decide),fun p3 hp3=>?_⟩
  obtain ⟨G5,e_,s5,g3⟩:=qAB hp3 (.tup [.int mo]);rw [e_];have U5:=U4.trans s5;refine ⟨tw,p3,_,_,rfl,rfl,U5 _ _ gtA,g3,sz (by show _+1<=400;lia),fun q3 G6 s6 h3=>?_⟩
  have U6:=U5.trans s6;refine ⟨_,rfl,(by show 2<=sizeLine;decide),fun p4 hp4=>?_⟩
  have n4:=qAX (Sa.same U6) hp4;have m3:=(Sa.same U6).tup h3;obtain ⟨G7,e_,s7,g4⟩:=qAB hp4 (.tup [.ref q3,.ref l]);rw [e_];have s57:=(s5.trans s6).trans s7;have U7:=U4.trans s57;have VV:=Va.trans (qA5 (d:=d) (c:=c) U7);have a1:=a1.same (qA5 s57);have a2:=a2.same (qA5 s57);have a3:=pr true n4 g4 (by show 2<=3;decide) (two (i3 true m3 (s7 _ _ h3) (by rw [A7];show _+1<=8;lia) fun x hx=>(B1.mp hx).elim (aWs x) fun h=>by rw [A8.mp h];exact aI (by lia)) (l3 false VV ⟨nld,nlc⟩ (U7 _ _ glA) (by lia) fun x hx=>hx))
  refine ⟨_,rfl,_,rfl,_,rfl,rfl,tw,_,rfl,SqT.of (U7 _ _ gtA),fun q4 hq4=>?_⟩;have m4:=qAX (Sa.same U7) hq4;obtain ⟨G8,e_,s8,h4⟩:=qAB hq4 (.tup (ws.map V.int).reverse);rw [e_];refine ⟨_,rfl,(by show 2<=sizeLine;decide),fun p5 hp5=>?_⟩
  have n5:=qAX (Sa.same (U7.trans s8)) hp5;obtain ⟨G9,e_,s9',g5⟩:=qAB hp5 (.tup [.ref q4,.ref l]);rw [e_];have s89:=s8.trans s9';have U9:=U7.trans s89;have VV:=Va.trans (qA5 (d:=d) (c:=c) U9);have a1:=a1.same (qA5 s89);have a2:=a2.same (qA5 s89);have a3:=a3.same (qA5 s89);have a4:=pr true n5 g5 (by show 2<=3;decide) (two (i3 true m4 (s9' _ _ h4) (by rw [Y4];lia) fun x hx=>aWs x (B22.mp hx)) (l3 false VV ⟨nld,nlc⟩ (U9 _ _ glA) (by lia) fun x hx=>hx))
  refine ⟨(by show 4<=sizeLine;decide),fun L2 hL2=>?_⟩
  obtain ⟨Y2,eY⟩:∃ Y:List V,Y=[.ref p1,.ref p2,.ref p4,.ref p5]:=⟨_,rfl⟩;have aY2:∀ x ∈ Y2,AnyM (red d c G9) 5 400000 x:=fun x hx=>by
   rw [eY] at hx;simp only [B6,F7,or_false] at hx;rcases hx with rfl | rfl | rfl | rfl
   ·exact a1
   ·exact a2
   ·exact a3
   ·exact a4
  have lY2:Y2.length=4:=by rw [eY];rfl
  rw [<- eY];obtain ⟨Gb,e_,sb',gL2⟩:=qAB hL2 (.lst Y2);rw [e_];have Ub:=U9.trans sb';refine ⟨L,L2,_,_,rfl,rfl,Ub _ _ gL,gL2,sz (by lia),fun M hM=>?_⟩
  have nM:=qAX (Sa.same Ub) hM;obtain ⟨Gc,e_,sc',gM⟩:=qAB hM (.lst (Y++Y2));rw [e_];have Uc:=Ub.trans sc';have aZ:∀ x ∈ Y++Y2,AnyM (red d c Gc) 5 400000 x:=fun x hx=>(B1.mp hx).elim (fun h=>(aY x h).same (qA5 Uc)) fun h=>(aY2 x h).same (qA5 (sb'.trans sc'));have lZ:(Y++Y2).length=8:=by rw [A7,lY4,lY2]
  generalize Y++Y2=Z at gM aZ lZ;have Vc:=Va.trans (qA5 (d:=d) (c:=c) Uc);have Sc:=Sa.same Uc;have Kc:=Ka.trans (Keep.of_same Uc);clear a1 a2 a3 a4 aY aY2 s1 s2 s3 s4 s5 s6 s7 s8 s9' s34 s57 s89 sb' sc' g1 g2 g3 g4 g5 h1 h2 h3 h4 U2 U3 U4 U5 U6 U7 U9 Ub Uc VV eY n1 n2 n4 n5 m1' m2 m3 m4 hp1 hp2 hp3 hp4 hp5 hq1 hq4 hL2 hM gL gL2 lY4 lY2 nL;refine hN6 _ _ (cut fun N7 hN7=>?_);clear hN6
  -- nine more
  have gtC:=fromH Vc ntw gw;have glC:=fromH Vc ⟨nld,nlc⟩ gX;refine ⟨_,rfl,_,rfl,_,rfl,_,rfl,(by show 3<=sizeLine;decide),fun p1 hp1=>?_⟩
  have n1:=qAX Sc hp1;obtain ⟨G1,e_,s1,g1⟩:=qAB hp1 (.tup [.ref tw,.ref l,.ref l]);rw [e_];have VV:=Vc.trans (qA5 (d:=d) (c:=c) s1);have wl:=w3 VV;have ll:=l3 false VV ⟨nld,nlc⟩ (s1 _ _ glC) (by lia) fun x hx=>hx
  have a1:=pr true n1 g1 (by show 3<=3;decide) fun z hz=>by
   simp only [B6,F7,or_false] at hz;rcases hz with rfl | rfl | rfl
   ·exact wl
   ·exact ll
   ·exact ll
  refine ⟨_,rfl,(by show 1<=sizeLine;decide),fun p2 hp2=>?_⟩
  have n2:=qAX (Sc.same s1) hp2;obtain ⟨G2,e_,s2,g2⟩:=qAB hp2 (.tup [.ref tw]);rw [e_];have a1:=a1.same (qA5 s2);have a2:=pr true n2 g2 (by show 1<=3;decide) fun z hz=>by rw [A8.mp hz];exact wl.same (qA5 s2)
  refine ⟨_,rfl,_,rfl,(by show 2<=sizeLine;decide),fun p3 hp3=>?_⟩
  have U2:=s1.trans s2;have n3:=qAX (Sc.same U2) hp3;obtain ⟨G3,e_,s3,g3⟩:=qAB hp3 (.lst [.ref tw,.ref l]);rw [e_];have s23:=s2.trans s3;have a1:=a1.same (qA5 s3);have a2:=a2.same (qA5 s3);have a3:=pr false n3 g3 (by show 2<=3;decide) (two (wl.same (qA5 s23)) (ll.same (qA5 s23)))
  refine ⟨(by show 0<=sizeLine;decide),fun p4 hp4=>?_⟩
  have U3:=U2.trans s3;have n4:=qAX (Sc.same U3) hp4;obtain ⟨G4,e_,s4,g4⟩:=qAB hp4 (.tup []);rw [e_];have a1:=a1.same (qA5 s4);have a2:=a2.same (qA5 s4);have a3:=a3.same (qA5 s4);have a4:=pr true n4 g4 (by show 0<=3;decide) fun z hz=>nomatch hz
  refine ⟨_,rfl,(by show 2<=sizeLine;decide),fun p5 hp5=>?_⟩
  have U4:=U3.trans s4;have n5:=qAX (Sc.same U4) hp5;obtain ⟨G5,e_,s5,g5⟩:=qAB hp5 (.tup [.ref tw,.non]);rw [e_];have a1:=a1.same (qA5 s5);have a2:=a2.same (qA5 s5);have a3:=a3.same (qA5 s5);have a4:=a4.same (qA5 s5);have a5:=pr true n5 g5 (by show 2<=3;decide) (two (wl.same (qA5 ((s23.trans s4).trans s5))) .non)
  refine ⟨(by show 9<=sizeLine;decide),fun L2 hL2=>?_⟩
  have U5:=U4.trans s5;obtain ⟨Y2,eY⟩:∃ Y:List V,Y=[.ref p1,.ref p2,.ref p3,.non,.bl true,.str "never",.int 7,.ref p4,.ref p5]:=⟨_,rfl⟩;have aY2:∀ x ∈ Y2,AnyM (red d c G5) 5 400000 x:=fun x hx=>by
   rw [eY] at hx;simp only [B6,F7,or_false] at hx;rcases hx with rfl | rfl | rfl | rfl | rfl | rfl | rfl | rfl | rfl
   ·exact a1
   ·exact a2
   ·exact a3
   ·exact .non
   ·exact .bl
   ·exact s9
   ·exact (AnyM.int (by lia)).mono (by decide)
   ·exact a4
   ·exact a5
  have lY2:Y2.length=9:=by rw [eY];rfl
  rw [<- eY];obtain ⟨Gb,e_,sb',gL2⟩:=qAB hL2 (.lst Y2);rw [e_];have Ub:=U5.trans sb';refine ⟨M,L2,_,_,rfl,rfl,Ub _ _ gM,gL2,sz (by lia),fun M2 hM2=>?_⟩
  have nM2:=qAX (Sc.same Ub) hM2;obtain ⟨Gd,e_,sd',gM2⟩:=qAB hM2 (.lst (Z++Y2));rw [e_];have Ud:=Ub.trans sd';have aZ2:∀ x ∈ Z++Y2,AnyM (red d c Gd) 5 400000 x:=fun x hx=>(B1.mp hx).elim (fun h=>(aZ x h).same (qA5 Ud)) fun h=>(aY2 x h).same (qA5 (sb'.trans sd'));have lZ2:(Z++Y2).length=17:=by rw [A7,lZ,lY2]
  generalize Z++Y2=Z2 at gM2 aZ2 lZ2;have Vd:=Vc.trans (qA5 (d:=d) (c:=c) Ud);have Sd:=Sc.same Ud;have Kd:=Kc.trans (Keep.of_same Ud);clear a1 a2 a3 a4 a5 aZ aY2 s1 s2 s3 s4 s5 s23 sb' sd' g1 g2 g3 g4 g5 U2 U3 U4 U5 Ub Ud VV wl ll eY n1 n2 n3 n4 n5 hp1 hp2 hp3 hp4 hp5 hL2 hM2 gL2 lY2 gM lZ nM;refine hN7 _ _ (cut fun N8 hN8=>?_);clear hN7
  -- three more
  have gtD:=fromH Vd ntw gw;have glD:=fromH Vd ⟨nld,nlc⟩ gX;have hmx:0<(if m > 1 then m else 1)/\(if m > 1 then m else 1)<=6:=by split <;> lia
  refine ⟨_,rfl,_,rfl,_,rfl,_,rfl,_,_,rfl,_,_,rfl,rfl,hmx.1,?_⟩;have hv0:=R7 mo (show (if m > 1 then m else 1) ≠ 0 by lia)
  have hv1:=P3 mo hmx.1;dsimp only;generalize mo % (if m > 1 then m else 1)=v at hv0 hv1 ⊢
  refine ⟨(by show 1<=sizeLine;decide),fun p1 hp1=>?_⟩
  obtain ⟨G1,e_,s1,g1⟩:=qAB hp1 (.tup [.int v]);rw [e_];refine ⟨tw,p1,_,_,rfl,rfl,s1 _ _ gtD,g1,sz (by show _+1<=400;lia),fun q1 G2 s2 h1=>?_⟩
  have h1:G2 q1=some (.tup ((ws++[v]).map V.int)):=by rw [h1,B0];rfl
  have U2:=s1.trans s2;refine ⟨q1,ws++[v],rfl,SqT.of h1,by rw [A7];show _+1<=4000;lia,fun a ha=>?_⟩
  obtain ⟨G3,e_,s3,g3⟩:=qAB ha (SetM w a (dedI (ws++[v])));rw [e_];have ld:(dedI (ws++[v])).length<=7:=J6 (qHK _) (by rw [A7];show _+1<=7;lia)
  refine ⟨a,_,rfl,g3,by lia,fun b ys hb hpm hs=>?_⟩
  obtain ⟨G4,e_,s4,g4⟩:=qAB hb (.lst (ys.map V.int));rw [e_];have U4:=(U2.trans s3).trans s4;refine ⟨b,_,rfl,.inl ⟨SqL.of g4,fun q4 hq4=>?_⟩⟩;have m4:=qAX (Sd.same U4) hq4;obtain ⟨G5,e_,s5,h4⟩:=qAB hq4 (.tup (ys.map V.int));rw [e_];refine ⟨_,rfl,(by show 2<=sizeLine;decide),fun p5 hp5=>?_⟩
  have U5:=U4.trans s5;have n5:=qAX (Sd.same U5) hp5;obtain ⟨G6,e_,s6,g5⟩:=qAB hp5 (.tup [.ref q4,.ref l]);rw [e_];have U6:=U5.trans s6;have VV:=Vd.trans (qA5 (d:=d) (c:=c) U6);have ll:=l3 false VV ⟨nld,nlc⟩ (U6 _ _ glD) (by lia) fun x hx=>hx
  have a1:=pr true n5 g5 (by show 2<=3;decide) (two (i3 true m4 (s6 _ _ h4) (by rw [A0,hpm.length_eq];lia) fun x hx=>by
   obtain ⟨z,hz,rfl⟩:=D7.mp hx;rcases B1.mp (mem_dedI.mp (hpm.mem_iff.mp hz)) with h | h
   ·have:=wb z h;exact aI (by lia)
   ·rw [A8.mp h];exact aI (by lia)) ll)
  refine ⟨_,rfl,(by show 2<=sizeLine;decide),fun p2 hp2=>?_⟩
  have n2:=qAX (Sd.same U6) hp2;obtain ⟨G7,e_,s7,g2⟩:=qAB hp2 (.tup [.non,.ref l]);rw [e_];have U7:=U6.trans s7;have a1:=a1.same (qA5 s7);have ll:=ll.same (qA5 s7);have a2:=pr true n2 g2 (by show 2<=3;decide) (two .non ll)
  refine ⟨(by show 0<=sizeLine;decide),fun e0 he0=>?_⟩
  have ne:=qAX (Sd.same U7) he0;obtain ⟨G8,e_,s8,g8⟩:=qAB he0 (.tup []);rw [e_];have U8:=U7.trans s8;refine ⟨_,rfl,(by show 2<=sizeLine;decide),fun p3 hp3=>?_⟩
  have n3:=qAX (Sd.same U8) hp3;obtain ⟨G9,e_,s9',g9⟩:=qAB hp3 (.tup [.ref e0,.ref l]);rw [e_];have U9:=U8.trans s9';have s89:=s8.trans s9';have a1:=a1.same (qA5 s89);have a2:=a2.same (qA5 s89);have ll:=ll.same (qA5 s89);have a3:=pr true n3 g9 (by show 2<=3;decide) (two (i3 true ne (s9' _ _ g8) (D8 _) fun z hz=>nomatch hz) ll)
  refine ⟨(by show 3<=sizeLine;decide),fun L2 hL2=>?_⟩
  obtain ⟨Y2,eY⟩:∃ Y:List V,Y=[.ref p5,.ref p2,.ref p3]:=⟨_,rfl⟩;have aY2:∀ x ∈ Y2,AnyM (red d c G9) 5 400000 x:=fun x hx=>by
   rw [eY] at hx;simp only [B6,F7,or_false] at hx;rcases hx with rfl | rfl | rfl
   ·exact a1
   ·exact a2
   ·exact a3
  have lY2:Y2.length=3:=by rw [eY];rfl
  rw [<- eY];obtain ⟨Gb,e_,sb',gL2⟩:=qAB hL2 (.lst Y2);rw [e_];have Ub:=U9.trans sb';refine ⟨M2,L2,_,_,rfl,rfl,Ub _ _ gM2,gL2,sz (by lia),fun M3 hM3=>?_⟩
  have nM3:=qAX (Sd.same Ub) hM3;obtain ⟨Ge,e_,se',gM3⟩:=qAB hM3 (.lst (Z2++Y2));rw [e_];have Ue:=Ub.trans se';have aZ3:∀ x ∈ Z2++Y2,AnyM (red d c Ge) 5 400000 x:=fun x hx=>(B1.mp hx).elim (fun h=>(aZ2 x h).same (qA5 Ue)) fun h=>(aY2 x h).same (qA5 (sb'.trans se'));have lZ3:(Z2++Y2).length=20:=by rw [A7,lZ2,lY2]
  generalize Z2++Y2=Z3 at gM3 aZ3 lZ3;have Ve:=Vd.trans (qA5 (d:=d) (c:=c) Ue);have Se:=Sd.same Ue;have Ke:=Kd.trans (Keep.of_same Ue);clear a1 a2 a3 aZ2 aY2 s1 s2 s3 s4 s5 s6 s7 s8 s9' s89 sb' se' g1 g2 g3 g4 g5 g8 g9 h1 h4 U2 U4 U5 U6 U7 U8 U9 Ub Ue VV ll eY n2 n3 n5 ne m4 ld hp1 hp2 hp3 hp5 he0 hb ha hq4 hpm hs hL2 hM3 gL2 lY2 gM2 lZ2 nM2;refine hN8 _ _ (cut fun N9 hN9=>?_);clear hN8
  -- a bent stand
  have gtE:=fromH Ve ntw gw;have glE:=fromH Ve ⟨nld,nlc⟩ gX;have lrX:X.length=rs.length:=by rw [eX,A0]
  refine ⟨_,rfl,_,rfl,_,rfl,_,rfl,_,rfl,l,_,rfl,SqL.of glE,fun p1 hp1=>?_⟩;have n1:=qAX Se hp1;obtain ⟨G1,e_,s1,g1⟩:=qAB hp1 (.lst (cutV X none (some k)));rw [e_];obtain ⟨r2,er2⟩:∃ r2,rs[k.toNat]?=some r2:=⟨_,A3 (by lia)⟩
  obtain ⟨z2,ez2,gz2⟩:=qBH SL er2;have bz2:=sb z2 (C3 ez2);have ey2:X[k.toNat]?=some (.ref r2):=by rw [eX,B5,er2];rfl
  have nz2:=S.tup gz2;have V1:=Ve.trans (qA5 (d:=d) (c:=c) s1);refine ⟨_,rfl,_,rfl,_,rfl,l,_,k,_,rfl,rfl,SqL.of (s1 _ _ glE),qDD k0 ey2,_,rfl,tw,_,rfl,.inr (SqT.of (s1 _ _ gtE)),d,c,t+1+1,ns3,r2,z2,_,rfl,Se.same s1,(by show t+1+1<=1000000000 - 500;lia),fromH V1 nz2 gz2,bz2.1,bz2.2,by lia,by lia,fun x t6 ns6 Ha Sa6 t61 t62 K6 ax=>?_⟩
  have p1a:=K6 _ _ g1 n1.1 n1.2;have V6:=V1.trans (qE4 K6);have glF:=fromH V6 ⟨nld,nlc⟩ gX;refine ⟨(by show 1<=sizeLine;decide),fun p2 hp2=>?_⟩
  obtain ⟨G2,e_,s2,g2⟩:=qAB hp2 (.lst [x]);rw [e_];refine ⟨p1,p2,_,_,rfl,rfl,s2 _ _ p1a,g2,sz (by have:=qNU X none (some k);show _+1<=400;lia),fun p3 hp3=>?_⟩
  obtain ⟨G3,e_,s3,g3⟩:=qAB hp3 (.lst (cutV X none (some k)++[x]));rw [e_];have U3:=s2.trans s3;refine ⟨_,rfl,_,rfl,_,rfl,l,_,rfl,SqL.of (U3 _ _ glF),fun p4 hp4=>?_⟩;obtain ⟨G4,e_,s4,g4⟩:=qAB hp4 (.lst (cutV X (some k) none));rw [e_];have c2:(cutV X none (some k)).length+(cutV X (some k) none).length<=70:=by
   have h1:cutV X none (some k)=X.take k.toNat:=by have e:=qP6 X k.toNat;rw [show ((k.toNat:Nat):Int)=k by lia] at e;exact e
   have h2:cutV X (some k) none=X.drop k.toNat:=by have e:=qQF X k.toNat (by lia);rw [show ((k.toNat:Nat):Int)=k by lia] at e;exact e
   rw [h1,h2,B9,F1]
   lia
  refine ⟨p3,p4,_,_,rfl,rfl,s4 _ _ g3,g4,sz (by rw [A7];show _+1+_<=400;lia),fun p5 hp5=>?_⟩
  have U4:=U3.trans s4;have n5:=qAX (Sa6.same U4) hp5;obtain ⟨B,eB⟩:∃ B,B=cutV X none (some k)++[x]++cutV X (some k) none:=⟨_,rfl⟩;have lB:B.length<=80:=by rw [eB,A7,A7];show _+1+_<=80;lia
  rw [<- eB];obtain ⟨G5,e_,s5,g5⟩:=qAB hp5 (.lst B);rw [e_];have U5:=U4.trans s5;have aB:∀ y ∈ B,AnyM (red d c G5) 2 1000 y:=fun y hy=>by
   have V5:=V6.trans (qA5 (d:=d) (c:=c) U5);rw [eB] at hy;rcases B1.mp hy with h | h
   ·rcases B1.mp h with h | h
    ·exact (((aS y (qKX h)).same V5).up).mono (by decide)
    ·rw [A8.mp h];exact ax.same (qA5 U5)
   ·exact (((aS y (qKX h)).same V5).up).mono (by decide)
  have b3:AnyM (red d c G5) 3 80080 (.ref p5):=AnyM.seq (b:=false) (n:=2) (W:=1000) (L:=80) (qEH n5 g5) lB (by decide) aB
  refine ⟨(by show 2<=sizeLine;decide),fun p6 hp6=>?_⟩
  have n6:=qAX (Sa6.same U5) hp6;obtain ⟨G6,e_,s6,g6⟩:=qAB hp6 (.tup [.ref tw,.ref p5]);rw [e_];have U6:=U5.trans s6;have a1:=pr true n6 g6 (by show 2<=3;decide) (two (w3 (V6.trans (qA5 U6))) (b3.same (qA5 s6)))
  refine ⟨(by show 1<=sizeLine;decide),fun L1 hL1=>?_⟩
  obtain ⟨G7,e_,s7,g7⟩:=qAB hL1 (.lst [.ref p6]);rw [e_];refine ⟨L1,8,_,rfl,rfl,g7,by decide,by decide,(by show 1 * 8<=sizeLine;decide),fun L8 hL8=>?_⟩
  obtain ⟨G8,e_,s8,g8⟩:=qAB hL8 (.lst (E4 (8:Int).toNat [V.ref p6]).flatten);rw [e_];have U8:=(U6.trans s7).trans s8;have gM4:=U8 _ _ (K6 _ _ (s1 _ _ gM3) nM3.1 nM3.2);refine ⟨M3,L8,_,_,rfl,rfl,gM4,g8,sz (by rw [lZ3,qNE];show 20+(8:Int).toNat * 1<=400;decide),fun M4 hM4=>?_⟩
  have n4:=qAX (Sa6.same U8) hM4;obtain ⟨G9,e_,s9',g9⟩:=qAB hM4 (.lst (Z3++(E4 (8:Int).toNat [V.ref p6]).flatten));rw [e_];have U9:=U8.trans s9';have aW:∀ y ∈ Z3++(E4 (8:Int).toNat [V.ref p6]).flatten,AnyM (red d c G9) 5 400000 y:=fun y hy=>by
   rcases B1.mp hy with h | h
   ·exact (((aZ3 y h).same (qA5 s1)).same (qE4 K6)).same (qA5 U9)
   ·obtain ⟨z,h1,h2⟩:=List.mem_flatten.mp h;rw [List.eq_of_mem_replicate h1] at h2;rw [A8.mp h2];exact ((a1.same (qA5 s7)).same (qA5 s8)).same (qA5 s9')
  have lW:(Z3++(E4 (8:Int).toNat [V.ref p6]).flatten).length=28:=by rw [A7,lZ3,qNE];rfl
  generalize Z3++(E4 (8:Int).toNat [V.ref p6]).flatten=W at g9 aW lW;refine hN9 _ _ ?_;refine ⟨_,rfl,_,rfl,_,rfl,M4,_,rfl,.inl (SqL.of g9),d,c,t6,ns6,_,rfl,Sa6.same U9,(by show t6<=1000000000;lia),by lia,by lia,fun j ns7 Hz j0 j1 Sz Kz=>?_⟩
  have gMz:=Kz _ _ g9 n4.1 n4.2;obtain ⟨y,ey⟩:∃ y,W[j.toNat]?=some y:=⟨_,A3 (by lia)⟩
  refine ⟨M4,_,j,y,rfl,rfl,SqL.of gMz,qDD j0 ey,?_⟩;exact q y _ ns7 Hz Sz (by lia) (by lia) ((((Ke.trans (.of_same s1)).trans K6).trans (.of_same U9)).trans Kz) ((aW y (C3 ey)).same (qE4 Kz))
theorem qHY (m j:Nat):(2 ^ m - 1).testBit j=decide (j<m):=Nat.testBit_two_pow_sub_one m j
theorem qWL {Ae:List (List Int)} (wf:WFn Ae):∀ m,m<=Ae.length->Rm Ae (Ae.length:Int) m (2 ^ m - 1)
 | 0,_=>.zero
 | m+1,h=>by
  have ih:=qWL wf m (by lia)
  have hz:=A3 (show m<Ae.length by lia)
  have rz:=wf m _ hz;have e:2 ^ (m+1) - 1=(2 ^ m - 1) ||| 2 ^ m:=o7 fun j=>by
   rw [Nat.testBit_or,qHY,qHY,A66];by_cases c:j<m
   ·rw [decide_eq_true c,decide_eq_true (by lia:j<m+1),Bool.true_or]
   ·by_cases d:m=j
    ·rw [decide_eq_true d,decide_eq_true (by lia:j<m+1),Bool.or_true]
    ·rw [decide_eq_false c,decide_eq_false d,decide_eq_false (by lia:¬ j<m+1)];rfl
  rw [e];refine .do_ ih ⟨?_,by lia,?_⟩
  ·have lt:cntN Ae.length (2 ^ m - 1)<=m:=by
    unfold cntN;rw [Y3 (g:=fun k=>if (decide (k<m))=true then 1 else 0) fun k _=>by rw [qY0,qHY],qLD]
    have nd:((E6 Ae.length).filter fun k=>decide (k<m)).Nodup:=n0.filter _;exact qEZ nd fun b hb=>of_decide_eq_true (K9.mp hb).2
   lia
  ·unfold nxt;rw [hz];refine o7 fun j=>?_;rw [B34,qHY];show (decide (j<m) && (mskN Ae[m]).testBit j)=(mskN Ae[m]).testBit j;rw [qNA rz.up (fun x hx=>(rz.in_ x hx).1)];by_cases c:(j:Int) ∈ Ae[m]
   ·have:=(rz.in_ _ c).2;rw [decide_eq_true (by lia:j<m),J5]
   ·rw [decide_eq_false c,Q1]
theorem qSL {Ae:List (List Int)} {ws Ad:List Int} (wf:WFn Ae) (N:qCV Ae Ad ws):qJN Ae ws Ad (ws.length:Int):=by
 have wp:WFn (qBQ Ae ws):=qDR wf N.1;have R:=qWL wp _ (A6 _);rw [qC7] at R;refine ⟨_,_,R,o7 fun j=>?_⟩;rw [B34,qHY];unfold qQS;rw [qNA ((qFX _ _).filter _) (fun x hx=>(mem_rangeI.mp (K9.mp hx).1).1)];by_cases c:(j:Int) ∈ (qB8 0 ws.length).filter fun p=>decide ((ws[p.toNat]?).getD 0 ∈ Ad)
 ·have:=mem_rangeI.mp (K9.mp c).1;rw [decide_eq_true (by lia:j<ws.length),J5]
 ·rw [decide_eq_false c,Q1]
theorem qUS {Ae:List (List Int)} {ws Ad:List Int} (wf:WFn Ae) (N:qCV Ae Ad ws) (a1:1<=Ad.length):∃ r,qWN Ae ws Ad r/\r<=(ws.length:Int):=by
 have dn:=qSL wf N;have w1:1<=ws.length:=by
  cases Ad with
  | nil=>simp at a1
  | cons x Ad=>exact j7 ((N.2 x).mpr (.ask C9))
 obtain ⟨k,h1,h2⟩:=qOU (P:=fun k=>qJN Ae ws Ad ((k:Int)+1)) (ws.length - 1) (by rw [show (((ws.length - 1:Nat):Int)+1)=(ws.length:Int) by lia];exact dn)
 have kl:=h2 (ws.length - 1) (by rw [show (((ws.length - 1:Nat):Int)+1)=(ws.length:Int) by lia];exact dn)
 refine ⟨(k:Int)+1,⟨by lia,h1,fun r' r1 r2 d=>?_⟩,by lia⟩
 have:=h2 (r' - 1).toNat (by rw [show (((r' - 1).toNat:Nat):Int)+1=r' by lia];exact d)
 lia
theorem sc_law:FnScope ["_law_script","_law_state","_law_net_here","_law_asked_here","_law_least_here","_law_turn","_law_rooms","_law_thing","_law_seen","_law_told"] ["_law_script"] (qAE qIT):=qBP
theorem ok_law (F:Fun K "law" "law" qIT f fd) (qHN:Clb P w K mg base 1 qKR qSR "_law_begin" ["_law_script"] (qR2 K)) (qAT:Clb P w K mg base 1 qDL qDE "_law_take" ["_law_state","_law_many"] qFP) (qPG:Clb P w K mg base 3 qST qXQ "_law_net" ["_law_state","_law_many"] qYK) (qHO:Clb P w K mg base 2 qKS qSS "_law_asked" ["_law_state","_law_net_here"] qR3) (qHM:Clb P w K mg base 3 qKP qSQ "_law_least" ["_law_net_here","_law_asked_here"] qO4) (qDH:Clb P w K mg base 2 qEX qKN "_law_own_paper" ["_law_state","_law_net_here","_law_asked_here","_law_rooms"] qVP) (qL7:Clb P w K mg base 3 qNR qVB "_law_bent" ["_law_state","_law_paper","_law_many"] qR1) (qCW:Clb P w K mg base 6 qE8 qIV "shows_never" ["net","asked","rooms","thing"] qHB) (qEF:Clb P w K mg base 3 qFJ qMD "_law_is_never" ["_law_net_here","_law_asked_here","_law_rooms","_law_thing"] qHB) (qAR:mg "range" = none) (qAZ:mg "len" = none) (qPH:mg "max" = none) (qAN:mg "isinstance" = none) (qJ0:mg "bool" = none) (qWP:mg "str" = none):FnOk P w K mg base CX0 7 f fd ["_law_script"] (qU4 K):=by
 refine F.okA sc_law fun cdv A outer s H vs Q E hr h=>?_;obtain ⟨sc,ns,rfl,hS,h63,q⟩:=h;have hgd:=hr.gd;have hu64:=hr.units;refine ⟨_,(qA4 (qAJ (i:=1) sc_law.nd rfl (E8 rfl) (qAS qHN hr rfl (qA0 (pv 0) qA2))) (qA4 (qAJ (i:=2) sc_law.nd rfl (E8 rfl) (qAS qPG hr rfl (qA0 (pv 1) (qA0 (qAM qD2 qA8 (qAS qAT hr rfl (qA0 (pv 1) (qA0 qA8 qA2)))) qA2)))) (qA4 (qAJ (i:=3) sc_law.nd rfl (E8 rfl) (qAS qHO hr rfl (qA0 (pv 1) (qA0 (pv 2) qA2)))) (qA4 (qAJ (i:=4) sc_law.nd rfl (E8 rfl) (qAS qHM hr rfl (qA0 (pv 2) (qA0 (pv 3) qA2)))) (qA4 (qBY E1 rfl (qB0 rfl qAR (qA0 qA8 qA2)) (qAW (i:=5) sc_law.nd rfl (E8 rfl)) (qA4 (qAJ (i:=6) sc_law.nd rfl (E8 rfl) (qA9 (qIM rfl) rfl qPH qTI (qA0 qA8 (qA0 (qAM qD2 (pv 4) (qBL qC1 (qB4 (qA0 (qKE qFO qA8) (qA0 (qKE qFO qA8) (qA0 (qKE qFO qA8) (qA0 qA8 (qA0 (qKE qFO qA8) (qA0 qA8 qA2))))))) (qAS qAT hr rfl (qA0 (pv 1) (qA0 qA8 qA2))) (fun _ _=>rfl))) qA2)))) (qA4 (qAJ (i:=7) sc_law.nd rfl (E8 rfl) (qAS qL7 hr rfl (qA0 (pv 1) (qA0 (qAS qDH hr rfl (qA0 (pv 1) (qA0 (pv 2) (qA0 (pv 3) (qA0 (pv 6) qA2))))) (qA0 (qA9 qAA rfl qAZ qAY (qA0 (pv 2) qA2)) qA2))))) (qA4 (qAJ (i:=8) sc_law.nd rfl (E8 rfl) (qAD (qMH hgd hu64) rfl qWP qWH (qA0 (pv 7) qA2))) (qA4 (qAJ (i:=9) sc_law.nd rfl (E8 rfl) (qAS qCW hr rfl (qA0 (pv 2) (qA0 (pv 3) (qA0 (pv 6) (qA0 (pv 7) qA2)))))) (qA6 (qBI (PW.pt (qGI (qCA (qBX (qA9 qB6 rfl qAN qAU (qA0 (pv 9) (qA0 (qD1 (v:=.ty "bool") rfl qJ0 qNX rfl) qA2))))) (qGI (qAL qRQ (pv 9) (qAS qEF hr rfl (qA0 (pv 2) (qA0 (pv 3) (qA0 (pv 6) (qA0 (pv 7) qA2))))) (qAQ _)) (qF8 (qAL qRQ (qAD (qMH hgd hu64) rfl qWP qWH (qA0 (pv 7) qA2)) (pv 8) (qAQ _)))))) (qA6 (qAI qC9)) qAO))))))) (qA6 (qAI qC9))))))),?_⟩
 try dsimp only [Cx.nox,Cx.wish,cxOf]
 refine cut fun N0 hN0=>?_;refine ⟨_,rfl,sc,ns,rfl,hS,h63,fun d c ms1 H1 S1 sm0 hd0 hc0=>?_⟩;refine hN0 _ _ (cut fun N1 hN1=>?_);refine ⟨_,rfl,_,rfl,d,c,0,ms1,_,rfl,S1,(by show (0:Int)<=1000000000;decide),by decide,by decide,fun k ms2 H2 k0 k1 S2 K2=>?_⟩
 refine ⟨_,_,rfl,rfl,d,c,0+1,ms2,_,rfl,S2,(by show (0:Int)+1<=1000000000 - 10000;decide),by lia,by lia,fun a Ae t3 ms3 H3 S3 g3 g4 K3 hN wf nk=>?_⟩
 have n6:1<=Ae.length/\Ae.length<=6:=by lia
 refine hN1 _ _ (cut fun N2 hN2=>?_);refine ⟨_,rfl,_,rfl,d,c,t3,ms3,a,Ae,rfl,S3,(by show t3<=1000000000 - 100;lia),hN,wf,n6.1,by lia,fun ta Ad t4 ms4 H4 S4 g5 g6 K4 hW rA a1=>?_⟩
 have hN4:=hN.keep S3 K4;obtain ⟨ws,N⟩:=qRV wf rA;obtain ⟨r,LR,rle⟩:=qUS wf N a1;have lw:=N.1.len;have r1:=LR.1;refine hN2 _ _ (cut fun N3 hN3=>?_);refine ⟨_,rfl,_,rfl,a,ta,Ae,Ad,ws,r,rfl,hN4,wf,by lia,⟨hW,rA⟩,N,LR,fun H5 s5=>?_⟩
 refine hN3 _ _ (cut fun N4 hN4'=>?_);have S5:=S4.same s5;have hN5:=hN4.same s5;have hW5:=s5 _ _ hW;have nta:=S4.tup hW;have nta5:=S5.tup hW5;obtain ⟨ra,hA,NL⟩:=id hN5;have lra:=C6 NL;refine ⟨10,rfl,by decide,by decide,qDX (lo:=0) (n:=10) (fun i σ Hc=>∃ (t:Int) (ms:List Int) (v5 v6 v7 v8 v9:Option V),σ=[some (.ref sc),some (.ref d),some (.ref a),some (.ref ta),some (.int r),v5,v6,v7,v8,v9]/\StAt Hc d c t ms/\t<=1000+300 * i/\Keep d c H5 Hc)
  ⟨t4,ms4,none,none,none,none,none,rfl,S5,by lia,Keep.refl⟩ ?_ ?_⟩
 ·refine fun i σ Hc hi hI_1=>opq fun G_1 hG_1=>?_;obtain ⟨t,ms,v5,v6,v7,v8,v9,rfl,Sc,t1,Kc⟩:=hI_1;refine hG_1 ?_;refine nmD fun D1 d1 dr=>?_;refine cut fun L0 hL0=>?_;refine ⟨_,rfl,_,rfl,_,rfl,_,rfl,_,rfl,(by show 6<=sizeLine;decide),fun lr hlr=>?_⟩
  obtain ⟨Z,eZ⟩:∃ Z:List Int,Z=[-1,-1,-1,0,-2,1]:=⟨_,rfl⟩;have lZ:Z.length=6:=by rw [eZ];rfl
  obtain ⟨Hr,e_,sr,gr⟩:=qAB hlr (.lst (Z.map V.int));rw [show ([V.int (-1),.int (-1),.int (-1),.int 0,.int (-2),.int 1]:List V)=Z.map V.int by rw [eZ];rfl]
  rw [e_];have nr:=qAX Sc hlr;have Sr:=Sc.same sr;refine ⟨_,rfl,d,c,t,ms,_,rfl,Sr,(by show t<=1000000000;lia),by decide,by decide,fun j ms6 H6 j0 j1 S6 K6=>?_⟩
  obtain ⟨z,ez⟩:∃ z,Z[j.toNat]?=some z:=⟨_,A3 (by lia)⟩
  refine ⟨lr,_,j,_,rfl,rfl,SqL.of (K6 _ _ gr nr.1 nr.2),qDD j0 (x:=.int z) (by rw [B5,ez];rfl),_,_,rfl,rfl,_,_,rfl,?_⟩
  obtain ⟨Aa,er⟩:∃ q,q=(if r+z > 1 then r+z else 1):=⟨_,rfl⟩
  have K56:=Kc.trans ((Keep.of_same sr).trans K6);have hN6:=hN5.keep S5 K56;have hW6:=K56 _ _ hW5 nta5.1 nta5.2;show L0 (List.set _ 6 (some (.int (if r+z > 1 then r+z else 1)))) _
  rw [<- er];refine hL0 _ _ (cut fun L1 hL1=>?_);refine ⟨_,rfl,_,rfl,_,rfl,_,rfl,_,rfl,d,c,t+1,ms6,a,ta,Ae,Ad,Aa,rfl,S6,(by show t+1<=1000000000 - 1000;lia),hN6,wf,n6.1,n6.2,⟨hW6,rA⟩,fun T tw l os rs ss t7 ms7 H7 S7 t71 t72 K7 gT gw gl nld nlc SL lo ob l70 sb=>?_⟩
  have K57:=K56.trans K7;have hA7:=K57 _ _ hA (S5.tup hA).1 (S5.tup hA).2;refine ⟨_,rfl,a,_,rfl,.inr (SqT.of hA7),d,c,t7,ms7,T,tw,l,os,rs,ss,_,rfl,S7,(by show t7<=1000000000 - 1000;lia),gT,gw,gl,nld,nlc,SL,lo,ob,l70,sb,by rw [A0,lra];lia,by rw [A0,lra];lia,fun x t8 ms8 H8 S8 t81 t82 K8 Ax=>?_⟩
  have K58:=K57.trans K8;have hN8:=hN5.keep S5 K58;have hW8:=K58 _ _ hW5 nta5.1 nta5.2;obtain ⟨dt,D,S,LD⟩:=Ax;have D:=D.same qKB;have hsz:dt.shown.length<=sizeLine:=by
   have a:=PyData.shown_le 8 (by decide) dt S.ls
   have b:=S.wt;rw [sizeLine_eq]
   lia
  refine hL1 _ _ (cut fun L2 hL2=>?_);refine ⟨_,rfl,x,5,dt,rfl,D,by decide,S.sh,S.nd,hsz,fun z1 ⟨g1',e1',eg1⟩=>?_⟩
  refine hL2 _ _ (cut fun L3 hL3=>?_);refine ⟨_,rfl,_,rfl,_,rfl,_,rfl,a,ta,Ae,Ad,Aa,x,5,dt,rfl,hN8,wf,by lia,⟨hW8,rA⟩,D,LD,fun H9 s9=>?_⟩
  refine hL3 _ _ ?_;refine ⟨_,rfl,_,"bool",_,true,rfl,.bl _,rfl,true,rfl,?_⟩;refine iteF ?_;refine ⟨_,rfl,_,rfl,_,rfl,_,rfl,_,rfl,a,ta,Ae,Ad,Aa,x,5,dt,rfl,hN8.same s9,wf,by lia,⟨s9 _ _ hW8,rA⟩,D.same s9,LD,fun H10 s10=>?_⟩
  refine ⟨rfl,_,rfl,?_⟩;refine ite2 (fun h=>absurd h (by rw [decide_eq_true rfl];decide)) (fun _=>?_)
  refine ⟨_,rfl,x,5,dt,rfl,D.same (s9.trans s10),by decide,S.sh,S.nd,hsz,fun z2 ⟨g2',e2',eg2⟩=>?_⟩
  have ez:z2=z1:=by rw [e1',e2',eg1,eg2]
  refine ⟨_,rfl,rfl,_,rfl,?_⟩;refine ite2 (fun h=>absurd h (by rw [ez,decide_eq_true rfl];decide)) (fun _=>?_)
  exact d1 _ _ ⟨t8,ms8,_,_,_,_,_,rfl,S8.same (s9.trans s10),by lia,K58.trans (Keep.of_same (s9.trans s10))⟩
 ·refine fun σ Hc hI_2=>opq fun G_2 hG_2=>?_;obtain ⟨t,ms,v5,v6,v7,v8,v9,rfl,Sc,t1,Kc⟩:=hI_2;refine hG_2 ?_;refine hN4' _ _ ?_;exact q Hc
end
theorem all_mk {l:PySem.W.OpenLaw} {w:World} {K:PySem.W.Frag} {h:Heap} {mg:Str->Option Value} {fa qFH qGR qE9 qIC qGQ qEA qGS qDK qID qGP qEV qGO qEW qD4 qE8 qKR qDL qEB qFI qST qKS qG8 qNP qIG qKQ qIF qNQ qGT qKP qIE qKO qFJ qEX qEC qNR qXR:Addr} (X:K.In h) (G:h.Ns mainGlobals mg) (hfa:mg "law" = some (.ref fa))
  {qZ4 qWK:Option Addr} {qYM:Array (Option Value)} {qZ5 qW5 qWE qVX qTA qWF:Value}
  (T_is_number:Tf K "is_number" qE0 qFH)
  (T_is_below:Tf K "is_below" qF4 qGR)
  (T_is_rising:Tf K "is_rising" qDZ qE9)
  (T_is_pair:Tf K "is_pair" qFR qIC)
  (T_is_stand:Tf K "is_stand" qF3 qGQ)
  (T_fault_of_do:Tf K "fault_of_do" qCO qEA)
  (T_fault_of:Tf K "fault_of" qF5 qGS)
  (T_stand_behind:Tf K "stand_behind" qCG qDK)
  (T_has_all:Tf K "has_all" qFS qID)
  (T_moves_of:Tf K "moves_of" qF2 qGP)
  (T_renumbered:Tf K "renumbered" qD9 qEV)
  (T_part_net:Tf K "part_net" qF1 qGO)
  (T_are_closed:Tf K "are_closed" qDA qEW)
  (T_never_come_to:Tf K "never_come_to" qC5 qD4)
  (T_shows_never:Tf K "shows_never" qCN qE8)
  (T_Lbegin:Tf K "_law_begin" qHE qKR)
  (T_Ltake:Tf K "_law_take" qK5 qDL)
  (T_Lsome_needs:Tf K "_law_some_needs" qCP qEB)
  (T_Ltree_net:Tf K "_law_tree_net" qE1 qFI)
  (T_Lnet:Tf K "_law_net" qO9 qST)
  (T_Lasked:Tf K "_law_asked" qHF qKS)
  (T_Lneeded:Tf K "_law_needed" qFU qG8)
  (T_Lword:Tf K "_law_word" qK4 qNP)
  (T_Lbehind:Tf K "_law_behind" qFV qIG)
  (T_Lcome:Tf K "_law_come" qK7 qKQ)
  (T_Lpart:Tf K "_law_part" qK6 qIF)
  (T_Lbits:Tf K "_law_bits" qK8 qNQ)
  (T_Ldone_in:Tf K "_law_done_in" qF6 qGT)
  (T_Lleast:Tf K "_law_least" qHD qKP)
  (T_Lrising:Tf K "_law_rising" qFT qIE)
  (T_Lstays:Tf K "_law_stays" qHC qKO)
  (T_Lis_never:Tf K "_law_is_never" qE2 qFJ)
  (T_Lown_paper:Tf K "_law_own_paper" qDB qEX)
  (T_Lbent_stand:Tf K "_law_bent_stand" qCQ qEC)
  (T_Lbent:Tf K "_law_bent" qK9 qNR)
  (qb6:A40 K mainGlobals "law" = some (some (.ref qXR))) (qaT:K.lookup qXR=some ⟨qZ5,qZ4,.func (T8 "law" "law" (qEY qIT) (qDM qIT) (qAE qIT) .none qW5 qWE qVX qWK qTA qWF),qYM⟩) (qb5:x6 K qTA "law" = true) (qaV:V8 K (.ref qXR)=true)
  (Z:Zs K ["all","any","bool","dict","divmod","enumerate","int","isinstance","len","list","max","min","range","set","sorted","str","sum","tuple","zip"])
  : ∃ fd:FuncData,(∀ (s:Shared) (v:Value),BindsTo s fd ⟨[v],[]⟩ [("_law_script",v)])/\∀ base:Heap,K.In base->base.Ns mainGlobals mg->FnOk l.prog w K mg base CX0 7 fa fd ["_law_script"] (qU4 K):=by
 have e:=hfa.symm.trans (B48 X G qb6);cases e;have qb7:=fun_mk (st:=qIT) qaT qb5 qaV;obtain ⟨qbE,qbD,qWO,qZU,qY7,qVJ,qbC,qJU,qY6,qZT,qY5,qbB,qTW,qbA,qY4,qY3,qb9,qZR,qb8,_⟩:=Z.mg X G;refine ⟨T8 "law" "law" (qEY qIT) (qDM qIT) (qAE qIT) .none qW5 qWE qVX qWK qTA qWF,fun s v=>.of_eq rfl,fun base _ _=>?_⟩;have B:Bs l.prog w base:=⟨rfl,rfl,rfl⟩;obtain ⟨_,qIQ⟩:=T_is_number.c X G B fun _ F=>by apply ok_is_number <;> assumption
 obtain ⟨_,qJR⟩:=T_is_below.c X G B fun _ F=>by apply ok_is_below <;> assumption
 obtain ⟨_,qED⟩:=T_is_rising.c X G B fun _ F=>by apply ok_is_rising <;> assumption
 obtain ⟨_,qMR⟩:=T_is_pair.c X G B fun _ F=>by apply ok_is_pair <;> assumption
 obtain ⟨_,qJQ⟩:=T_is_stand.c X G B fun _ F=>by apply ok_is_stand <;> assumption
 obtain ⟨_,qGC⟩:=T_fault_of_do.c X G B fun _ F=>by apply ok_fault_of_do <;> assumption
 obtain ⟨_,qJS⟩:=T_fault_of.c X G B fun _ F=>by apply ok_fault_of <;> assumption
 obtain ⟨_,qFD⟩:=T_stand_behind.c X G B fun _ F=>by apply ok_stand_behind <;> assumption
 obtain ⟨_,qMS⟩:=T_has_all.c X G B fun _ F=>by apply ok_has_all <;> assumption
 obtain ⟨_,qJP⟩:=T_moves_of.c X G B fun _ F=>by apply ok_moves_of <;> assumption
 obtain ⟨_,qH1⟩:=T_renumbered.c X G B fun _ F=>by apply ok_renumbered <;> assumption
 obtain ⟨_,qJO⟩:=T_part_net.c X G B fun _ F=>by apply ok_part_net <;> assumption
 obtain ⟨_,qH2⟩:=T_are_closed.c X G B fun _ F=>by apply ok_are_closed <;> assumption
 obtain ⟨_,qF0⟩:=T_never_come_to.c X G B fun _ F=>by apply ok_never_come_to <;> assumption
 obtain ⟨_,qCW⟩:=T_shows_never.c X G B fun _ F=>by apply ok_shows_never <;> assumption
 obtain ⟨_,qHN⟩:=T_Lbegin.c X G B fun _ F=>by apply ok_Lbegin <;> assumption
 obtain ⟨_,qAT⟩:=T_Ltake.c X G B fun _ F=>by apply ok_Ltake <;> assumption
 obtain ⟨_,qEE⟩:=T_Lsome_needs.c X G B fun _ F=>by apply ok_Lsome_needs <;> assumption
 obtain ⟨_,qIR⟩:=T_Ltree_net.c X G B fun _ F=>by apply ok_Ltree_net <;> assumption
 obtain ⟨_,qPG⟩:=T_Lnet.c X G B fun _ F=>by apply ok_Lnet <;> assumption
 obtain ⟨_,qHO⟩:=T_Lasked.c X G B fun _ F=>by apply ok_Lasked <;> assumption
 obtain ⟨_,qGD⟩:=T_Lneeded.c X G B fun _ F=>by apply ok_Lneeded <;> assumption
 obtain ⟨_,qTR⟩:=T_Lword.c X G B fun _ F=>by apply ok_Lword <;> assumption
 obtain ⟨_,qMT⟩:=T_Lbehind.c X G B fun _ F=>by apply ok_Lbehind <;> assumption
 obtain ⟨_,qL6⟩:=T_Lcome.c X G B fun _ F=>by apply ok_Lcome <;> assumption
 obtain ⟨_,qGW⟩:=T_Lpart.c X G B fun _ F=>by apply ok_Lpart <;> assumption
 obtain ⟨_,qTS⟩:=T_Lbits.c X G B fun _ F=>by apply ok_Lbits <;> assumption
 obtain ⟨_,qJT⟩:=T_Ldone_in.c X G B fun _ F=>by apply ok_Ldone_in <;> assumption
 obtain ⟨_,qHM⟩:=T_Lleast.c X G B fun _ F=>by apply ok_Lleast <;> assumption
 obtain ⟨_,qIS⟩:=T_Lrising.c X G B fun _ F=>by apply ok_Lrising <;> assumption
 obtain ⟨_,qPF⟩:=T_Lstays.c X G B fun _ F=>by apply ok_Lstays <;> assumption
 obtain ⟨_,qEF⟩:=T_Lis_never.c X G B fun _ F=>by apply ok_Lis_never <;> assumption
 obtain ⟨_,qDH⟩:=T_Lown_paper.c X G B fun _ F=>by apply ok_Lown_paper <;> assumption
 obtain ⟨_,qGE⟩:=T_Lbent_stand.c X G B fun _ F=>by apply ok_Lbent_stand <;> assumption
 obtain ⟨_,qL7⟩:=T_Lbent.c X G B fun _ F=>by apply ok_Lbent <;> assumption
 exact ok_law (P:=l.prog) (w:=w) (mg:=mg) (base:=base) (F:=qb7) (qHN:=qHN) (qPG:=qPG) (qAT:=qAT) (qHO:=qHO) (qHM:=qHM) (qL7:=qL7) (qDH:=qDH) (qCW:=qCW) (qEF:=qEF) (qJ0:=qWO) (qAN:=qJU) (qAZ:=qY6) (qPH:=qY5) (qAR:=qTW) (qWP:=qY3)
theorem walk {l:PySem.W.OpenLaw} {q:Program} {loose:List Str} {XP:(Str->Option Value)->Heap->Prop} {YP:World->Heap->Prop} {d:DefRec} {K:Params->PySem.W.Frag} (hn:l.most=some 63) (hdf:d.params.defaults=[])
  (hY:∀ (w:World) (h:Heap),YP w h->(K w.params).In h)
  (F:∀ (w:World) (mg:Str->Option Value) (fa:Addr) (h:Heap),(K w.params).In h->h.Ns mainGlobals mg->mg d.name=some (.ref fa)->
   ∃ fd:FuncData,(∀ (s:Shared) (u:Value),BindsTo s fd ⟨[u],[]⟩ [("_law_script",u)])/\∀ base:Heap,(K w.params).In base->base.Ns mainGlobals mg->FnOk l.prog w (K w.params) mg base CX0 7 fa fd ["_law_script"] (qU4 (K w.params))) :
  PySem.W.WalkO q loose XP YP l.row.toRowW d [] (fun f vs=>B40 f vs):=
 L2.walk_of (n:=63) (k:=7) (x:="_law_script") (CX:=fun _=>CX0) (sp:=fun w=>qU4 (K w.params)) hn (by decide) hdf ⟨rfl,by decide,by decide,rfl⟩ hY F (fun _ _ a ns hl _ hS=>⟨a,ns,rfl,hS,hl,fun _=>rfl⟩) fun _ _ _ _ _ z=>z
end Fw
open PySem PySem.W PyProof.Rows
set_option maxRecDepth 100000 in
set_option maxHeartbeats 0 in
theorem PySem.Challenge.cw_fewrooms_k32_never_shown_holds : PySem.Challenge.rw_fewrooms_k32_never_shown.Holds := by
 w_on;refine holds_law Fw.hpSaid fun said=>?_
 refine holds_open (q:=Fw.hpQ) (Xt:=Fw.hpX) (XP:=XL Fw.hpQ []) (YP:=(kHook Fw.hpK Fw.hpA Fw.hpE).says)
  Fw.hpLeft (kHook Fw.hpK Fw.hpA Fw.hpE).of (kHook Fw.hpK Fw.hpA Fw.hpE).keeps (fun s e=>xl_of s (A52.mp e).1) XL.keeps
  (by rfl) (by rfl) (by rfl) (fun s e=>recFacts_of (A52.mp e).2) (by rfl)
  (by first | assumption | decide +kernel) (by decide +kernel) ⟨rfl,rfl,rfl,rfl,rfl,by decide +kernel⟩ ?hw ?hc
 case hw=>w_witness2
 k_fill
 refine Fw.walk (l:=PySem.Challenge.rw_fewrooms_k32_never_shown) rfl rfl (fun w h Y=>PySem.W.kIn_of Y) ?F
 case F=>
  intro w mg fa h KX G hmg;refine' Fw.all_mk KX G hmg ?_ ?_ ?_ ?_ ?_ ?_ ?_ ?_ ?_ ?_ ?_ ?_ ?_ ?_ ?_ ?_ ?_ ?_ ?_ ?_ ?_ ?_ ?_ ?_ ?_ ?_ ?_ ?_ ?_ ?_ ?_ ?_ ?_ ?_ ?_ ?_ ?_ ?_ ?_ ?_
  any_goals first | exact ⟨by k_is,_,L2.fun_mk (by k_is) (by k_is) (by k_is)⟩ | k_is | kernel_rfl
  any_goals (repeat (refine ⟨by k_is,?_⟩))
  any_goals exact trivial

